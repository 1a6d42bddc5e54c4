/-
  The inner text of takeWhole: a contract that the statements' walks use.
-/
import Derived.Test.YtehejibllkmflaaRd
namespace Go.Proofs.Ytehejibllkmflaa
open Go.RowKit
set_option linter.unusedVariables false
set_option maxRecDepth 20000

/-- What is left behind all whole instructions: the table's words, the bytes taken, the error that ended it (0: none). -/
structure WR where
  cap : Int
  g : Nat
  es : List Fd
  p : Nat
  e : Int
def whl (most : Int) : Nat → Int → Nat → List Fd → List Int → Nat → WR
  | 0, cap, g, es, _, p => ⟨cap, g, es, p, 0⟩
  | n + 1, cap, g, es, zs, p => if p = zs.length then ⟨cap, g, es, p, 0⟩ else match takO most cap g es zs p (zs.getD p 0).toNat with
    | .bad z => ⟨cap, g, es, p, z⟩
    | .ok cap' g' es' q => whl most n cap' g' es' zs q
theorem shrL_sum {m : Int} (hm : 0 ≤ m) : ∀ (es : List Fd) (g : Nat), sumF (shrL m g es).2 ≤ m
  | [], g => by simp [shrL, sumF]; omega
  | a :: r, g => by
    rw [shrL]
    split
    · exact shrL_sum hm r (g + 1)
    · next h => simp only; omega
theorem insO_ok {cap : Int} {g : Nat} {es : List Fd} {f : Fd} {q0 : Nat} {cap' : Int} {g' : Nat} {es' : List Fd} {q : Nat} (h : insO cap g es f q0 = .ok cap' g' es' q) : cap' = cap ∧ q = q0 ∧ g' + es'.length = g + es.length + 1 ∧ sumF es' ≤ cap := by
  unfold insO at h
  split at h
  · cases h
  · next hc =>
    cases h
    refine ⟨rfl, rfl, ?_, ?_⟩
    · rw [List.length_append, List.length_singleton]
      have := shrL_len (cap - szF f) es g
      omega
    · rw [sumF_app]
      have := shrL_sum (m := cap - szF f) (by omega) es g
      omega
theorem insO_bad {cap : Int} {g : Nat} {es : List Fd} {f : Fd} {q0 : Nat} {z : Int} (h : insO cap g es f q0 = .bad z) : z = 161 := by
  unfold insO at h
  split at h
  · cases h; rfl
  · cases h
theorem numO_bad {zs : List Int} {p : Nat} {b z : Int} (h : numO zs p b = .bad z) : z = 12 ∨ z = 163 := by
  unfold numO at h
  split at h
  · cases h; exact .inl rfl
  · split at h
    · cases h; exact .inr rfl
    · cases h
theorem txtO_bad {zs : List Int} {p : Nat} {b z : Int} (h : txtO zs p b = .bad z) : z = 12 ∨ z = 163 := by
  unfold txtO at h
  split at h
  · cases h; exact .inl rfl
  · split at h
    · cases h; exact .inr rfl
    · cases h
/-- What an instruction that was taken has left. -/
theorem takO_ok {most cap : Int} {g : Nat} {es : List Fd} {zs : List Int} {p y : Nat} {cap' : Int} {g' : Nat} {es' : List Fd} {q : Nat} (hz : ∀ y ∈ zs, 0 ≤ y ∧ y < 256) (h : takO most cap g es zs p y = .ok cap' g' es' q) (hc : 0 ≤ cap ∧ cap ≤ 100000000) (hm : most ≤ 100000000) :
    p < q ∧ q ≤ zs.length ∧ g' + es'.length ≤ g + es.length + 1 ∧ sumF es' ≤ cap' ∧ 0 ≤ cap' ∧ cap' ≤ 100000000 := by
  unfold takO at h
  split at h
  · unfold nmdO at h
    cases hn : numO zs p 6 with
    | bad z => rw [hn] at h; cases h
    | ok n q1 =>
      rw [hn] at h
      simp only at h
      have h1 := num_le hz hn
      cases ht : txtO zs q1 7 with
      | bad z => rw [ht] at h; simp only at h; split at h; cases h; split at h <;> cases h
      | ok s q2 =>
        rw [ht] at h
        simp only at h
        have h2 := txt_le hz ht
        split at h
        · cases h
        · obtain ⟨rfl, rfl, h3, h4⟩ := insO_ok h
          exact ⟨by omega, h2.1, by omega, h4, hc.1, hc.2⟩
  · split at h
    · unfold plnO at h
      cases hn : txtO zs p 5 with
      | bad z => rw [hn] at h; cases h
      | ok s q1 =>
        rw [hn] at h
        simp only at h
        have h1 := txt_le hz hn
        cases ht : txtO zs q1 7 with
        | bad z => rw [ht] at h; cases h
        | ok t q2 =>
          rw [ht] at h
          simp only at h
          have h2 := txt_le hz ht
          obtain ⟨rfl, rfl, h3, h4⟩ := insO_ok h
          exact ⟨by omega, h2.1, by omega, h4, hc.1, hc.2⟩
    · split at h
      · unfold capO at h
        cases hn : numO zs p 5 with
        | bad z => rw [hn] at h; cases h
        | ok n q1 =>
          rw [hn] at h
          simp only at h
          have h1 := num_le hz hn
          split at h
          · cases h
          · cases h
            have h2 := shrL_len cap' es g
            exact ⟨h1.2.1, h1.1, by omega, shrL_sum h1.2.2.1 es g, h1.2.2.1, by omega⟩
      · unfold repO at h
        cases hn : numO zs p 5 with
        | bad z => rw [hn] at h; cases h
        | ok n q1 =>
          rw [hn] at h
          simp only at h
          have h1 := num_le hz hn
          split at h
          · cases h
          · obtain ⟨rfl, rfl, h3, h4⟩ := insO_ok h
            exact ⟨h1.2.1, h1.1, by omega, h4, hc.1, hc.2⟩
theorem takO_bad {most cap : Int} {g : Nat} {es : List Fd} {zs : List Int} {p y : Nat} {z : Int} (h : takO most cap g es zs p y = .bad z) : z ≠ 0 := by
  unfold takO at h
  split at h
  · unfold nmdO at h
    split at h
    · next hn => cases h; rcases numO_bad hn with rfl | rfl <;> decide
    · split at h
      · next ht =>
        split at h
        · cases h; decide
        · split at h
          · cases h; rcases txtO_bad ht with rfl | rfl <;> decide
          · cases h; decide
      · split at h
        · cases h; decide
        · rw [insO_bad h]; decide
  · split at h
    · unfold plnO at h
      split at h
      · next hn => cases h; rcases txtO_bad hn with rfl | rfl <;> decide
      · split at h
        · next ht => cases h; rcases txtO_bad ht with rfl | rfl <;> decide
        · rw [insO_bad h]; decide
    · split at h
      · unfold capO at h
        split at h
        · next hn => cases h; rcases numO_bad hn with rfl | rfl <;> decide
        · split at h
          · cases h; decide
          · cases h
      · unfold repO at h
        split at h
        · next hn => cases h; rcases numO_bad hn with rfl | rfl <;> decide
        · split at h
          · cases h; decide
          · rw [insO_bad h]; decide
end Go.Proofs.Ytehejibllkmflaa
