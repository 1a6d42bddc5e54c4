/-
  What is read has no number and no bytes but those of the table: plain mathematics.
-/
import Derived.Test.YtidbimhcebfjfaaDecM
namespace Go.Proofs.Ytidbimhcebfjfaa
open Go.RowKit
set_option linter.unusedVariables false

/-- Only what the table names. -/
structure Std (m : Pm) : Prop where
  n : ∀ i, kd i ≠ 1 → m.num i = 0
  h : ∀ i, ¬ (kd i = 2 ∨ kd i = 3) → m.has i = false
theorem std_us : Std usM := by
  refine ⟨fun i hi => ?_, fun i _ => rfl⟩
  show (if i = 3 then (65527 : Int) else if i = 10 then 3 else if i = 11 then 25 else if i = 14 then 2 else 0) = 0
  have h3 : i ≠ 3 := fun e => hi (by rw [e]; rfl)
  have h10 : i ≠ 10 := fun e => hi (by rw [e]; rfl)
  have h11 : i ≠ 11 := fun e => hi (by rw [e]; rfl)
  have h14 : i ≠ 14 := fun e => hi (by rw [e]; rfl)
  rw [if_neg h3, if_neg h10, if_neg h11, if_neg h14]
theorem std_ze : Std zeM := ⟨fun _ _ => rfl, fun _ _ => rfl⟩
theorem std_tkn {m m1 : Pm} {i : Nat} {v : List Int} (hm : Std m) (ht : tkn m i v = some m1) : Std m1 := by
  unfold tkn at ht
  by_cases h1 : kd i = 1
  · rw [if_pos h1] at ht
    by_cases hr : ((rd v 0).2.2 == 0 && (rd v 0).2.1 == (v.length : Int)) = true
    · rw [if_pos hr] at ht
      rw [← Option.some.inj ht]
      refine ⟨fun j hj => ?_, hm.h⟩
      show (if j = i then (rd v 0).1 else m.num j) = 0
      rw [if_neg (fun e => hj (by rw [e]; exact h1))]; exact hm.n j hj
    · rw [if_neg hr] at ht; cases ht
  · rw [if_neg h1] at ht
    by_cases h2 : kd i = 2 ∨ kd i = 3
    · rw [if_pos h2] at ht
      rw [← Option.some.inj ht]
      refine ⟨hm.n, fun j hj => ?_⟩
      show (if j = i then true else m.has j) = false
      rw [if_neg (fun e => hj (by rw [e]; exact h2))]; exact hm.h j hj
    · rw [if_neg h2] at ht
      by_cases h4 : kd i = 4
      · rw [if_pos h4] at ht
        by_cases hv : v = []
        · rw [if_pos hv] at ht; rw [← Option.some.inj ht]; exact ⟨hm.n, hm.h⟩
        · rw [if_neg hv] at ht; cases ht
      · rw [if_neg h4] at ht; rw [← Option.some.inj ht]; exact hm
theorem takesM_some {m m' : Pm} {i : Nat} {v : List Int} {srv : Bool} (h : takesM m i v srv = some m') : tkn m i v = some m' ∧ rgt m' i srv = true := by
  unfold takesM at h
  cases ht : tkn m i v with
  | none => rw [ht] at h; cases h
  | some m1 =>
    rw [ht] at h
    have h' : (if rgt m1 i srv then some m1 else none) = some m' := h
    by_cases hr : rgt m1 i srv = true
    · rw [if_pos hr] at h'; cases h'; exact ⟨rfl, hr⟩
    · rw [if_neg hr] at h'; cases h'
theorem std_dec {zs : List Int} {srv : Bool} : ∀ (k : Nat) (p : Int) (seen : List Nat) (m : Pm), Std m → Std (decM zs srv k p seen m).1 := by
  intro k
  induction k with
  | zero => intro p seen m h; exact h
  | succ k ih =>
    intro p seen m h
    by_cases h1 : (zs.length : Int) ≤ p
    · rw [decM_end h1]; exact h
    · by_cases h2 : (parO zs p).2.2.2 = 0
      · by_cases h3 : (parO zs p).1.toNat ∈ seen
        · rw [decM_twice h1 h2 h3]; exact std_ze
        · cases h4 : takesM m (parO zs p).1.toNat (parO zs p).2.1 srv with
          | none => rw [decM_no h1 h2 h3 h4]; exact std_ze
          | some m' => rw [decM_on h1 h2 h3 h4]; exact ih _ _ _ (std_tkn h (takesM_some h4).1)
      · rw [decM_short h1 h2]; exact std_ze
theorem std_decA (zs : List Int) (srv : Bool) : Std (decA zs srv).1 := by
  unfold decA
  by_cases h : 16384 < zs.length
  · rw [if_pos h]; exact std_ze
  · rw [if_neg h]; exact std_dec _ _ _ _ std_us
end Go.Proofs.Ytidbimhcebfjfaa
