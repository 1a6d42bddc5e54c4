/-
  A cut makes no difference to the whole instructions.
-/
import Derived.Test.YtehejibllkmflaaRl
namespace Go.Proofs.Ytehejibllkmflaa
open Go.RowKit
set_option linter.unusedVariables false
set_option maxRecDepth 20000

theorem whl_mv {most : Int} (us : List Int) {zs : List Int} (hz : ∀ y ∈ zs, 0 ≤ y ∧ y < 256) (hm : most ≤ 100000000) : ∀ (n : Nat) (cap : Int) (g : Nat) (es : List Fd) (p : Nat), 0 ≤ cap ∧ cap ≤ 100000000 → p ≤ zs.length → (whl most n cap g es (us ++ zs) (us.length + p)).e = (whl most n cap g es zs p).e
  | 0, cap, g, es, p, hc, hp => rfl
  | n + 1, cap, g, es, p, hc, hp => by
    rw [whl, whl]
    by_cases h : p = zs.length
    · rw [if_pos h, if_pos (by rw [List.length_append]; omega)]
    · rw [if_neg h, if_neg (by rw [List.length_append]; omega), takO_mv most cap g es us zs p _ hz hp]
      rw [show (us ++ zs).getD (us.length + p) 0 = zs.getD p 0 by
          rw [List.getD_eq_getElem?_getD, List.getD_eq_getElem?_getD, List.getElem?_append_right (by omega), show us.length + p - us.length = p by omega]]
      cases ht : takO most cap g es zs p (zs.getD p 0).toNat with
      | bad z => rfl
      | ok cap' g' es' q =>
        obtain ⟨_, h2, _, _, h5, h6⟩ := takO_ok hz ht hc hm
        exact whl_mv us hz hm n cap' g' es' q ⟨h5, h6⟩ h2
theorem whl_fuel2 {most : Int} {zs : List Int} (hz : ∀ y ∈ zs, 0 ≤ y ∧ y < 256) (hm : most ≤ 100000000) {m n : Nat} {cap : Int} {g : Nat} {es : List Fd} {p : Nat} (hc : 0 ≤ cap ∧ cap ≤ 100000000) (hp : p ≤ zs.length) (h1 : zs.length - p ≤ m) (h2 : zs.length - p ≤ n) : whl most m cap g es zs p = whl most n cap g es zs p :=
  (whl_fuel hz hm _ m cap g es p hc rfl h1 hp).trans (whl_fuel hz hm _ n cap g es p hc rfl h2 hp).symm
structure CutW (most : Int) (m : Nat) (cap : Int) (g : Nat) (es : List Fd) (xs ys : List Int) (p : Nat) (R : WR) : Prop where
  bad : R.e ≠ 0 → R.e ≠ 12 → (whl most m cap g es (xs ++ ys) p).e = R.e
  fin : R.e = 0 → R.p = xs.length
  on : R.e = 0 ∨ R.e = 12 → ∀ m', (xs ++ ys).length - R.p ≤ m' → whl most m cap g es (xs ++ ys) p = whl most m' R.cap R.g R.es (xs ++ ys) R.p
  c : 0 ≤ R.cap ∧ R.cap ≤ 100000000
theorem whl_app {most : Int} {xs ys : List Int} (hx : ∀ y ∈ xs, 0 ≤ y ∧ y < 256) (hxy : ∀ y ∈ xs ++ ys, 0 ≤ y ∧ y < 256) (hm : most ≤ 100000000) : ∀ (n m : Nat) (cap : Int) (g : Nat) (es : List Fd) (p : Nat), 0 ≤ cap ∧ cap ≤ 100000000 → p ≤ xs.length → xs.length - p ≤ n → (xs ++ ys).length - p ≤ m → CutW most m cap g es xs ys p (whl most n cap g es xs p) := by
  have hend : ∀ (m : Nat) (cap : Int) (g : Nat) (es : List Fd) (p : Nat) (e : Int), 0 ≤ cap ∧ cap ≤ 100000000 → p ≤ xs.length → (e = 0 → p = xs.length) → (e = 0 ∨ e = 12) → (xs ++ ys).length - p ≤ m → CutW most m cap g es xs ys p ⟨cap, g, es, p, e⟩ := by
    intro m cap g es p e hc hp he h0 hmm
    exact ⟨fun h1 h2 => absurd h0 (fun h => h.elim h1 h2), he, fun _ m' hm' => whl_fuel2 hxy hm hc (by rw [List.length_append]; omega) hmm hm', hc⟩
  intro n
  induction n with
  | zero =>
    intro m cap g es p hc hp hn hmm
    exact hend m cap g es p 0 hc hp (fun _ => by omega) (.inl rfl) hmm
  | succ n ih =>
    intro m cap g es p hc hp hn hmm
    rw [whl]
    by_cases h : p = xs.length
    · rw [if_pos h]
      exact hend m cap g es p 0 hc hp (fun _ => h) (.inl rfl) hmm
    · rw [if_neg h]
      have hl : (xs ++ ys).length = xs.length + ys.length := List.length_append
      obtain ⟨m0, rfl⟩ : ∃ m0, m = m0 + 1 := ⟨m - 1, by omega⟩
      have hg : (xs ++ ys).getD p 0 = xs.getD p 0 := by
        rw [List.getD_eq_getElem?_getD, List.getD_eq_getElem?_getD, List.getElem?_append_left (by omega)]
      cases ht : takO most cap g es xs p (xs.getD p 0).toNat with
      | bad z =>
        have hz0 := takO_bad ht
        by_cases h12 : z = 12
        · exact hend (m0 + 1) cap g es p z hc hp (fun h => absurd h hz0) (.inr h12) hmm
        · refine ⟨fun _ _ => ?_, fun h => absurd h hz0, fun h => absurd h (fun h => h.elim hz0 h12), hc⟩
          rw [whl, if_neg (by omega), hg, takO_app ys hx hp (by rw [ht]; exact fun h => h12 (by cases h; rfl)), ht]
      | ok cap' g' es' q =>
        obtain ⟨h1, h2, _, _, h5, h6⟩ := takO_ok hx ht hc hm
        have hw : whl most (m0 + 1) cap g es (xs ++ ys) p = whl most m0 cap' g' es' (xs ++ ys) q := by
          rw [whl, if_neg (by omega), hg, takO_app ys hx hp (by rw [ht]; exact fun h => by cases h), ht]
        have hi := ih m0 cap' g' es' q ⟨h5, h6⟩ h2 (by omega) (by omega)
        exact ⟨fun a b => by rw [hw]; exact hi.bad a b, hi.fin, fun a m' b => by rw [hw]; exact hi.on a m' b, hi.c⟩
/-- A cut: all at once, or a part and then the rest behind what waits of it. -/
theorem cut_same {most cap : Int} {g : Nat} {es : List Fd} {xs ys : List Int} (hx : ∀ y ∈ xs, 0 ≤ y ∧ y < 256) (hy : ∀ y ∈ ys, 0 ≤ y ∧ y < 256) (hm : most ≤ 100000000) (hc : 0 ≤ cap ∧ cap ≤ 100000000) (R : WR) (hR : whl most xs.length cap g es xs 0 = R) :
    (fdX R ≠ 0 → fdX (whl most (xs ++ ys).length cap g es (xs ++ ys) 0) = fdX R) ∧ (fdX R = 0 → fdX (whl most (xs ++ ys).length cap g es (xs ++ ys) 0) = fdX (whl most (fdZ R xs ++ ys).length R.cap R.g R.es (fdZ R xs ++ ys) 0)) := by
  have hxy : ∀ y ∈ xs ++ ys, 0 ≤ y ∧ y < 256 := fun y h => (List.mem_append.1 h).elim (hx y) (hy y)
  have h := whl_app hx hxy hm xs.length (xs ++ ys).length cap g es 0 hc (Nat.zero_le _) (by omega) (by omega)
  have hp := whl_p hx hm xs.length cap g es 0 hc (Nat.zero_le _)
  rw [hR] at h hp
  have hl : (xs ++ ys).length = xs.length + ys.length := List.length_append
  constructor
  · intro h0
    unfold fdX at h0 ⊢
    split at h0
    · exact absurd rfl h0
    · next h12 => rw [h.bad h0 h12]
  · intro h0
    have h1 : R.e = 0 ∨ R.e = 12 := by
      unfold fdX at h0
      split at h0
      · next h => exact .inr h
      · exact .inl h0
    have hz : fdZ R xs = xs.drop R.p := by
      unfold fdZ
      split
      · rfl
      · next h12 => rw [h.fin (h1.elim id (fun h => absurd h h12)), List.drop_length]
    rw [hz]
    have hdl : (xs.drop R.p ++ ys).length = (xs ++ ys).length - R.p := by rw [List.length_append, List.length_drop]; omega
    have hdz : ∀ y ∈ xs.drop R.p ++ ys, 0 ≤ y ∧ y < 256 := fun y h => (List.mem_append.1 h).elim (fun h => hx y (List.mem_of_mem_drop h)) (hy y)
    have he := whl_mv (most := most) (xs.take R.p) hdz hm (xs.drop R.p ++ ys).length R.cap R.g R.es 0 h.c (Nat.zero_le _)
    rw [← List.append_assoc, List.take_append_drop, show (xs.take R.p).length + 0 = R.p by rw [List.length_take]; omega] at he
    rw [h.on h1 (xs.drop R.p ++ ys).length (by omega)]
    unfold fdX
    rw [he]
end Go.Proofs.Ytehejibllkmflaa
