/-
  The first thing that is wrong in a list of fields: plain mathematics.
-/
import Derived.Test.YtclapheglgiokaaDoorRnP
namespace Go.Proofs.YtclapheglgiokaaDoor
open Go.RowKit
set_option linter.unusedVariables false
set_option maxRecDepth 20000

theorem fstS_stop (r : List Fd) (a : List Fd) (y : Int) (hy : y ≠ 0) : (r.foldl (fun (st : List Fd × Int) f => (st.1 ++ [f], orE st.2 (oneE st.1 f))) (a, y)).2 = y := by
  induction r generalizing a with
  | nil => rfl
  | cons f r ih => rw [List.foldl_cons]; simp only [orE_no hy]; exact ih _
theorem fstE_at {l : List Fd} {k : Nat} {p : Fd} (h : l[k]? = some p) (h0 : fstE (l.take k) = 0) (hy : oneE (l.take k) p ≠ 0) : fstE l = oneE (l.take k) p := by
  have hk : k < l.length := (List.getElem?_eq_some_iff.1 h).1
  have hp : l[k] = p := (List.getElem?_eq_some_iff.1 h).2
  have hl : l = (l.take k ++ [p]) ++ l.drop (k + 1) := by
    conv => lhs; rw [← List.take_append_drop k l]
    rw [List.drop_eq_getElem_cons hk, hp, List.append_assoc]; rfl
  have h1 : fstS (l.take k ++ [p]) = (l.take k ++ [p], oneE (l.take k) p) := by
    refine Prod.ext (fstS_one _) ?_
    have := fstE_snoc (l.take k) p
    rw [orE_ok h0] at this
    exact this
  generalize oneE (l.take k) p = y at *
  rw [hl]
  generalize l.take k ++ [p] = m at *
  unfold fstE fstS
  rw [List.foldl_append]
  have : m.foldl (fun (st : List Fd × Int) f => (st.1 ++ [f], orE st.2 (oneE st.1 f))) ([], 0) = (m, y) := h1
  rw [this]
  exact fstS_stop _ _ _ hy
theorem fstE_next {l : List Fd} {k : Nat} {p : Fd} (h : l[k]? = some p) (h0 : fstE (l.take k) = 0) (h1 : oneE (l.take k) p = 0) : fstE (l.take (k + 1)) = 0 := by
  have e : l.take (k + 1) = l.take k ++ [p] := by rw [List.take_add_one, h]; rfl
  rw [e, fstE_snoc, orE_ok h0, h1]
theorem take_snoc {l : List Fd} {k : Nat} {p : Fd} (h : l[k]? = some p) : l.take (k + 1) = l.take k ++ [p] := by rw [List.take_add_one, h]; rfl
/-- What stands of a list without a fault: it is ordered, its length is a number. -/
structure Fine (pre : List Fd) : Prop where
  o : psOrd pre
  n : ∀ v, fnd pre kLen = some v → 0 ≤ lenO v
theorem fine_nil : Fine [] := ⟨psOrd_nil, fun v h => by cases h⟩
theorem fnd_snoc (pre : List Fd) (f : Fd) (n : ByteArray) : fnd (pre ++ [f]) n = match fnd pre n with | some v => some v | none => if eqS f.1 n then some f.2 else none := by
  unfold fnd
  rw [List.find?_append]
  cases h : pre.find? (fun f => eqS f.1 n) with
  | some v => rfl
  | none =>
    cases he : eqS f.1 n with
    | true => simp [he]
    | false => simp [he]
/-- The content-length against the one ahead. -/
def lnP (pre : List Fd) (b : ByteArray) : Int := if lenO b < 0 then 186 else if lenL pre ≠ -1 ∧ lenO b ≠ lenL pre then 186 else 0
theorem lnE_P (pre : List Fd) (f : Fd) (h : Fine pre) (hf : eqS f.1 kLen = true) : lnE pre f = lnP pre f.2 := by
  unfold lnE lnP
  rw [if_pos hf, fnd_snoc]
  unfold lenL
  cases hv : fnd pre kLen with
  | some v =>
    have hn := h.n v hv
    dsimp only
    by_cases h1 : lenO f.2 < 0
    · simp [h1]
    · simp only [h1, decide_false, Bool.false_or, decide_eq_true_eq, if_false]
      by_cases h2 : lenO f.2 = lenO v
      · simp [h2]
      · rw [if_pos h2, if_pos ⟨by omega, h2⟩]
  | none =>
    dsimp only
    rw [if_pos hf]
    dsimp only
    by_cases h1 : lenO f.2 < 0
    · simp [h1]
    · simp [h1]
theorem fine_snoc (pre : List Fd) (f : Fd) (h : Fine pre) (h1 : oneE pre f = 0) : Fine (pre ++ [f]) := by
  refine ⟨psOrd_snoc pre f h1, fun v hv => ?_⟩
  rw [fnd_snoc] at hv
  cases hp : fnd pre kLen with
  | some u => rw [hp] at hv; cases hv; exact h.n _ hp
  | none =>
    rw [hp] at hv
    dsimp only at hv
    split at hv
    · rename_i hf
      cases hv
      have h4 := (orE_zero (orE_zero (orE_zero h1).2).2).2
      rw [lnE_P pre f h hf] at h4
      unfold lnP at h4
      split at h4
      · cases h4
      · omega
    · cases hv
theorem fine_of (l : List Fd) : ∀ k, k ≤ l.length → fstE (l.take k) = 0 → Fine (l.take k)
  | 0, _, _ => fine_nil
  | k + 1, hk, h => by
    have hp : l[k]? = some l[k] := List.getElem?_eq_getElem (by omega)
    have e := take_snoc hp
    rw [e] at h ⊢
    rw [fstE_snoc] at h
    have hz := orE_zero h
    rw [hz.1] at h
    exact fine_snoc _ _ (fine_of l k (by omega) hz.1) hz.2
theorem lenL_snoc_no (pre : List Fd) (f : Fd) (h : eqS f.1 kLen = false) : lenL (pre ++ [f]) = lenL pre := by
  unfold lenL
  rw [fnd_snoc]
  cases fnd pre kLen with
  | some v => rfl
  | none => simp [h]
theorem lenL_snoc_yes (pre : List Fd) (f : Fd) (h : eqS f.1 kLen = true) (hF : Fine pre) (h0 : lnP pre f.2 = 0) : lenL (pre ++ [f]) = lenO f.2 := by
  unfold lnP at h0
  split at h0
  · cases h0
  · split at h0
    · cases h0
    · rename_i h1 h2
      unfold lenL at h2 ⊢
      rw [fnd_snoc]
      cases hv : fnd pre kLen with
      | some v =>
        have := hF.n v hv
        rw [hv] at h2
        dsimp only at h2 ⊢
        by_cases e : lenO f.2 = lenO v
        · exact e.symm
        · exact absurd ⟨by omega, e⟩ h2
      | none => simp [h]
end Go.Proofs.YtclapheglgiokaaDoor
