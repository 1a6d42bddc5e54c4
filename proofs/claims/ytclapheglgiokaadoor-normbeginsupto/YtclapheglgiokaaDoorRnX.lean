/-
  readTrailers: a contract that the statements' walks use.
-/
import Derived.Test.YtclapheglgiokaaDoorRnW
namespace Go.Proofs.YtclapheglgiokaaDoor
open Go.RowKit
set_option linter.unusedVariables false
set_option maxRecDepth 20000

theorem trs_stop (r : List Fd) (y : Int) (hy : y ≠ 0) : r.foldl (fun e f => orE e (trE f)) y = y := by
  induction r with
  | nil => rfl
  | cons f r ih => rw [List.foldl_cons, orE_no hy]; exact ih
theorem trs_at {l : List Fd} {k : Nat} {p : Fd} (h : l[k]? = some p) (h0 : trsE (l.take k) = 0) : (trE p ≠ 0 → trsE l = trE p) ∧ (trE p = 0 → trsE (l.take (k + 1)) = 0) := by
  have hk : k < l.length := (List.getElem?_eq_some_iff.1 h).1
  have hp : l[k] = p := (List.getElem?_eq_some_iff.1 h).2
  have e1 : trsE (l.take k ++ [p]) = trE p := by rw [trsE_snoc, orE_ok h0]
  constructor
  · intro hy
    have hl : l = (l.take k ++ [p]) ++ l.drop (k + 1) := by
      conv => lhs; rw [← List.take_append_drop k l]
      rw [List.drop_eq_getElem_cons hk, hp, List.append_assoc]; rfl
    rw [hl]
    generalize l.take k ++ [p] = m at *
    unfold trsE at e1 ⊢
    rw [List.foldl_append, e1]
    exact trs_stop _ _ hy
  · intro hy
    rw [take_snoc h, e1, hy]
end Go.Proofs.YtclapheglgiokaaDoor
