/-
  The authority: a contract that the statements' walks use.
-/
import Derived.Test.YtclapheglgiokaaDoorRnS
namespace Go.Proofs.YtclapheglgiokaaDoor
open Go.RowKit
set_option linter.unusedVariables false
set_option maxRecDepth 20000

/-- A host field has another value. -/
def hoB (l : List Fd) (A : ByteArray) : Bool := l.any fun f => eqS f.1 kHos && !eqS f.2 A
theorem hoB_at {l : List Fd} {A : ByteArray} {k : Nat} {p : Fd} (h : l[k]? = some p) (h0 : hoB (l.take k) A = false) : ((eqS p.1 kHos && !eqS p.2 A) = true → hoB l A = true) ∧ ((eqS p.1 kHos && !eqS p.2 A) = false → hoB (l.take (k + 1)) A = false) := by
  constructor
  · intro e
    unfold hoB
    rw [List.any_eq_true]
    exact ⟨p, List.mem_of_getElem? h, e⟩
  · intro e
    rw [take_snoc h]
    unfold hoB at h0 ⊢
    rw [List.any_append, h0]
    simp only [List.any_cons, List.any_nil, Bool.or_false, Bool.false_or]
    exact e
end Go.Proofs.YtclapheglgiokaaDoor
