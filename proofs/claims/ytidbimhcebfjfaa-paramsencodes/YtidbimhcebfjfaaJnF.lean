/-
  The document's Join of four pieces: a contract that the statements' walks use.
-/
import Derived.Test.YtidbimhcebfjfaaJoin
import Derived.Test.YtidbimhcebfjfaaPm
namespace Go.Proofs.Ytidbimhcebfjfaa
open Go.RowKit
set_option linter.unusedVariables false
set_option maxRecDepth 20000

def qdS (x y z u : Sv) (j : Nat) : Sv := if j = 0 then x else if j = 1 then y else if j = 2 then z else u
def qdZ (x y z u : List Int) (j : Nat) : List Int := if j = 0 then x else if j = 1 then y else if j = 2 then z else u
theorem join4 (W : World) (x y z u : Sv) (X Y Z U : List Int) (hx : Seg W x.a X ∧ X.length = x.n) (hy : Seg W y.a Y ∧ Y.length = y.n) (hz : Seg W z.a Z ∧ Z.length = z.n) (hu : Seg W u.a U ∧ U.length = u.n) (hb : X.length + Y.length + Z.length + U.length ≤ 1000000) :
    Calls Try.prog 21 #[.slice (some ⟨W.heap.size, 0, none⟩) 4 4] (W.alloc (.cells #[sv x, sv y, sv z, sv u] 22)) fun e w' => ∃ t : Sv, e = .returned (.slice t.a t.n t.c) ∧ Q W w' ∧ Row w' t (X ++ (Y ++ Z ++ U)) := by
  have e4 : cat (qdZ X Y Z U) 4 = X ++ (Y ++ Z ++ U) := by
    show ((([] ++ X) ++ Y) ++ Z) ++ U = _
    simp
  have qa : Q W (W.alloc (.cells #[sv x, sv y, sv z, sv u] 22)) := (Q.refl W).alloc _
  refine (join_any W.heap.size 4 4 (qdS x y z u) (qdZ X Y Z U) _ (fun j hj => ?_) (fun j hj => ?_) (by omega) (by rw [e4]; simp only [List.length_append]; omega)).mono ?_
  · rw [cell_of_row _ W.heap.size j _ 22 (0, 0) (heap_alloc_new W _)]
    rcases (show j = 0 ∨ j = 1 ∨ j = 2 ∨ j = 3 by omega) with rfl | rfl | rfl | rfl <;> rfl
  · rcases (show j = 0 ∨ j = 1 ∨ j = 2 ∨ j = 3 by omega) with rfl | rfl | rfl | rfl
    · exact ⟨hx.1.q qa, hx.2⟩
    · exact ⟨hy.1.q qa, hy.2⟩
    · exact ⟨hz.1.q qa, hz.2⟩
    · exact ⟨hu.1.q qa, hu.2⟩
  · rintro e w' ⟨t, rfl, q, r, -⟩
    rw [e4] at r
    exact ⟨t, rfl, qa.trans q, r⟩
end Go.Proofs.Ytidbimhcebfjfaa
