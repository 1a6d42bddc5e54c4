/-
  What the document's own Join does with two pieces. A contract that the statements' walks use.
-/
import Derived.Test.YtbbpcaeacfhilaaJoin
namespace Go.Proofs.Ytbbpcaeacfhilaa
open Go.RowKit
set_option linter.unusedVariables false
set_option maxRecDepth 20000

def two {α : Type} (x y : α) : Nat → α
  | 0 => x
  | _ => y
set_option maxHeartbeats 1000000 in
/-- Join of two pieces laid as a literal row. -/
theorem join_two (w0 W : World) (x y : Sv) (xs ys : List Int) (hq : Q w0 W) (hx : Seg w0 x.a xs) (hxl : xs.length = x.n) (hy : Seg w0 y.a ys) (hyl : ys.length = y.n) (hn : x.n + y.n ≤ 10000000) :
    Calls Try.prog 18 #[.slice (some ⟨W.heap.size, 0, none⟩) 2 2] (W.alloc (.cells #[.slice x.a x.n x.c, .slice y.a y.n y.c] 22)) fun e w' => ∃ z : Sv, e = .returned (.slice z.a z.n z.c) ∧ Q w0 w' ∧ Row w' z (xs ++ ys) ∧ New w0.heap.size z := by
  have hb : (W.alloc (.cells #[.slice x.a x.n x.c, .slice y.a y.n y.c] 22)).heap[W.heap.size]? = some (.cells #[.slice x.a x.n x.c, .slice y.a y.n y.c] 22 (0, 0)) := heap_alloc_new W _
  have hq2 : Q w0 (W.alloc (.cells #[.slice x.a x.n x.c, .slice y.a y.n y.c] 22)) := hq.alloc _
  have hc : cat (two xs ys) 2 = xs ++ ys := by simp [cat, two]
  refine (join_any W.heap.size 2 2 (two x y) (two xs ys) _ (fun j hj => ?_) (fun j hj => ?_) (by omega) (by rw [hc, List.length_append]; omega)).mono ?_
  · rw [cell_of_row _ _ _ _ 22 (0, 0) hb]
    rcases (show j = 0 ∨ j = 1 by omega) with rfl | rfl <;> rfl
  · rcases (show j = 0 ∨ j = 1 by omega) with rfl | rfl
    · exact ⟨hx.q hq2, hxl⟩
    · exact ⟨hy.q hq2, hyl⟩
  · rintro e w' ⟨z, rfl, q, r, nw⟩
    rw [hc] at r
    exact ⟨z, rfl, hq2.trans q, r, nw.mono hq2.size⟩
end Go.Proofs.Ytbbpcaeacfhilaa
