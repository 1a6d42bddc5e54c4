/-
  Joining three pieces that are laid as a literal row. A contract that the statements' walks use.
-/
import Derived.Test.YtchkiohmjgmmbaaJoin
namespace Go.Proofs.Ytchkiohmjgmmbaa
open Go.RowKit
set_option linter.unusedVariables false
set_option maxRecDepth 20000

def thr {α : Type} (x y z : α) : Nat → α
  | 0 => x
  | 1 => y
  | _ => z
set_option maxHeartbeats 1000000 in
theorem join_three (w0 W : World) (x y z : Sv) (xs ys zs : List Int) (hq : Q w0 W) (hx : Seg w0 x.a xs) (hxl : xs.length = x.n) (hy : Seg w0 y.a ys) (hyl : ys.length = y.n) (hz : Seg w0 z.a zs) (hzl : zs.length = z.n) (hn : x.n + y.n + z.n ≤ 10000000) :
    Calls Try.prog 20 #[.slice (some ⟨W.heap.size, 0, none⟩) 3 3] (W.alloc (.cells #[.slice x.a x.n x.c, .slice y.a y.n y.c, .slice z.a z.n z.c] 22)) fun e w' => ∃ r : Sv, e = .returned (.slice r.a r.n r.c) ∧ Q w0 w' ∧ Row w' r (xs ++ (ys ++ zs)) ∧ New w0.heap.size r := by
  have hb : (W.alloc (.cells #[.slice x.a x.n x.c, .slice y.a y.n y.c, .slice z.a z.n z.c] 22)).heap[W.heap.size]? = some (.cells #[.slice x.a x.n x.c, .slice y.a y.n y.c, .slice z.a z.n z.c] 22 (0, 0)) := heap_alloc_new W _
  have hq2 : Q w0 (W.alloc (.cells #[.slice x.a x.n x.c, .slice y.a y.n y.c, .slice z.a z.n z.c] 22)) := hq.alloc _
  have hc : cat (thr xs ys zs) 3 = xs ++ (ys ++ zs) := by simp [cat, thr]
  refine (join_any W.heap.size 3 3 (thr x y z) (thr xs ys zs) _ (fun j hj => ?_) (fun j hj => ?_) (by omega) (by rw [hc, List.length_append, List.length_append]; omega)).mono ?_
  · rw [cell_of_row _ _ _ _ 22 (0, 0) hb]
    rcases (show j = 0 ∨ j = 1 ∨ j = 2 by omega) with rfl | rfl | rfl <;> rfl
  · rcases (show j = 0 ∨ j = 1 ∨ j = 2 by omega) with rfl | rfl | rfl
    · exact ⟨hx.q hq2, hxl⟩
    · exact ⟨hy.q hq2, hyl⟩
    · exact ⟨hz.q hq2, hzl⟩
  · rintro e w' ⟨r, rfl, q, rr, nw⟩
    rw [hc] at rr
    exact ⟨r, rfl, hq2.trans q, rr, nw.mono hq2.size⟩
end Go.Proofs.Ytchkiohmjgmmbaa
