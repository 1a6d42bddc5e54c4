/-
  The law's own awake answers true and turns nothing that was there.
-/
import Derived.Test.YtbhhajmfdffdbaaPar
import Derived.Test.YtbhhajmfdffdbaaEx
namespace Go.Proofs.Ytbhhajmfdffdbaa
open Go.RowKit
set_option linter.unusedVariables false
set_option maxRecDepth 20000

theorem aw_par : parM [64, 7] 1 = (⟨6, 0, [7], [], [], [], 0⟩, 2, 2, 0) := by rfl
theorem aw_wid : widM 1000 9 = 2 := by decide
theorem aw_exp : expM 2821665002 39730 2 = 2821692210 := by decide
theorem seg_lit (w : World) (zs : List Int) : Seg (w.alloc (.cells (zs.map (Value.int .u8)).toArray 5)) (some ⟨w.heap.size, 0, none⟩) zs := by
  intro _
  refine ⟨w.heap.size, 0, rfl, fun i hi => ?_⟩
  rw [cell_of_row _ w.heap.size (0 + i) _ 5 (0, 0) (heap_alloc_new w _), Nat.zero_add]
  simp [List.getD_eq_getElem?_getD, hi]

set_option maxHeartbeats 2000000 in
theorem awake_any (w : World) : Calls Try.prog 12 #[] w fun e w' => e = .returned (.bool true) ∧ Q w w' := by
  go_enter Try.func12, Try.ntmps12
  go_wp2_with fail
  generalize hw1 : World.alloc w _ = w1
  have q1 : Q w w1 := by rw [← hw1]; exact (Q.refl w).alloc _
  have hs1 : Seg w1 (some ⟨w.heap.size, 0, none⟩) [64, 7] := by rw [← hw1]; exact seg_lit w [64, 7]
  clear hw1
  refine (parse_any (some ⟨w.heap.size, 0, none⟩) 2 2 [64, 7] 1 w1 rfl (by intro y hy; simp at hy; omega) (by omega) hs1).mono ?_
  rw [aw_par]
  rintro e w2 ⟨d, s, t, v, rfl, q2, hh⟩
  have Q2 := hid (q1.trans q2)
  clear q1 q2 hs1 hh
  have HW := hid aw_wid
  have HE := hid aw_exp
  go_wp2_with (first
    | (refine wpList_store_row rfl 26 _ _ rfl w2.heap.size (hcells ⟨6, 0, [7], [], [], [], 0⟩ d s t v) rfl rfl 26 _ (heap_alloc_new w2 _) (hcells_info _ _ _ _ _) rfl (hcells_one _ _ _ _ _) ?_; refine Hid.out ?_))
  refine hid ?_
  generalize hw3 : World.setRow _ _ _ = w3
  have k3 : Keep (fun i => i = w2.heap.size) w2 w3 := by rw [← hw3]; exact ((Keep.refl (fun i => i = w2.heap.size) w2).alloc _).setRow _ _ (.inl rfl)
  have b3 : Box w3 26 w2.heap.size ⟨6, 0, [7], [], [], [], 0⟩ d s t v := by rw [← hw3]; exact setRow_heap _ _ _ _ 26 _ (heap_alloc_new w2 _)
  clear hw3
  have Q3 := hid (show Q w w3 from k3.below Q2.out Q2.out.size (fun i e => by have := Q2.out.size; omega))
  have e0 := b3.c0
  dsimp only at e0
  clear k3 b3
  go_wp2_with (first
    | (go_at_call 22; refine (width_any _ _ _).mono ?_; rintro e w' ⟨rfl, rfl⟩; rw [HW.out])
    | (go_at_call 24; refine (expand_any _ _ _ _).mono ?_; rintro e w' ⟨rfl, rfl⟩; rw [HE.out]))
  go_ret
  exact ⟨by first | rfl | simp, Q3.out⟩
end Go.Proofs.Ytbhhajmfdffdbaa
