/-
  What the law's own awake does: a contract that the statements' walks use.
-/
import Derived.Test.YtidbimhcebfjfaaDecW
namespace Go.Proofs.Ytidbimhcebfjfaa
open Go.RowKit
set_option linter.unusedVariables false
set_option maxRecDepth 20000

theorem seg_lit3 (w : World) (a b c : Int) : Seg (w.alloc (.cells #[.int .u8 a, .int .u8 b, .int .u8 c] 5)) (some ⟨w.heap.size, 0, none⟩) [a, b, c] := by
  intro _
  refine ⟨w.heap.size, 0, rfl, fun i hi => ?_⟩
  rw [cell_of_row _ w.heap.size (0 + i) _ 5 (0, 0) (heap_alloc_new w _)]
  rcases (show i = 0 ∨ i = 1 ∨ i = 2 by simp at hi; omega) with rfl | rfl | rfl <;> rfl

set_option maxHeartbeats 4000000 in
theorem awake_any (w : World) : Calls Try.prog 13 #[] w fun e w' => e = .returned (.bool true) ∧ Q w w' := by
  have hz : ∀ y ∈ ([1, 1, 30] : List Int), 0 ≤ y ∧ y < 256 := by decide
  have HD := hid (decode_any (some ⟨w.heap.size, 0, none⟩) 3 3 [1, 1, 30] true (w.alloc (.cells #[.int .u8 1, .int .u8 1, .int .u8 30] 5)) rfl (by omega) hz (seg_lit3 w 1 1 30))
  have e1 : (decA [1, 1, 30] true).2.1 = 0 := by kernel_rfl
  have e2 : (decA [1, 1, 30] true).2.2 = 0 := by kernel_rfl
  have e3 : (decA [1, 1, 30] true).1.num 1 = 30 := by kernel_rfl
  have e4 : (decA [1, 1, 30] true).1.num 3 = 65527 := by kernel_rfl
  unfold AnsD at HD
  rw [e1, e2] at HD
  generalize (decA [1, 1, 30] true).1 = M at *
  have E3 := hid e3
  have E4 := hid e4
  have hf : ∀ w : World, (Instr.field 24 (.agg usA) 18).run Try.prog w = .ok (.int .i64 2) w := fun _ => by kernel_rfl
  clear e1 e2 e3 e4 hz
  go_enter Try.func13, Try.ntmps13
  go_wp2_with (first
    | (go_at_call 19; refine HD.out.mono ?_; rintro e w1 ⟨s, rfl, q1, -⟩; have Q1 := hid (((Q.refl w).alloc _).trans q1); clear q1)
    | (refine wpList_store_row rfl 24 _ _ rfl w1.heap.size (pc M s) rfl rfl 24 _ (heap_alloc_new w1 _) (pc_info M s) rfl (pc_one M s) ?_; refine Hid.out ?_))
  refine hid ?_
  generalize hw2 : World.setRow _ _ _ = w2
  have q2 : Q w1 w2 := by rw [← hw2]; exact (((Keep.refl (fun _ => False) w1).alloc _).setRow _ _ (.inr (Nat.le_refl _))).toQ (fun _ _ => id)
  have b2 : PB w2 w1.heap.size M s := by rw [← hw2]; exact setRow_heap _ _ _ _ 24 _ (heap_alloc_new w1 _)
  clear hw2
  have Q2 := hid (Q1.out.trans q2)
  have c8 : w2.cell? ⟨w1.heap.size, 8, none⟩ = some (.int .i64 30) := by rw [b2.cell (v := .int .i64 (M.num 1)) rfl, E3.out]
  have c9 : w2.cell? ⟨w1.heap.size, 9, none⟩ = some (.int .i64 65527) := by rw [b2.cell (v := .int .i64 (M.num 3)) rfl, E4.out]
  have hlt := lt_of_cell c8
  clear q2 b2 Q1 HD E3 E4
  generalize w1.heap.size = xb at *
  clear w1
  go_wp2_with (go_at_call 16; refine (usual_any _).mono ?_; rintro e w3 ⟨rfl, q3⟩; have Q3 := hid (Q2.out.trans q3); clear q3)
  go_ret
  exact ⟨rfl, Q3.out⟩
end Go.Proofs.Ytidbimhcebfjfaa
