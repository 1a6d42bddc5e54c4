/-
  What header.withSize and lengthForm do: contracts that the statements' walks use.
-/
import Derived.Test.YtbhhajmfdffdbaaCat
namespace Go.Proofs.Ytbhhajmfdffdbaa
open Go.RowKit
set_option linter.unusedVariables false
set_option maxRecDepth 20000

theorem segL (w : World) (zs : List Int) : Seg (w.alloc (.cells (zs.map (Value.int .u8)).toArray 5)) (some ⟨w.heap.size, 0, none⟩) zs := by
  intro _
  refine ⟨w.heap.size, 0, rfl, fun i hi => ?_⟩
  rw [cell_of_row _ w.heap.size (0 + i) _ 5 (0, 0) (heap_alloc_new w _), Nat.zero_add]
  simp [List.getD_eq_getElem?_getD, hi]
set_option maxHeartbeats 1600000 in
theorem withSize_any (x : Sv) (zs : List Int) (w : World) (hl : zs.length = x.n) (hs : Seg w x.a zs) (hn : x.n ≤ 20) : Calls Try.prog 37 #[.slice x.a x.n x.c] w fun e w' => ∃ r : Sv, e = .returned (.slice r.a r.n r.c) ∧ Q w w' ∧ Row w' r ((x.n : Int) :: zs) ∧ New w.heap.size r := by
  obtain ⟨xa, xn, xc⟩ := x
  dsimp only at *
  have HL := hid hl
  have HS := hid hs
  have h0 : (0 : Int) ≤ (xn : Int) := by omega
  have h1 : (xn : Int) < 256 := by omega
  clear hl hs
  go_enter Try.func37, Try.ntmps37
  go_wp2_with fail
  generalize hw1 : World.alloc (World.alloc w _) _ = w1
  have q1 : Q w w1 := by rw [← hw1]; exact ((Q.refl w).alloc _).alloc _
  have s0 : Seg w1 (some ⟨w.heap.size, 0, none⟩) [(xn : Int)] := by rw [← hw1]; exact (segL w [(xn : Int)]).q ((Q.refl _).alloc _)
  have b1 : w1.heap[w.heap.size + 1]? = some (.cells #[.slice (some ⟨w.heap.size, 0, none⟩) 1 1, .slice xa xn xc] 22 (0, 0)) := by rw [← hw1]; exact heap_alloc2_new w _ _
  clear hw1
  refine (concat_any (w.heap.size + 1) 2 2 (fun j => if j = 0 then ⟨some ⟨w.heap.size, 0, none⟩, 1, 1⟩ else ⟨xa, xn, xc⟩) (fun j => if j = 0 then [(xn : Int)] else zs) w1 ?_ ?_ (by omega) ?_).mono ?_
  · intro j hj
    rw [cell_of_row w1 _ j _ 22 (0, 0) b1]
    have : j = 0 ∨ j = 1 := by omega
    rcases this with rfl | rfl <;> rfl
  · intro j hj
    have : j = 0 ∨ j = 1 := by omega
    rcases this with rfl | rfl
    · exact ⟨s0, rfl⟩
    · exact ⟨HS.out.q q1, HL.out⟩
  · simp [cat, HL.out]; omega
  · rintro e w2 ⟨r, rfl, q2, hr, hnew⟩
    have HX := hid (show Q w w2 ∧ Row w2 r ((xn : Int) :: zs) ∧ New w.heap.size r from ⟨q1.trans q2, by simpa [cat] using hr, hnew.mono q1.size⟩)
    clear q1 s0 b1 q2 hr hnew
    go_wp2
    go_ret
    exact ⟨r, rfl, HX.out⟩
/-- Length in two bytes where they hold it. -/
def lenF (n : Int) : List Int := if n < 64 then [64, n] else form n
set_option maxHeartbeats 1600000 in
theorem lengthForm_any (n : Int) (w : World) (h0 : 0 ≤ n) (h1 : n ≤ 4611686018427387903) : Calls Try.prog 39 #[.int .i64 n] w fun e w' => ∃ r : Sv, e = .returned (.slice r.a r.n r.c) ∧ Q w w' ∧ Row w' r (lenF n) ∧ New w.heap.size r := by
  by_cases h : n < 64
  · have HF := hid (show lenF n = [64, n] from by unfold lenF; rw [if_pos h])
    have h2 : n < 256 := by omega
    go_enter Try.func39, Try.ntmps39
    go_wp2
    go_ret
    refine ⟨⟨some ⟨w.heap.size, 0, none⟩, 2, 2⟩, rfl, (Q.refl w).alloc _, ?_, by intro b hb; cases hb; exact Nat.le_refl _⟩
    rw [HF.out]
    exact (own_of_block (w := w.alloc (.cells #[.int .u8 64, .int .u8 n] 5)) (zs := [64, n]) (n := 2) (g := w.heap.size) (base := w.heap.size) rfl (by decide) (heap_alloc_new w _)).row (by simp)
  · have HF := hid (show lenF n = form n from by unfold lenF; rw [if_neg h])
    go_enter Try.func39, Try.ntmps39
    go_wp2_with fail
    refine (shortest_any n w h0 h1).mono ?_
    rintro e w2 ⟨r, rfl, hx⟩
    rw [← HF.out] at hx
    have HX := hid hx
    clear hx
    go_wp2
    go_ret
    exact ⟨r, rfl, HX.out⟩
end Go.Proofs.Ytbhhajmfdffdbaa
