/-
  checkSize: contracts that the statements' walks use.
-/
import Derived.Test.YthefijjdffafkaaDoorRnO
namespace Go.Proofs.YthefijjdffafkaaDoor
open Go.RowKit
set_option linter.unusedVariables false
set_option maxRecDepth 20000

def BdF (l : List Fd) : Prop := ∀ p ∈ l, p.1.size ≤ 140737488355328 ∧ p.2.size ≤ 140737488355328
set_option maxHeartbeats 4000000 in
theorem size_ok (x : Sv) (l : List Fd) (c s : Int) (w : World) (hx : SegF w x.a l) (hl : l.length = x.n) (hb : l.length ≤ 8796093022208) (hd : BdF l) (h : muc l c s = false) : Calls Tryd.prog 24 #[.slice x.a x.n x.c, .agg #[.int .i64 c, .int .i64 s]] w fun e w' => e = .returned (.tuple #[]) ∧ Q w w' := by
  obtain ⟨xa, xn, xc⟩ := x
  dsimp only at *
  subst hl
  have HX := hid hx
  have HB := hid hb
  have HD := hid hd
  have HM := hid h
  have HR := hid (fun x W => refuse_no x W)
  have HY := hid (fun x W => refuse_yes x W)
  have HL := hid (heap_alloc_new w (.cells #[.int .i64 c, .int .i64 s] 30))
  have HQ0 := hid ((Q.refl w).alloc (.cells #[.int .i64 c, .int .i64 s] 30))
  clear hx hb hd h
  go_enter Tryd.func24, Tryd.ntmps24
  go_wp2_with fail
  generalize hW : World.alloc w _ = W0 at *
  clear hW
  go_loopw [4, 6, 9] (fun n b i wr => ∃ k : Nat, k ≤ l.length ∧ i = .int .i64 (k : Int) ∧ n = .int .i64 (sizS (l.take k)) ∧ Q W0 wr) (fun _ _ i _ => l.length - (intOf i).toNat)
  case atStart => exact ⟨0, by omega, rfl, rfl, Q.refl _⟩
  case round =>
    obtain ⟨k, hk, rfl, rfl, hq⟩ := hrel
    have HQ := hid hq
    by_cases hlt : k < l.length
    · obtain ⟨g, off, ⟨p1, p2⟩, ha, hp, c0, c1⟩ := ((HX.out.q HQ0.out).q hq).at hlt
      subst ha
      have hpm : (p1, p2) ∈ l := List.mem_of_getElem? hp
      obtain ⟨hs1, hs2⟩ := HD.out _ hpm
      have hs1I : (p1.size : Int) ≤ 140737488355328 := by dsimp only at hs1; omega
      have hs2I : (p2.size : Int) ≤ 140737488355328 := by dsimp only at hs2; omega
      have HS := hid (show sizS (l.take (k + 1)) = RowKit.wrap64 (sizS (l.take k) + ((p1.size : Int) + (p2.size : Int))) from by
        rw [List.take_add_one, hp]; exact sizS_snoc _ _)
      dsimp only at c0 c1
      have HA := hid (hq.alloc (.cells #[.string p1, .string p2] 37))
      have hki : (k : Int) < (l.length : Int) := by omega
      have hk0 : (0 : Int) ≤ (k : Int) := by omega
      have hkb : (k : Int) < 8796093022208 := by have := HB.out; omega
      clear hq hp hpm hs1 hs2
      generalize sizS (l.take k) = n at *
      go_wp2
      go_roundw
      case rel => exact ⟨k + 1, by omega, by go_num, by rw [HS.out], HA.out⟩
      case measure => simp [intOf]; omega
    · have hki : ¬ (k : Int) < (l.length : Int) := by omega
      have HS := hid (show sizS (l.take k) = sizS l from by rw [List.take_of_length_le (by omega)])
      have HB2 := hid (show wr.heap[w.heap.size]? = some (.cells #[.int .i64 c, .int .i64 s] 30 (0, 0)) from (Below.block hq _ (lt_of_block HL.out)).trans HL.out)
      have b0 : wr.cell? ⟨w.heap.size, 0, none⟩ = some (.int .i64 c) := by rw [cell_of_row wr _ 0 _ 30 (0, 0) HB2.out]; rfl
      have b1 : wr.cell? ⟨w.heap.size, 1, none⟩ = some (.int .i64 s) := by rw [cell_of_row wr _ 1 _ 30 (0, 0) HB2.out]; rfl
      rw [HS.out]
      have hm : (decide (c < (l.length : Int)) || decide (s < sizS l)) = false := HM.out
      generalize sizS l = n at *
      clear hq
      by_cases h1 : c < (l.length : Int)
      · rw [decide_eq_true h1] at hm; cases hm

      · by_cases h2 : s < n
        · rw [decide_eq_true h2, Bool.or_true] at hm; cases hm

        · clear hm
          go_wp2_with (go_at_call_of 33 (Value.bool false); refine (HR.out _ _).mono ?_; rintro e w4 ⟨rfl, rfl⟩)
          go_end0
          exact ⟨rfl, HQ0.out.trans HQ.out⟩
set_option maxHeartbeats 4000000 in
theorem size_bad (x : Sv) (l : List Fd) (c s : Int) (w : World) (hx : SegF w x.a l) (hl : l.length = x.n) (hb : l.length ≤ 8796093022208) (hd : BdF l) (h : muc l c s = true) : Calls Tryd.prog 24 #[.slice x.a x.n x.c, .agg #[.int .i64 c, .int .i64 s]] w fun e w' => e = .panicked [refP 185] ∧ Q w w' := by
  obtain ⟨xa, xn, xc⟩ := x
  dsimp only at *
  subst hl
  have HX := hid hx
  have HB := hid hb
  have HD := hid hd
  have HM := hid h
  have HR := hid (fun x W => refuse_no x W)
  have HY := hid (fun x W => refuse_yes x W)
  have HL := hid (heap_alloc_new w (.cells #[.int .i64 c, .int .i64 s] 30))
  have HQ0 := hid ((Q.refl w).alloc (.cells #[.int .i64 c, .int .i64 s] 30))
  clear hx hb hd h
  go_enter Tryd.func24, Tryd.ntmps24
  go_wp2_with fail
  generalize hW : World.alloc w _ = W0 at *
  clear hW
  go_loopw [4, 6, 9] (fun n b i wr => ∃ k : Nat, k ≤ l.length ∧ i = .int .i64 (k : Int) ∧ n = .int .i64 (sizS (l.take k)) ∧ Q W0 wr) (fun _ _ i _ => l.length - (intOf i).toNat)
  case atStart => exact ⟨0, by omega, rfl, rfl, Q.refl _⟩
  case round =>
    obtain ⟨k, hk, rfl, rfl, hq⟩ := hrel
    have HQ := hid hq
    by_cases hlt : k < l.length
    · obtain ⟨g, off, ⟨p1, p2⟩, ha, hp, c0, c1⟩ := ((HX.out.q HQ0.out).q hq).at hlt
      subst ha
      have hpm : (p1, p2) ∈ l := List.mem_of_getElem? hp
      obtain ⟨hs1, hs2⟩ := HD.out _ hpm
      have hs1I : (p1.size : Int) ≤ 140737488355328 := by dsimp only at hs1; omega
      have hs2I : (p2.size : Int) ≤ 140737488355328 := by dsimp only at hs2; omega
      have HS := hid (show sizS (l.take (k + 1)) = RowKit.wrap64 (sizS (l.take k) + ((p1.size : Int) + (p2.size : Int))) from by
        rw [List.take_add_one, hp]; exact sizS_snoc _ _)
      dsimp only at c0 c1
      have HA := hid (hq.alloc (.cells #[.string p1, .string p2] 37))
      have hki : (k : Int) < (l.length : Int) := by omega
      have hk0 : (0 : Int) ≤ (k : Int) := by omega
      have hkb : (k : Int) < 8796093022208 := by have := HB.out; omega
      clear hq hp hpm hs1 hs2
      generalize sizS (l.take k) = n at *
      go_wp2
      go_roundw
      case rel => exact ⟨k + 1, by omega, by go_num, by rw [HS.out], HA.out⟩
      case measure => simp [intOf]; omega
    · have hki : ¬ (k : Int) < (l.length : Int) := by omega
      have HS := hid (show sizS (l.take k) = sizS l from by rw [List.take_of_length_le (by omega)])
      have HB2 := hid (show wr.heap[w.heap.size]? = some (.cells #[.int .i64 c, .int .i64 s] 30 (0, 0)) from (Below.block hq _ (lt_of_block HL.out)).trans HL.out)
      have b0 : wr.cell? ⟨w.heap.size, 0, none⟩ = some (.int .i64 c) := by rw [cell_of_row wr _ 0 _ 30 (0, 0) HB2.out]; rfl
      have b1 : wr.cell? ⟨w.heap.size, 1, none⟩ = some (.int .i64 s) := by rw [cell_of_row wr _ 1 _ 30 (0, 0) HB2.out]; rfl
      rw [HS.out]
      have hm : (decide (c < (l.length : Int)) || decide (s < sizS l)) = true := HM.out
      generalize sizS l = n at *
      clear hq
      by_cases h1 : c < (l.length : Int)
      · go_wp2_with (go_at_call_of 33 (Value.bool true); refine (HY.out _ _).mono ?_; rintro e w4 ⟨rfl, rfl⟩)
        exact ⟨rfl, rfl, HQ0.out.trans HQ.out⟩
      · by_cases h2 : s < n
        · go_wp2_with (go_at_call_of 33 (Value.bool true); refine (HY.out _ _).mono ?_; rintro e w4 ⟨rfl, rfl⟩)
          exact ⟨rfl, rfl, HQ0.out.trans HQ.out⟩
        · rw [decide_eq_false h1, decide_eq_false h2] at hm; cases hm

end Go.Proofs.YthefijjdffafkaaDoor
