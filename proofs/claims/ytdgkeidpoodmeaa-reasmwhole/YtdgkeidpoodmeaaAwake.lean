/-
  The law's own awake answers true and turns nothing that was there.
-/
import Derived.Test.YtdgkeidpoodmeaaLaw
import Derived.Lib.SlBytesConst
namespace Go.Proofs.Ytdgkeidpoodmeaa
open Go.RowKit
set_option linter.unusedVariables false

theorem aw_err : errOf 8 s0 0 2 true = 0 := by decide
theorem aw_fresh : freshOf 8 s0 0 [97, 98] true = 2 := by decide
theorem aw_m : readM (putAll 8 s0 0 [97, 98] true) 9 = 2 := by decide
theorem aw_end : endOf (readSt (putAll 8 s0 0 [97, 98] true) 9) = true := by decide
theorem aw_vals : vals ((putAll 8 s0 0 [97, 98] true).xs.take 2) = [97, 98] := by decide

set_option maxHeartbeats 2000000 in
theorem awake_any (w : World) : Calls Try.prog 10 #[] w fun e w' => e = .returned (.bool true) ∧ Q w w' := by
  go_enter Try.func10, Try.ntmps10
  go_wp2_with fail
  refine (new_good 8 w (by omega) (by omega)).mono ?_
  rintro e w1 ⟨rfl, hb1, hq1, hlt⟩
  have HB1 := hid hb1
  have HQ1 := hid hq1
  clear hb1 hq1
  have HA := hid (heap_alloc_new w1 (.cells #[.int .u8 97, .int .u8 98] 5 (2, 3)))
  have HQA := hid ((Q.refl w1).alloc (.cells #[.int .u8 97, .int .u8 98] 5 (2, 3)))
  have kc := Lib.run_convert_bytes_const (P := Try.prog) w1 28 5 #[.int .u8 97, .int .u8 98] 2 2 Try.underlying28 Try.underlying5
  go_wp2_with fail
  generalize w1.alloc (.cells #[.int .u8 97, .int .u8 98] 5 (2, 3)) = w2 at *
  have HSG := hid (show Seg w2 (some ⟨w1.heap.size, 0, none⟩) [97, 98] from fun _ => ⟨_, _, rfl, fun i hi => by
    have : i = 0 ∨ i = 1 := by simp at hi; omega
    rcases this with rfl | rfl <;> (rw [cell_of_row w2 _ _ _ 5 (2, 3) HA.out]; rfl)⟩)
  refine (put_any w.heap.size 8 s0 none 0 0 0 (some ⟨w1.heap.size, 0, none⟩) 2 2 [97, 98] true w2 (HB1.out.q HQA.out) (ok0 (by omega) (by omega)) (by omega) HSG.out rfl (fun b hb e => by
    have e' : w1.heap.size = b := by simpa [blk] using hb
    have := HB1.out.lt b e; omega) (Nat.le_refl _)).mono ?_
  rintro e w3 ⟨a', n', c', rfl, hb3, hk3, hbb⟩
  rw [aw_fresh, aw_err]
  have HO := hid (ok_putAll (ok0 (room := 8) (by omega) (by omega)) 0 [97, 98] true)
  have HM := hid aw_m
  have HE := hid aw_end
  have HV := hid aw_vals
  have HB3 := hid hb3
  have HQ3 := hid (show Keep (fun k => w.heap.size ≤ k) w w3 from (Keep.ofQ (HQ1.out.trans HQA.out)).trans' hk3 (fun i hi e => by
    rcases e with h | h
    · omega
    · cases h))
  have HBB := hid (show ∀ b, blk a' = some b → w.heap.size ≤ b from fun b hb => by
    rcases hbb b hb with h | h
    · cases h
    · have := HQ1.out.size; have := HQA.out.size; omega)
  clear hb3 hk3 hbb
  generalize putAll 8 s0 0 [97, 98] true = s1 at *
  go_wp2_with fail
  refine (read_any w.heap.size 8 s1 a' n' c' 9 w3 HB3.out HO.out).mono ?_
  rintro e w4 ⟨a2, n2, c2, D, rfl, hb4, hs4, hD, hk4, hbb4⟩
  rw [HM.out] at hs4
  rw [HV.out] at hs4
  rw [HM.out, HE.out]
  obtain ⟨g', o', e', _, hc'⟩ := hs4.some_ (by omega)
  cases e'
  have d1 : w4.cell? ⟨D, 1, none⟩ = some (.int .u8 98) := hc' 1 _ rfl
  have HQ4 := hid (show Q w w4 from (HQ3.out.trans' hk4 (fun i hi e => by
    rcases e with h | h
    · omega
    · have := HBB.out i h; omega)).toQ (fun i hi h => by omega))
  clear hb4 hs4 hk4 hbb4 hc'
  go_wp2
  go_ret
  exact ⟨rfl, HQ4.out⟩
end Go.Proofs.Ytdgkeidpoodmeaa
