/-
  The law's own awake answers true and turns nothing that was there.
-/
import Derived.Test.YtppemfdoogmeeaaNext
import Derived.Test.YtppemfdoogmeeaaWrite
import Derived.Lib.SlBytesConst
import Derived.Laws.BytesArg
namespace Go.Proofs.Ytppemfdoogmeeaa
open Go.RowKit
set_option linter.unusedVariables false

theorem aw_n : wrN 4 s0 6 = 4 := by decide
theorem aw_e : wrE s0 = 0 := by decide
theorem aw_p : nxP (wrS 4 s0 [97, 98, 99, 100, 101, 102]) 3 9 = 0 := by decide
theorem aw_f : nxF (wrS 4 s0 [97, 98, 99, 100, 101, 102]) 3 9 = false := by decide
theorem aw_o : nxO (wrS 4 s0 [97, 98, 99, 100, 101, 102]) 3 9 = true := by decide
theorem aw_d : nxD (wrS 4 s0 [97, 98, 99, 100, 101, 102]) 3 9 = [97, 98, 99] := by decide
theorem aw_l : (wrS 4 s0 [97, 98, 99, 100, 101, 102]).ms.length ≤ 4611686018427387904 := by decide

set_option maxHeartbeats 2000000 in
theorem awake_any (w : World) : Calls Try.prog 9 #[] w fun e w' => e = .returned (.bool true) ∧ Q w w' := by
  go_enter Try.func9, Try.ntmps9
  go_wp2_with fail
  refine (new_good 4 w (by omega) (by omega)).mono ?_
  rintro e w1 ⟨rfl, hb1, hq1, hlt⟩
  have HB1 := hid hb1
  have HQ1 := hid hq1
  clear hb1 hq1
  have HA := hid (heap_alloc_new w1 (.cells #[.int .u8 97, .int .u8 98, .int .u8 99, .int .u8 100, .int .u8 101, .int .u8 102] 5 (6, 7)))
  have HQA := hid ((Q.refl w1).alloc (.cells #[.int .u8 97, .int .u8 98, .int .u8 99, .int .u8 100, .int .u8 101, .int .u8 102] 5 (6, 7)))
  have kc := Lib.run_convert_bytes_const (P := Try.prog) w1 27 5 #[.int .u8 97, .int .u8 98, .int .u8 99, .int .u8 100, .int .u8 101, .int .u8 102] 6 6 Try.underlying27 Try.underlying5
  go_wp2_with fail
  generalize w1.alloc (.cells #[.int .u8 97, .int .u8 98, .int .u8 99, .int .u8 100, .int .u8 101, .int .u8 102] 5 (6, 7)) = w2 at *
  have HSG := hid (show Seg w2 (some ⟨w1.heap.size, 0, none⟩) [97, 98, 99, 100, 101, 102] from fun _ => ⟨_, _, rfl, fun i hi => by
    have : i = 0 ∨ i = 1 ∨ i = 2 ∨ i = 3 ∨ i = 4 ∨ i = 5 := by simp at hi; omega
    rcases this with rfl | rfl | rfl | rfl | rfl | rfl <;> (rw [cell_of_row w2 _ _ _ 5 (6, 7) HA.out]; rfl)⟩)
  refine (write_any w.heap.size nilS nilS 4 s0 (some ⟨w1.heap.size, 0, none⟩) 6 6 [97, 98, 99, 100, 101, 102] w2 (HB1.out.q HQA.out) (ok0 (by omega) (by omega)) HSG.out rfl (Nat.le_refl _) (by omega) (fun _ b hb e => by
    have e' : w1.heap.size = b := by simpa [blk] using hb
    have := HB1.out.lt b e; omega)).mono ?_
  rintro e w3 ⟨d', m', rfl, hb3, hk3, hbb⟩
  rw [aw_n, aw_e]
  have HO := hid (ok_wr (ok0 (room := 4) (by omega) (by omega)) [97, 98, 99, 100, 101, 102])
  have HP := hid aw_p
  have HF := hid aw_f
  have HOO := hid aw_o
  have HDD := hid aw_d
  have HL := hid aw_l
  have HB3 := hid hb3
  have HQ3 := hid (show Keep (fun k => w.heap.size ≤ k) w w3 from (Keep.ofQ (HQ1.out.trans HQA.out)).trans' hk3 (fun i hi e => by
    rcases e with h | h | h
    · omega
    · cases h
    · cases h))
  have HBB := hid (show ∀ b, Fp w.heap.size d' m' b → w.heap.size ≤ b from fun b hb => by
    rcases hbb b hb with h | h
    · rcases h with h | h | h
      · omega
      · cases h
      · cases h
    · have := HQ1.out.size; have := HQA.out.size; omega)
  clear hb3 hk3 hbb
  generalize wrS 4 s0 [97, 98, 99, 100, 101, 102] = s1 at *
  go_wp2_with fail
  refine (next_any w.heap.size d' m' 4 s1 3 9 w3 HB3.out HO.out HL.out).mono ?_
  rintro e w4 ⟨D, rfl, hb4, hr4, hD4, hk4⟩
  rw [HDD.out] at hr4
  rw [HP.out, HF.out, HOO.out]
  have hn := hr4.len
  obtain ⟨da, dn, dc⟩ := D
  simp only at hn
  have hn3 : dn = 3 := by simpa using hn.symm
  subst hn3
  obtain ⟨g', o', e', _, hc'⟩ := row_cells hr4 (show 0 < 3 by omega)
  simp only at e' hc'
  subst e'
  have hcv := run_convert_bytes_arg (P := Try.prog) w4 27 5 Try.underlying27 Try.underlying5 g' o' 3 dc [97, 98, 99] rfl (fun i hi => hc' i hi) 9 Try.underlying9
  have hst : strOfNums [97, 98, 99] = ⟨#[97, 98, 99]⟩ := rfl
  rw [hst] at hcv
  have HQ4 := hid (show Q w w4 from (HQ3.out.trans' hk4 (fun i hi e => HBB.out i e)).toQ (fun i hi h => by omega))
  clear hb4 hr4 hk4 hD4 hc' hst
  go_wp2
  go_ret
  exact ⟨rfl, HQ4.out⟩
end Go.Proofs.Ytppemfdoogmeeaa
