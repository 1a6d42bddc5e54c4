/-
  What the document's own Size and value answer. Contracts that the statement's walk uses.
-/
import Derived.Test.YtchkiohmjgmmbaaRCl
namespace Go.Proofs.Ytchkiohmjgmmbaa
open Go.RowKit
set_option linter.unusedVariables false
set_option maxRecDepth 100000

set_option maxHeartbeats 4000000 in
theorem rsize_any (a : Option Addr) (n c : Nat) (zs : List Int) (w : World) (hlen : zs.length = n) (hn : n ≤ 140737488355328) (hz : ∀ y ∈ zs, 0 ≤ y ∧ y < 256) (hseg : Seg w a zs) :
    Calls Try.prog 30 #[.slice a n c] w fun e w' => e = .returned (.int .i64 (hM (hN zs) : Nat)) ∧ w = w' := by
  have HLE := hid length_any
  have HL := hid hlen
  have HZ := hid hz
  have HS := hid hseg
  clear hlen hz hseg
  generalize hNZ : hN zs = NZ
  have HNZ := hid hNZ
  clear hNZ
  generalize hMZ : hM NZ = mz
  have HM := hid (show ((NZ : Nat) + 7 : Int) / 8 = (mz : Nat) from by rw [← hMZ]; unfold hM; omega)
  clear hMZ
  go_enter Try.func30, Try.ntmps30
  go_wp2_with fail
  go_loopw [3, 4] (fun s i wr => wr = w ∧ ∃ k : Nat, k ≤ n ∧ i = .int .i64 k ∧ s = .int .i64 (hN (zs.take k) : Nat)) (fun _ i _ => ((n : Int) - intOf i).toNat)
  case atStart => exact ⟨rfl, 0, Nat.zero_le _, rfl, rfl⟩
  case round =>
    obtain ⟨rfl, k, hk, rfl, rfl⟩ := hrel
    have hle := hN_take_le zs k
    by_cases hkn : k < n
    · have hki : (k : Int) < (n : Int) := by omega
      obtain ⟨y, hy, hg, hy2⟩ := byte_nat HZ.out (k := k) (by rw [HL.out]; exact hkn)
      obtain ⟨p, off, rfl, hc⟩ := HS.out (by intro e; have := HL.out; rw [e] at this; simp at this; omega)
      have hc1 := hc k (by rw [HL.out]; exact hkn)
      rw [hg] at hc1
      have HN := hid (hN_take hy2)
      have hly := hl_bd (y : Int)
      have HLY := hid (HLE.out y wr)
      clear hc hy2 hg
      generalize hN (zs.take k) = s at *
      generalize hl (y : Int) = l at *
      go_wp2_with (go_at_call 37; refine HLY.out.mono ?_; rintro e w1 ⟨rfl, rfl⟩)
      go_roundw
      case rel => exact ⟨trivial, k + 1, by omega, by go_num, congrArg (Value.int .i64) (by rw [HN.out]; omega)⟩
      case measure => simp [intOf]; omega
    · obtain rfl : k = n := by omega
      have e : zs.take k = zs := List.take_of_length_le (by rw [HL.out]; exact Nat.le_refl _)
      rw [e, HNZ.out] at hle ⊢
      clear e
      go_wp2_with fail
      go_ret
      refine ⟨ret_int ?_, rfl⟩
      have := HM.out
      omega

/-- Bits as a text of 0 and 1. -/
def bt (l : List Int) : List Int := l.map (48 + ·)
theorem bt_len (l : List Int) : (bt l).length = l.length := by simp [bt]
theorem bt_app (a b : List Int) : bt (a ++ b) = bt a ++ bt b := by simp [bt]
theorem bt_drop (a : List Int) (k : Nat) : (bt a).drop k = bt (a.drop k) := by simp [bt, List.map_drop]
theorem bt_take (a : List Int) (k : Nat) : (bt a).take k = bt (a.take k) := by simp [bt, List.map_take]
theorem bt_get {l : List Int} {k : Nat} {v : Int} (h : l[k]? = some v) : (bt l)[k]? = some (48 + v) := by simp [bt, h]
theorem v2_snoc {bs : List Int} {k : Nat} {v : Int} (h : bs[k]? = some v) : v2 0 (bs.take (k + 1)) = v2 0 (bs.take k) * 2 + v := by
  rw [List.take_add_one, h, Option.toList_some, v2_app]
  simp [v2]
theorem v2_lt (bs : List Int) (h : Bits bs) (k : Nat) (hk : k ≤ 8) : 0 ≤ v2 0 (bs.take k) ∧ v2 0 (bs.take k) < 256 := by
  have hb := v2_bound (bs.take k) (h.take k)
  have hl : (bs.take k).length ≤ 8 := Nat.le_trans (List.length_take_le _ _) hk
  have hp := Nat.pow_le_pow_right (n := 2) (by decide) hl
  have e := pow_cast (bs.take k).length
  refine ⟨hb.1, Int.lt_of_lt_of_le hb.2 ?_⟩
  rw [← e]
  exact Int.ofNat_le.2 hp
set_option maxHeartbeats 4000000 in
theorem value_any (bs : List Int) (w : World) (hb : Bits bs) (hl : bs.length = 8) : Calls Try.prog 39 #[.string (strOfNums (bt bs))] w fun e w' => e = .returned (.int .u8 (v2 0 bs)) ∧ w = w' := by
  have hsz : (strOfNums (bt bs)).size = 8 := by rw [str_len, bt_len, hl]
  have HG := hid (fun (i y : Nat) (h : (bt bs)[i]? = some (y : Int)) (hy : y < 256) (W : World) => str_get h hy .i64 W)
  have HB := hid hb
  have HL := hid hl
  clear hb hl
  generalize strOfNums (bt bs) = s at *
  obtain ⟨v, hv⟩ : ∃ v, v2 0 bs = v := ⟨_, rfl⟩
  have HV := hid hv
  rw [hv]
  clear hv
  go_enter Try.func39, Try.ntmps39
  go_wp2
  go_loopw [3, 4] (fun n i wr => wr = w ∧ ∃ k : Nat, k ≤ 8 ∧ i = .int .i64 k ∧ n = .int .i64 (v2 0 (bs.take k))) (fun _ i _ => ((8 : Int) - intOf i).toNat)
  case atStart => exact ⟨rfl, 0, Nat.zero_le _, rfl, rfl⟩
  case round =>
    obtain ⟨rfl, k, hk, rfl, rfl⟩ := hrel
    have hvb := v2_lt bs HB.out k hk
    by_cases hk8 : k < 8
    · have hki : (k : Int) < 8 := by omega
      have hkl : k < bs.length := by rw [HL.out]; exact hk8
      obtain ⟨b, hbk⟩ : ∃ b, bs[k]? = some b := ⟨_, List.getElem?_eq_getElem hkl⟩
      have hb01 := HB.out b (List.mem_of_getElem? hbk)
      have HS := hid (v2_snoc hbk)
      obtain ⟨y, hy⟩ := Int.eq_ofNat_of_zero_le (show 0 ≤ b by rcases hb01 with rfl | rfl <;> decide)
      subst hy
      have hix := HG.out k (48 + y) (by have := bt_get hbk; rw [this]; simp) (by omega)
      have hu : IntKind.u8.wrap (((48 + y : Nat) : Int) - 48) = (y : Int) := by rw [IntKind.wrap_u8]; omega
      have hu2 : IntKind.u8.wrap ((y : Nat) : Int) = (y : Int) := by rw [IntKind.wrap_u8]; omega
      have hy1 : y ≤ 1 := by omega
      clear hbk hb01 hkl
      generalize v2 0 (bs.take k) = n at *
      go_wp2
      go_roundw
      case rel => exact ⟨trivial, k + 1, by omega, by go_num, by rw [HS.out]; exact congrArg (Value.int .i64) (by omega)⟩
      case measure => simp [intOf]; omega
    · obtain rfl : k = 8 := by omega
      have e : bs.take 8 = bs := List.take_of_length_le (by rw [HL.out]; exact Nat.le_refl _)
      rw [e, HV.out] at hvb ⊢
      clear e
      have hu : IntKind.u8.wrap v = v := by rw [IntKind.wrap_u8]; omega
      go_wp2
      go_ret
      exact ⟨rfl, rfl⟩
end Go.Proofs.Ytchkiohmjgmmbaa
