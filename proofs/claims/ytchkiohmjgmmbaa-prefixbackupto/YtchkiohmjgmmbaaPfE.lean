/-
  What the document's own power, Put and Get answer. Contracts that the statements' walks use.
-/
import Derived.Test.YtchkiohmjgmmbaaPfD
namespace Go.Proofs.Ytchkiohmjgmmbaa
open Go.RowKit
set_option linter.unusedVariables false
set_option maxRecDepth 100000

set_option maxHeartbeats 4000000 in
theorem rpower_any (k : Nat) (w : World) (hk : k ≤ 62) : Calls Try.prog 24 #[.int .i64 k] w fun e w' => e = .returned (.int .i64 ((2 : Int) ^ k)) ∧ w = w' := by
  go_enter Try.func24, Try.ntmps24
  go_wp2_with fail
  go_loopw [3, 4] (fun nv iv wr => wr = w ∧ ∃ j : Nat, j ≤ k ∧ iv = .int .i64 j ∧ nv = .int .i64 ((2 : Int) ^ j)) (fun _ i _ => ((k : Int) - intOf i).toNat)
  case atStart => exact ⟨rfl, 0, by omega, rfl, rfl⟩
  case round =>
    obtain ⟨hw, j, hj, rfl, rfl⟩ := hrel
    replace hw := hw.symm
    subst hw
    by_cases hjk : j < k
    · have hji : (j : Int) < (k : Int) := by omega
      have hp : (2 : Int) ^ j ≤ 2305843009213693952 ∧ 1 ≤ (2 : Int) ^ j := by
        have h := Nat.pow_le_pow_right (n := 2) (by decide) (show j ≤ 61 by omega)
        have h2 := Nat.two_pow_pos j
        have e : ((2 ^ j : Nat) : Int) = (2 : Int) ^ j := by simp
        omega
      have HS := hid (show (2 : Int) ^ (j + 1) = 2 ^ j * 2 from Int.pow_succ _ _)
      generalize (2 : Int) ^ j = z at *
      go_wp2_with fail
      go_roundw
      case rel => exact ⟨trivial, j + 1, by omega, by go_num, by rw [HS.out]⟩
      case measure => simp [intOf]; omega
    · obtain rfl : j = k := by omega
      go_wp2_with fail
      go_ret
      exact ⟨rfl, rfl⟩

set_option maxHeartbeats 4000000 in
theorem rput_any (n b f : Int) (w : World) (h0 : 0 ≤ f) (h1 : f < 256) :
    Calls Try.prog 10 #[.int .i64 n, .int .i64 b, .int .u8 f] w fun e w' => ∃ y : Sv, e = .returned (.tuple #[.slice y.a y.n y.c, .int .i64 (puE n b)]) ∧ Q w w' ∧ Row w' y (puB n b f) ∧ New w.heap.size y := by
  by_cases hb : 1 ≤ b ∧ b ≤ 8
  · obtain ⟨k, rfl⟩ := Int.eq_ofNat_of_zero_le (show 0 ≤ b by omega)
    have hk8 : k ≤ 8 := by omega
    have hk1 : 1 ≤ k := by omega
    have hb1 : ¬ (k : Int) < 1 := by omega
    have hb8 : ¬ 8 < (k : Int) := by omega
    have HO := hid (fun W => rpower_any k W (by omega))
    have hz := two_k k hk8
    have hz2 := two_k2 k hk1
    have hh := high_ok hk8 h0 h1
    by_cases hn : n < 0 ∨ 4611686018427387903 < n
    · have he : puE n k = 10 := by unfold puE; rw [if_neg (by simpa using hb), if_pos (by unfold mxN; exact hn)]
      have hbB : puB n k f = [] := by unfold puB; rw [he, if_neg (by decide)]
      rw [he, hbB]
      clear he hbB hh hb
      by_cases hn0 : n < 0
      · have hn0b : ¬ 0 ≤ n := by omega
        go_enter Try.func10, Try.ntmps10
        go_wp2_with fail
        go_ret2
        exact ⟨⟨none, 0, 0⟩, rfl, Q.refl _, ⟨by simp, .inl ⟨rfl, rfl, rfl⟩⟩, fun b e => by cases e⟩
      · have hn0b : decide (n < 0) = false := decide_eq_false hn0
        have hn1 : 4611686018427387903 < n := by omega
        go_enter Try.func10, Try.ntmps10
        go_wp2_with fail
        go_ret2
        exact ⟨⟨none, 0, 0⟩, rfl, Q.refl _, ⟨by simp, .inl ⟨rfl, rfl, rfl⟩⟩, fun b e => by cases e⟩
    · have hn0 : 0 ≤ n := by omega
      have hn1 : n ≤ 4611686018427387903 := by omega
      have hn0b : ¬ n < 0 := by omega
      have hn1b : ¬ 4611686018427387903 < n := by omega
      have he : puE n k = 0 := by unfold puE; rw [if_neg (by simpa using hb), if_neg (by unfold mxN; exact hn)]
      have hbB : puB n k f = pfP n (2 ^ k) (f / 2 ^ k * 2 ^ k) := by unfold puB; rw [he, if_pos rfl, Int.toNat_natCast]
      rw [he, hbB]
      clear he hbB hb hn hk1
      generalize hzz : (2 : Int) ^ k = z at *
      clear hzz
      have htd : f.tdiv z = f / z := Int.tdiv_eq_ediv_of_nonneg h0
      have hfz0 := Int.ediv_nonneg h0 (show 0 ≤ z by omega)
      have hfz1 := Int.ediv_le_self z h0
      generalize f / z = d at *
      generalize hg : d * z = g at *
      by_cases hs : n < z - 1
      · have hwn : IntKind.u8.wrap (g + n) = g + n := by simp only [IntKind.wrap, IntKind.bits, IntKind.signed]; simp; omega
        have HPF := hid (show pfP n z g = [g + n] from by unfold pfP; rw [if_pos hs])
        go_enter Try.func10, Try.ntmps10
        go_wp2_with (go_at_call 24; refine (HO.out _).mono ?_; rintro e w1 ⟨rfl, rfl⟩)
        go_ret2
        exact ⟨⟨some ⟨w.heap.size, 0, none⟩, 1, 1⟩, rfl, (Q.refl _).alloc _, by rw [HPF.out]; exact row_lit w _, fun b e => by cases e; exact Nat.le_refl _⟩
      · have hsf : decide (n < z - 1) = false := decide_eq_false hs
        have hwn : IntKind.u8.wrap (g + z - 1) = g + z - 1 := by simp only [IntKind.wrap, IntKind.bits, IntKind.signed]; simp; omega
        obtain ⟨T, hT⟩ : ∃ T, pfP n z g = T := ⟨_, rfl⟩
        have HTT := hid (show [g + z - 1] ++ ctF 8 (n - (z - 1)) = T from by rw [← hT]; unfold pfP; rw [if_neg hs]; rfl)
        have HTL := hid (show T.length ≤ 10 from by rw [← hT]; exact (pfP_len n z g).1)
        have HM0 := hid (show n - (z - 1) < 128 * 128 ^ 8 from by rw [show (128 : Int) * 128 ^ 8 = 9223372036854775808 by decide]; omega)
        rw [hT]
        clear hT
        go_enter Try.func10, Try.ntmps10
        go_wp2_with (go_at_call 24; refine (HO.out _).mono ?_; rintro e w1 ⟨rfl, rfl⟩)
        generalize hW : World.alloc w _ = W0
        have HQ0 := hid (show Q w W0 from by rw [← hW]; exact (Q.refl w).alloc _)
        have HR0 := hid (show Row W0 ⟨some ⟨w.heap.size, 0, none⟩, 1, 1⟩ [g + z - 1] from by rw [← hW]; exact row_lit w _)
        clear hW
        go_loopw [0, 10] (fun rv bv wr => Q w wr ∧ ∃ (f : Nat) (m : Int) (out : List Int) (x : Sv), bv = .slice x.a x.n x.c ∧ rv = .int .i64 m ∧ 0 ≤ m ∧ m ≤ 4611686018427387903 ∧ m < 128 * 128 ^ f ∧ out ++ ctF f m = T ∧ Row wr x out ∧ New w.heap.size x) (fun i _ _ => (intOf i).toNat)
        case atStart => exact ⟨HQ0.out, 8, n - (z - 1), [g + z - 1], ⟨some ⟨w.heap.size, 0, none⟩, 1, 1⟩, rfl, rfl, by omega, by omega, HM0.out, HTT.out, HR0.out, fun b e => by cases e; exact Nat.le_refl _⟩
        case round =>
          clear HQ0 HR0 HM0 HTT
          obtain ⟨hq, f, m, out, ⟨xa, xn, xc⟩, rfl, rfl, hm0, hm, hmf, hT, hr, hnew⟩ := hrel
          have HQ := hid hq
          have HMF := hid hmf
          have HT := hid hT
          have HR := hid hr
          have HN := hid hnew
          have HXN := hid (show xn ≤ 1099511627776 from by have h1 : out.length = xn := Row.len hr; have h2 := HTL.out; rw [← hT, List.length_append] at h2; omega)
          clear hq hmf hT hr hnew
          by_cases hc : 128 ≤ m
          · have hcf : ¬ m < 128 := by omega
            obtain ⟨gg, rfl⟩ : ∃ gg, f = gg + 1 := by
              cases f with
              | zero => have := HMF.out; simp at this; omega
              | succ gg => exact ⟨gg, rfl⟩
            have htm : m.tmod 128 = m % 128 := Int.tmod_eq_emod_of_nonneg hm0
            have htq : m.tdiv 128 = m / 128 := Int.tdiv_eq_ediv_of_nonneg hm0
            have hwr : IntKind.u8.wrap (128 + m % 128) = 128 + m % 128 := by simp only [IntKind.wrap, IntKind.bits, IntKind.signed]; simp; omega
            obtain ⟨⟨ya, yn, yc⟩, w5, hrun, hrow, hkp, hbb⟩ := row_one (128 + m % 128) HR.out HXN.out
            have X5 := hid (new_step' rfl HQ.out HN.out hkp hbb)
            have R5 := hid hrow
            have T5 := hid (show (out ++ [128 + m % 128]) ++ ctF gg (m / 128) = T from by rw [← HT.out, ctF, if_neg (by omega), List.append_assoc]; rfl)
            have M5 := hid (show m / 128 < 128 * 128 ^ gg from Int.ediv_lt_of_lt_mul (by omega) (by have h := HMF.out; rw [Int.pow_succ, ← Int.mul_assoc] at h; exact h))
            clear hkp hbb hrow
            go_wp2_with (at_builtin; refine Lib.wpList_append_run _ rfl _ _ _ _ rfl _ _ rfl rfl _ _ hrun ?_)
            go_roundw
            case rel => exact ⟨X5.out.1, gg, m / 128, _, ⟨ya, yn, yc⟩, rfl, by first | rfl | simp, by omega, by omega, M5.out, T5.out, R5.out, X5.out.2⟩
            case measure => simp [intOf]; omega
          · have hcf : ¬ 128 ≤ m := hc
            have hcg : m < 128 := by omega
            have hwr : IntKind.u8.wrap m = m := by simp only [IntKind.wrap, IntKind.bits, IntKind.signed]; simp; omega
            obtain ⟨⟨ya, yn, yc⟩, w5, hrun, hrow, hkp, hbb⟩ := row_one m HR.out HXN.out
            have X5 := hid (new_step' rfl HQ.out HN.out hkp hbb)
            have R5 := hid hrow
            have T5 := hid (show out ++ [m] = T from by
              rw [← HT.out]
              cases f with
              | zero => rfl
              | succ g => rw [ctF, if_pos (by omega)])
            clear hkp hbb hrow
            go_wp2_with (at_builtin; refine Lib.wpList_append_run _ rfl _ _ _ _ rfl _ _ rfl rfl _ _ hrun ?_)
            go_ret2
            exact ⟨⟨ya, yn, yc⟩, rfl, X5.out.1, by rw [← T5.out]; exact R5.out, X5.out.2⟩
  · have he : puE n b = 150 := by unfold puE; rw [if_pos hb]
    have hbB : puB n b f = [] := by unfold puB; rw [he, if_neg (by decide)]
    rw [he, hbB]
    by_cases hb1 : b < 1
    · clear hb
      have hb1b : ¬ 1 ≤ b := by omega
      go_enter Try.func10, Try.ntmps10
      go_wp2_with fail
      go_ret2
      exact ⟨⟨none, 0, 0⟩, rfl, Q.refl _, ⟨by simp, .inl ⟨rfl, rfl, rfl⟩⟩, fun b e => by cases e⟩
    · have hb8 : 8 < b := by omega
      have hb1b : decide (b < 1) = false := decide_eq_false hb1
      clear hb
      go_enter Try.func10, Try.ntmps10
      go_wp2_with fail
      go_ret2
      exact ⟨⟨none, 0, 0⟩, rfl, Q.refl _, ⟨by simp, .inl ⟨rfl, rfl, rfl⟩⟩, fun b e => by cases e⟩
end Go.Proofs.Ytchkiohmjgmmbaa
