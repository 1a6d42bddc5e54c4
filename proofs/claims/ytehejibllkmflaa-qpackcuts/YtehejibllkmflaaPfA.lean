/-
  What prefix's inner isPrefix, ones, putRest and Put answer. Contracts that the statements' walks use.
-/
import Derived.Test.YtehejibllkmflaaOth
import Derived.Test.YtehejibllkmflaaPfM
namespace Go.Proofs.Ytehejibllkmflaa
open Go.RowKit
set_option linter.unusedVariables false
set_option maxRecDepth 100000

theorem two_k (k : Nat) (h : k ≤ 8) : (2 : Int) ^ k ≤ 256 ∧ 1 ≤ (2 : Int) ^ k := by
  have h1 := Nat.pow_le_pow_right (n := 2) (by decide) h
  have h2 := Nat.two_pow_pos k
  have e : ((2 ^ k : Nat) : Int) = (2 : Int) ^ k := by simp
  omega
theorem two_k2 (k : Nat) (h1 : 1 ≤ k) : 2 ≤ (2 : Int) ^ k := by
  have h1 := Nat.pow_le_pow_right (n := 2) (by decide) h1
  have e : ((2 ^ k : Nat) : Int) = (2 : Int) ^ k := by simp
  omega
theorem anot_tab : ∀ k : Fin 9, ∀ f : Fin 256, bits .andNot .u8 (f.val : Int) ((2 : Int) ^ k.val - 1) = (f.val : Int) / 2 ^ k.val * 2 ^ k.val := by decide +kernel
theorem anot_any {k : Nat} {f : Int} (hk : k ≤ 8) (h0 : 0 ≤ f) (h1 : f < 256) : bits .andNot .u8 f ((2 : Int) ^ k - 1) = f / 2 ^ k * 2 ^ k := by
  obtain ⟨x, rfl⟩ := Int.eq_ofNat_of_zero_le h0
  exact anot_tab ⟨k, by omega⟩ ⟨x, by omega⟩
theorem or_join {k : Nat} {h n : Int} (hk : k ≤ 8) (h0 : 0 ≤ h) (h1 : h < 256) (hm : h % 2 ^ k = 0) (n0 : 0 ≤ n) (n1 : n < 2 ^ k) : bits .or .u8 h n = h + n := by
  have hp := (two_k k hk).1
  obtain ⟨x, rfl⟩ := Int.eq_ofNat_of_zero_le h0
  obtain ⟨y, rfl⟩ := Int.eq_ofNat_of_zero_le n0
  have e : ((2 ^ k : Nat) : Int) = (2 : Int) ^ k := by simp
  rw [← e] at hm n1 hp
  rw [u8_or_nat x y (by omega) (by omega), nat_join k x y (by omega) (by omega)]
  omega
theorem and127 (n : Int) (h0 : 0 ≤ n) (h : n < 9223372036854775808) : bits .and .i64 n 127 = n % 128 := by
  obtain ⟨m, rfl⟩ := Int.eq_ofNat_of_zero_le h0
  have := i64_and_nat m 127 (by omega) (by omega)
  rw [nat_mask7] at this
  simpa using this
theorem row_lit (w : World) (v : Int) : Row (w.alloc (.cells #[.int .u8 v] 5)) ⟨some ⟨w.heap.size, 0, none⟩, 1, 1⟩ [v] :=
  ⟨by simp, .inr ⟨w.heap.size, 0, #[.int .u8 v], rfl, heap_alloc_new w _, by simp, by simp [maxLen], by simp, fun j hj => by
    obtain rfl : j = 0 := by simpa using hj
    rfl⟩⟩

theorem isP_any (b : Int) (w : World) : Calls Try.prog 61 #[.int .i64 b] w fun e w' => e = .returned (.bool (decide (1 ≤ b ∧ b ≤ 8))) ∧ w = w' := by
  by_cases h1 : 1 ≤ b
  · by_cases h2 : b ≤ 8
    · have e : decide (1 ≤ b ∧ b ≤ 8) = true := decide_eq_true ⟨h1, h2⟩
      rw [e]
      have h1b : ¬ b < 1 := by omega
      go_enter Try.func61, Try.ntmps61
      go_wp2_with fail
      go_ret
      exact ⟨rfl, rfl⟩
    · have e : decide (1 ≤ b ∧ b ≤ 8) = false := decide_eq_false (fun h => h2 h.2)
      rw [e]
      have h2b : decide (b ≤ 8) = false := decide_eq_false h2
      go_enter Try.func61, Try.ntmps61
      go_wp2_with fail
      go_ret
      exact ⟨rfl, rfl⟩
  · have e : decide (1 ≤ b ∧ b ≤ 8) = false := decide_eq_false (fun h => h1 h.1)
    rw [e]
    have h1b : decide (1 ≤ b) = false := decide_eq_false h1
    go_enter Try.func61, Try.ntmps61
    go_wp2_with fail
    go_ret
    exact ⟨rfl, rfl⟩
theorem pones_any (k : Nat) (w : World) (hk : k ≤ 8) : Calls Try.prog 62 #[.int .i64 k] w fun e w' => e = .returned (.int .i64 ((2 : Int) ^ k - 1)) ∧ w = w' := by
  have hp := two_k k hk
  have hw1 : IntKind.i64.wrap (1 * 2 ^ (min (k : Int).toNat 64)) = (2 : Int) ^ k := by rw [wrap_i64, show min (k : Int).toNat 64 = k by omega]; omega
  go_enter Try.func62, Try.ntmps62
  go_wp2_with fail
  go_ret
  exact ⟨rfl, rfl⟩

set_option maxHeartbeats 4000000 in
theorem putRest_any (w0 w : World) (x : Sv) (out : List Int) (m : Int) (hq : Q w0 w) (hr : Row w x out) (hnw : New w0.heap.size x) (hm0 : 0 ≤ m) (hm : m ≤ mxN) (hol : out.length ≤ 1000) :
    Calls Try.prog 63 #[.slice x.a x.n x.c, .int .i64 m] w fun e w' => ∃ y : Sv, e = .returned (.slice y.a y.n y.c) ∧ Q w0 w' ∧ Row w' y (out ++ ctF 8 m) ∧ New w0.heap.size y := by
  obtain ⟨xa, xn, xc⟩ := x
  have HQ0 := hid hq
  have HR0 := hid hr
  have HN0 := hid hnw
  have HOL := hid hol
  have hmx : mxN = 4611686018427387903 := rfl
  rw [hmx] at hm
  have HM0 := hid (show m < 128 * 128 ^ 8 from by rw [show (128 : Int) * 128 ^ 8 = 9223372036854775808 by decide]; omega)
  have HT := hid (show ∀ y, y = out ++ ctF 8 m → y.length ≤ 1009 from by intro y e; rw [e, List.length_append]; have := ct_len 8 m; omega)
  clear hq hr hnw hmx hol
  obtain ⟨T, hT⟩ : ∃ T, out ++ ctF 8 m = T := ⟨_, rfl⟩
  have HTT := hid hT
  have HTL := hid (HT.out T hT.symm)
  rw [hT]
  clear hT HT
  go_enter Try.func63, Try.ntmps63
  go_wp2_with fail
  go_loopw [0, 1] (fun bv rv wr => Q w0 wr ∧ ∃ (f : Nat) (m : Int) (out : List Int) (x : Sv), bv = .slice x.a x.n x.c ∧ rv = .int .i64 m ∧ 0 ≤ m ∧ m ≤ 4611686018427387903 ∧ m < 128 * 128 ^ f ∧ out ++ ctF f m = T ∧ Row wr x out ∧ New w0.heap.size x) (fun _ i _ => (intOf i).toNat)
  case atStart => exact ⟨HQ0.out, 8, m, out, ⟨xa, xn, xc⟩, rfl, rfl, hm0, hm, HM0.out, HTT.out, HR0.out, HN0.out⟩
  case round =>
    clear HQ0 HR0 HN0 HM0 HTT HOL hm0 hm
    obtain ⟨hq, f, m, out, ⟨xa, xn, xc⟩, rfl, rfl, hm0, hm, hmf, hT, hr, hnew⟩ := hrel
    have HQ := hid hq
    have HMF := hid hmf
    have HT := hid hT
    have HR := hid hr
    have HN := hid hnew
    have HXN := hid (show xn ≤ 1099511627776 from by have h1 : out.length = xn := Row.len hr; have h2 := HTL.out; rw [← hT, List.length_append] at h2; omega)
    clear hq hmf hT hr hnew
    by_cases hc : 127 < m
    · have hcf : ¬ m ≤ 127 := by omega
      obtain ⟨g, rfl⟩ : ∃ g, f = g + 1 := by
        cases f with
        | zero => have := HMF.out; simp at this; omega
        | succ g => exact ⟨g, rfl⟩
      have hand := and127 m hm0 (by omega)
      have hwr : IntKind.u8.wrap (m % 128) = m % 128 := by simp only [IntKind.wrap, IntKind.bits, IntKind.signed]; simp; omega
      have hor : bits .or .u8 128 (m % 128) = 128 + m % 128 := or_join (k := 7) (by omega) (by omega) (by omega) (by decide) (by omega) (show m % 128 < 128 by omega)
      obtain ⟨⟨ya, yn, yc⟩, w5, hrun, hrow, hkp, hbb⟩ := row_one (128 + m % 128) HR.out HXN.out
      have X5 := hid (new_step' rfl HQ.out HN.out hkp hbb)
      have R5 := hid hrow
      have T5 := hid (show (out ++ [128 + m % 128]) ++ ctF g (m / 128) = T from by rw [← HT.out, ctF, if_neg (by omega), List.append_assoc]; rfl)
      have M5 := hid (show m / 128 < 128 * 128 ^ g from Int.ediv_lt_of_lt_mul (by omega) (by have h := HMF.out; rw [Int.pow_succ, ← Int.mul_assoc] at h; exact h))
      clear hkp hbb hrow
      go_wp2_with (at_builtin; refine Lib.wpList_append_run _ rfl _ _ _ _ rfl _ _ rfl rfl _ _ hrun ?_)
      go_roundw
      case rel => exact ⟨X5.out.1, g, m / 128, _, ⟨ya, yn, yc⟩, rfl, by first | rfl | simp, by omega, by omega, M5.out, T5.out, R5.out, X5.out.2⟩
      case measure => simp [intOf]; omega
    · have hcf : ¬ 127 < m := hc
      have hwr : IntKind.u8.wrap m = m := by simp only [IntKind.wrap, IntKind.bits, IntKind.signed]; simp; omega
      obtain ⟨⟨ya, yn, yc⟩, w5, hrun, hrow, hkp, hbb⟩ := row_one m HR.out HXN.out
      have X5 := hid (new_step' rfl HQ.out HN.out hkp hbb)
      have R5 := hid hrow
      have T5 := hid (show out ++ [m] = T from by
        rw [← HT.out]
        cases f with
        | zero => rfl
        | succ g => rw [ctF, if_pos (by omega)])
      clear hkp hbb hrow
      go_wp2_with (at_builtin; refine Lib.wpList_append_run _ rfl _ _ _ _ rfl _ _ rfl rfl _ _ hrun ?_)
      go_ret
      exact ⟨⟨ya, yn, yc⟩, rfl, X5.out.1, by rw [← T5.out]; exact R5.out, X5.out.2⟩
end Go.Proofs.Ytehejibllkmflaa
