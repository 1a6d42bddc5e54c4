/-
  What bits.Rem64, prim.times, Power, Public and Agree and the document's own times and Power do: contracts that the statements' walks use.
-/
import Derived.Test.YtekpepnonhbkcaaDiv
import Derived.Test.YtekpepnonhbkcaaPowM
namespace Go.Proofs.Ytekpepnonhbkcaa
open Go.RowKit
set_option linter.unusedVariables false
set_option maxRecDepth 20000

set_option maxHeartbeats 1000000 in
theorem rem_p (hi lo : Int) (w : World) (h0 : 0 ≤ hi) (h1 : hi < 2305843009213693951) (l0 : 0 ≤ lo) (l1 : lo < 18446744073709551616) :
    Calls Try.prog 88 #[.int .u64 hi, .int .u64 lo, .int .u64 2305843009213693951] w fun e w' => e = .returned (.int .u64 ((hi * 18446744073709551616 + lo) % 2305843009213693951)) ∧ Q w w' := by
  have hm : hi % 2305843009213693951 = hi := by omega
  have hm' : hi.tmod 2305843009213693951 = hi := by rw [Int.tmod_eq_emod_of_nonneg h0]; exact hm
  have HD := hid (div_p hi lo w h0 h1 l0 l1)
  go_enter Try.func88, Try.ntmps88
  go_wp2_with (go_at_call 91; refine HD.out.mono ?_; rintro e w1 ⟨⟨q, rfl⟩, hq⟩)
  go_ret
  exact ⟨rfl, hq⟩

set_option maxHeartbeats 1000000 in
theorem times_any (x y : Nat) (w : World) (hx : x < 2305843009213693951) (hy : y < 2305843009213693951) :
    Calls Try.prog 82 #[.int .u64 x, .int .u64 y] w fun e w' => e = .returned (.int .u64 ((x * y % 2305843009213693951 : Nat) : Int)) ∧ Q w w' := by
  have hxy : x * y ≤ 2305843009213693950 * 2305843009213693950 := Nat.mul_le_mul (by omega) (by omega)
  have HM := hid (mul64_any x y (by omega) (by omega) w)
  obtain ⟨h, hh, KH⟩ : ∃ h, x * y / 18446744073709551616 = h ∧ Hid (h = x * y / 18446744073709551616) := ⟨_, rfl, hid rfl⟩
  obtain ⟨l, hl, KL⟩ : ∃ l, x * y % 18446744073709551616 = l ∧ Hid (l = x * y % 18446744073709551616) := ⟨_, rfl, hid rfl⟩
  have HR := hid (rem_p (h : Int) (l : Int) w (by omega) (by omega) (by omega) (by omega))
  have HE := hid (show (((h : Int) * 18446744073709551616 + (l : Int)) % 2305843009213693951) = ((x * y % 2305843009213693951 : Nat) : Int) from by
    have := KH.out; have := KL.out
    generalize x * y = z at *
    omega)
  rw [hh, hl] at HM
  clear hh hl hxy
  go_enter Try.func82, Try.ntmps82
  go_wp2_with (first
    | (go_at_call 87; refine HM.out.mono ?_; rintro e w1 ⟨rfl, rfl⟩)
    | (go_at_call 88; refine HR.out.mono ?_; rintro e w2 ⟨rfl, hq⟩))
  go_ret
  exact ⟨ret_int HE.out, hq⟩

set_option maxHeartbeats 4000000 in
theorem power_any (b e : Int) (w : World) (he : e ≤ 9223372036854775807) : Calls Try.prog 73 #[.int .i64 b, .int .i64 e] w fun r w' => r = .returned (.int .i64 (pwr b e)) ∧ Q w w' := by
  by_cases h1 : b < 0
  · have HP := hid (pwr_bad (b := b) (e := e) (.inl h1))
    go_enter Try.func73, Try.ntmps73
    go_wp2
    go_ret
    exact ⟨ret_int HP.out.symm, Q.refl _⟩
  by_cases h2 : 2305843009213693951 ≤ b
  · have HP := hid (pwr_bad (b := b) (e := e) (.inr (.inl h2)))
    go_enter Try.func73, Try.ntmps73
    go_wp2
    go_ret
    exact ⟨ret_int HP.out.symm, Q.refl _⟩
  by_cases h3 : e < 0
  · have HP := hid (pwr_bad (b := b) (e := e) (.inr (.inr h3)))
    go_enter Try.func73, Try.ntmps73
    go_wp2
    go_ret
    exact ⟨ret_int HP.out.symm, Q.refl _⟩
  obtain ⟨b, rfl⟩ := Int.eq_ofNat_of_zero_le (show 0 ≤ b by omega)
  obtain ⟨e, rfl⟩ := Int.eq_ofNat_of_zero_le (show 0 ≤ e by omega)
  have hb : b < 2305843009213693951 := by omega
  have HP := hid (pwr_nat b e hb)
  have wb : IntKind.u64.wrap (b : Int) = (b : Int) := wr64 (by omega) (by omega)
  go_enter Try.func73, Try.ntmps73
  go_wp2
  go_loopw [1, 5, 6] (fun es ps ss wr => ∃ k P S : Nat, es = .int .i64 k ∧ ps = .int .u64 P ∧ ss = .int .u64 S ∧ P < 2305843009213693951 ∧ S < 2305843009213693951 ∧ k ≤ 9223372036854775807 ∧ P * S ^ k % 2305843009213693951 = b ^ e % 2305843009213693951 ∧ Q w wr) (fun es _ _ _ => (intOf es).toNat)
  case atStart => exact ⟨e, 1, b, rfl, rfl, rfl, by omega, hb, by omega, by rw [Nat.one_mul], Q.refl _⟩
  case round =>
    obtain ⟨k, P, S, rfl, rfl, rfl, hP, hS, hk, hI, hq⟩ := hrel
    have HI := hid hI
    have HQ := hid hq
    clear hI hq
    by_cases hk0 : 0 < k
    · have hk0' : (0 : Int) < (k : Int) := by omega
      by_cases ho : k % 2 = 1
      · have hm : ((k : Int) % 2) = 1 := by omega
        have hm' : ((k : Int).tmod 2) = 1 := by rw [Int.tmod_eq_emod_of_nonneg (by omega)]; exact hm
        go_wp2_with fail
        refine (times_any P S wr hP hS).mono ?_
        rintro e1 w1 ⟨rfl, q1⟩
        have Q1 := hid (HQ.out.trans q1)
        clear q1
        go_wp2_with fail
        refine (times_any S S w1 hS hS).mono ?_
        rintro e2 w2 ⟨rfl, q2⟩
        have Q2 := hid (Q1.out.trans q2)
        clear q2
        go_wp2
        go_roundw
        case rel => exact ⟨k / 2, P * S % 2305843009213693951, S * S % 2305843009213693951, by go_num, rfl, rfl, Nat.mod_lt _ (by omega), Nat.mod_lt _ (by omega), by omega, by rw [step_odd P S k _ ho]; exact HI.out, Q2.out⟩
        case measure => simp [intOf]; omega
      · have hm : ((k : Int) % 2) = 0 := by omega
        have hm' : ((k : Int).tmod 2) = 0 := by rw [Int.tmod_eq_emod_of_nonneg (by omega)]; exact hm
        go_wp2_with fail
        refine (times_any S S wr hS hS).mono ?_
        rintro e2 w2 ⟨rfl, q2⟩
        have Q2 := hid (HQ.out.trans q2)
        clear q2
        go_wp2
        go_roundw
        case rel => exact ⟨k / 2, P, S * S % 2305843009213693951, by go_num, rfl, rfl, hP, Nat.mod_lt _ (by omega), by omega, by rw [step_even P S k _ (by omega)]; exact HI.out, Q2.out⟩
        case measure => simp [intOf]; omega
    · obtain rfl : k = 0 := by omega
      have wp : IntKind.i64.wrap (P : Int) = (P : Int) := by rw [wrap_i64]; omega
      go_wp2
      go_ret
      refine ⟨ret_int ?_, HQ.out⟩
      rw [HP.out, ← HI.out, Nat.pow_zero, Nat.mul_one, Nat.mod_eq_of_lt hP]

set_option maxHeartbeats 1000000 in
theorem public_any (e : Int) (w : World) (he : e ≤ 9223372036854775807) : Calls Try.prog 57 #[.int .i64 e] w fun r w' => r = .returned (.int .i64 (pwr 37 e)) ∧ Q w w' := by
  have HP := hid (power_any 37 e w he)
  go_enter Try.func57, Try.ntmps57
  go_wp2_with (go_at_call 73; refine HP.out.mono ?_; rintro e w1 ⟨rfl, hq⟩)
  go_ret
  exact ⟨rfl, hq⟩
set_option maxHeartbeats 1000000 in
theorem agree_any (e b : Int) (w : World) (he : e ≤ 9223372036854775807) : Calls Try.prog 67 #[.int .i64 e, .int .i64 b] w fun r w' => r = .returned (.int .i64 (pwr b e)) ∧ Q w w' := by
  have HP := hid (power_any b e w he)
  go_enter Try.func67, Try.ntmps67
  go_wp2_with (go_at_call 73; refine HP.out.mono ?_; rintro e w1 ⟨rfl, hq⟩)
  go_ret
  exact ⟨rfl, hq⟩
end Go.Proofs.Ytekpepnonhbkcaa
