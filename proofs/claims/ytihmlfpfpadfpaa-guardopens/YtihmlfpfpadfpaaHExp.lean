/-
  What header.Expand does: contracts that the statements' walks use.
-/
import Derived.Test.YtihmlfpfpadfpaaBase
import Derived.Test.YtihmlfpfpadfpaaHNum
import Derived.BigQuiet
import Derived.Deep.QuietTactic
import Derived.Lib.MinMax
namespace Go.Proofs.Ytihmlfpfpadfpaa
open Go.RowKit
set_option linter.unusedVariables false
set_option maxRecDepth 20000

theorem i64_andNot_nat (a b : Nat) (ha : a < 9223372036854775808) (hb : b < 9223372036854775808) : bits .andNot .i64 (a : Int) (b : Int) = ((a &&& (18446744073709551615 - b) : Nat) : Int) := by
  have hx : a &&& (18446744073709551615 - b) ≤ a := Nat.and_le_left
  show IntKind.i64.wrap ((BitVec.ofInt 64 (a : Int) &&& ~~~BitVec.ofInt 64 (b : Int)).toNat : Int) = _
  rw [BitVec.toNat_and, BitVec.toNat_not, ofInt_i64 a ha, ofInt_i64 b hb, wrap_i64]
  have e : 2 ^ 64 - 1 - b = 18446744073709551615 - b := by omega
  rw [e]
  omega
theorem nat_clear (k a : Nat) (hk : k ≤ 64) (ha : a < 2 ^ 64) : a &&& (2 ^ 64 - 1 - (2 ^ k - 1)) = a / 2 ^ k * 2 ^ k := by
  apply Nat.eq_of_testBit_eq
  intro i
  have hp : 0 < 2 ^ k := Nat.two_pow_pos k
  have hle : 2 ^ k ≤ 2 ^ 64 := Nat.pow_le_pow_right (by omega) hk
  have e : 2 ^ 64 - 1 - (2 ^ k - 1) = 2 ^ 64 - ((2 ^ k - 1) + 1) := by omega
  rw [Nat.testBit_and, e, Nat.testBit_two_pow_sub_succ (by omega), Nat.testBit_two_pow_sub_one, Nat.testBit_mul_two_pow, Nat.testBit_div_two_pow]
  by_cases h : i < k
  · have : ¬ k ≤ i := by omega
    simp [h, this]
  · have h2 : k ≤ i := by omega
    have e2 : i - k + k = i := by omega
    by_cases h3 : i < 64
    · simp [h, h2, h3, e2]
    · have : a.testBit i = false := Nat.testBit_lt_two_pow (Nat.lt_of_lt_of_le ha (Nat.pow_le_pow_right (by omega) (by omega)))
      simp [h2, e2, this]
theorem near_bits (k : Nat) (S want part : Int) (hS : S = ((2 ^ k : Nat) : Int)) (hk : k ≤ 32) (h0 : 0 ≤ want) (h1 : want ≤ 4611686018427387904) (p0 : 0 ≤ part) (p1 : part < S) : bits .or .i64 (bits .andNot .i64 want (S - 1)) part = want / S * S + part := by
  obtain ⟨a, rfl⟩ := Int.eq_ofNat_of_zero_le h0
  obtain ⟨b, rfl⟩ := Int.eq_ofNat_of_zero_le p0
  subst hS
  have hp : 0 < 2 ^ k := Nat.two_pow_pos k
  have hle : 2 ^ k ≤ 2 ^ 32 := Nat.pow_le_pow_right (by omega) hk
  have e : ((2 ^ k : Nat) : Int) - 1 = ((2 ^ k - 1 : Nat) : Int) := by omega
  rw [e, i64_andNot_nat a (2 ^ k - 1) (by omega) (by omega)]
  have e2 : 18446744073709551615 - (2 ^ k - 1) = 2 ^ 64 - 1 - (2 ^ k - 1) := by omega
  rw [e2, nat_clear k a (by omega) (by omega)]
  have hm : a / 2 ^ k * 2 ^ k ≤ a := Nat.div_mul_le_self a _
  rw [i64_or_nat _ b (by omega) (by omega), nat_join k _ b (Nat.mul_mod_left _ _) (by omega)]
  simp

set_option maxHeartbeats 400000 in
theorem apart_any (a b : Int) (w : World) (a0 : 0 ≤ a) (a1 : a ≤ 4611686018427387904) (b0 : 0 ≤ b) (b1 : b ≤ 4611686018427387904) : Calls Try.prog 84 #[.int .i64 a, .int .i64 b] w fun e w' => e = .returned (.int .i64 (farN a b)) ∧ w = w' := by
  by_cases h : a < b
  · have e1 : max a b = b := by omega
    have e2 : min a b = a := by omega
    go_enter Try.func84, Try.ntmps84
    go_wp2
    go_ret
    exact ⟨ret_int (by unfold farN; rw [if_pos h]), rfl⟩
  · have e1 : max a b = a := by omega
    have e2 : min a b = b := by omega
    go_enter Try.func84, Try.ntmps84
    go_wp2
    go_ret
    exact ⟨ret_int (by unfold farN; rw [if_neg (by omega)]), rfl⟩
theorem ix0 (a b c : Value) (w : World) : (Instr.index 127 (.agg #[a, b, c]) (.int .i64 0)).run Try.prog w = .ok a w := by rfl
theorem ix1 (a b c : Value) (w : World) : (Instr.index 127 (.agg #[a, b, c]) (.int .i64 1)).run Try.prog w = .ok b w := by rfl
theorem ix2 (a b c : Value) (w : World) : (Instr.index 127 (.agg #[a, b, c]) (.int .i64 2)).run Try.prog w = .ok c w := by rfl
theorem far_range (a b : Int) (a0 : 0 ≤ a) (a1 : a ≤ 4611686018427387904) (b0 : 0 ≤ b) (b1 : b ≤ 4611686018427387904) : 0 ≤ farN a b ∧ farN a b ≤ 4611686018427387904 := by
  unfold farN; split <;> omega
theorem ps_no1 {want b n : Int} (h : n < 0) : ps want b n = b := by unfold ps; rw [if_neg (by omega)]
theorem ps_no2 {want b n : Int} (h : 4611686018427387903 < n) : ps want b n = b := by unfold ps; rw [if_neg (by omega)]
theorem ps_new {want b n : Int} (h : 0 ≤ n) (h1 : n ≤ 4611686018427387903) (h2 : b < 0) : ps want b n = n := by unfold ps; rw [if_pos ⟨h, h1, .inl h2⟩]
theorem ps_near {want b n : Int} (h : 0 ≤ n) (h1 : n ≤ 4611686018427387903) (h2 : farN n want < farN b want) : ps want b n = n := by unfold ps; rw [if_pos ⟨h, h1, .inr h2⟩]
theorem ps_far {want b n : Int} (h1 : 0 ≤ b) (h2 : ¬ farN n want < farN b want) : ps want b n = b := by unfold ps; rw [if_neg (by omega)]
theorem ps_range {want b n : Int} (h : -1 ≤ b) (h1 : b ≤ 4611686018427387903) : -1 ≤ ps want b n ∧ ps want b n ≤ 4611686018427387903 := by
  rcases ps_cases want b n with h | h <;> omega

set_option maxHeartbeats 4000000 in
theorem expand_1 (high part N want : Int) (w : World) (hw : high + 1 = want) (h1 : -1 ≤ high) (h2 : high ≤ 4611686018427387903) (p0 : 0 ≤ part) (p1 : part < 256) (hN : bits .or .i64 (bits .andNot .i64 want 255) part = N) (n0 : 0 ≤ N) (n1 : N ≤ 4611686022722355200) :
    Calls Try.prog 75 #[.int .i64 high, .int .i64 part, .int .i64 1] w fun e w' => e = .returned (.int .i64 (ps want (ps want (ps want (-1) (N + 256)) N) (N - 256))) ∧ w = w' := by
  have w0 : 0 ≤ want := by omega
  have w1 : want ≤ 4611686018427387904 := by omega
  have HB1 := hid (ps_range (want := want) (b := -1) (n := N + 256) (by omega) (by omega))
  have HB2 := hid (ps_range (want := want) (b := ps want (-1) (N + 256)) (n := N) HB1.out.1 HB1.out.2)
  generalize hB1 : ps want (-1) (N + 256) = B1 at *
  generalize hB2 : ps want B1 N = B2 at *
  generalize hB3 : ps want B2 (N - 256) = B3 at *
  have H1 := hid hB1
  have H2 := hid hB2
  have H3 := hid hB3
  clear hB1 hB2 hB3
  go_enter Try.func75, Try.ntmps75
  go_wp2
  go_loopw [10, 53] (fun b j wr => w = wr ∧ ((j = .int .i64 0 ∧ b = .int .i64 (-1)) ∨ (j = .int .i64 1 ∧ b = .int .i64 B1) ∨ (j = .int .i64 2 ∧ b = .int .i64 B2) ∨ (j = .int .i64 3 ∧ b = .int .i64 B3))) (fun _ j _ => (3 - intOf j).toNat)
  case atStart => exact ⟨rfl, .inl ⟨rfl, rfl⟩⟩
  case round =>
    obtain ⟨rfl, ⟨rfl, rfl⟩ | ⟨rfl, rfl⟩ | ⟨rfl, rfl⟩ | ⟨rfl, rfl⟩⟩ := hrel
    · by_cases a2 : 4611686018427387903 < N + 256
      · have a1' : decide (0 ≤ N + 256) = true := by simp; omega
        have a2' : decide (N + 256 ≤ 4611686018427387903) = false := by simp; omega
        have hx : B1 = -1 := by rw [← H1.out]; exact ps_no2 a2
        go_wp2
        rw [ix0]
        go_wp2
        go_roundw
        case rel => first | exact ⟨rfl, by simp; omega⟩ | exact ⟨trivial, by simp; omega⟩ | (simp; omega) | exact ⟨rfl, by simp⟩ | exact ⟨trivial, by simp⟩
        case measure => simp [intOf]
      have a1' : decide (0 ≤ N + 256) = true := by simp; omega
      have a2' : decide (N + 256 ≤ 4611686018427387903) = true := by simp; omega
      have hx : B1 = N + 256 := by rw [← H1.out]; exact ps_new (by omega) (by omega) (by omega)
      go_wp2
      rw [ix0]
      go_wp2
      go_roundw
      case rel => first | exact ⟨rfl, by simp; omega⟩ | exact ⟨trivial, by simp; omega⟩ | (simp; omega) | exact ⟨rfl, by simp⟩ | exact ⟨trivial, by simp⟩
      case measure => simp [intOf]
    · by_cases a2 : 4611686018427387903 < N
      · have a1' : decide (0 ≤ N) = true := by simp; omega
        have a2' : decide (N ≤ 4611686018427387903) = false := by simp; omega
        have hx : B2 = B1 := by rw [← H2.out]; exact ps_no2 a2
        go_wp2
        rw [ix1]
        go_wp2
        go_roundw
        case rel => first | exact ⟨rfl, by simp; omega⟩ | exact ⟨trivial, by simp; omega⟩ | (simp; omega) | exact ⟨rfl, by simp⟩ | exact ⟨trivial, by simp⟩
        case measure => simp [intOf]
      have a1' : decide (0 ≤ N) = true := by simp; omega
      have a2' : decide (N ≤ 4611686018427387903) = true := by simp; omega
      by_cases a3 : B1 < 0
      · have a3' : decide (B1 < 0) = true := by simp; omega
        have hx : B2 = N := by rw [← H2.out]; exact ps_new (by omega) (by omega) a3
        go_wp2
        rw [ix1]
        go_wp2
        go_roundw
        case rel => first | exact ⟨rfl, by simp; omega⟩ | exact ⟨trivial, by simp; omega⟩ | (simp; omega) | exact ⟨rfl, by simp⟩ | exact ⟨trivial, by simp⟩
        case measure => simp [intOf]
      have b0 : 0 ≤ B1 := by omega
      have b1 : B1 ≤ 4611686018427387903 := HB1.out.2
      have A1 := hid (apart_any (N) want (w := w) (by omega) (by omega) w0 w1)
      have A2 := hid (apart_any B1 want (w := w) (by omega) (by omega) w0 w1)
      have f1 := far_range (N) want (by omega) (by omega) w0 w1
      have f2 := far_range B1 want (by omega) (by omega) w0 w1
      by_cases a4 : farN (N) want < farN B1 want
      · have hx : B2 = N := by rw [← H2.out]; exact ps_near (by omega) (by omega) a4
        have a4' : decide (farN (N) want < farN B1 want) = true := by simp; exact a4
        go_wp2_with fail
        rw [ix1]
        go_wp2_with fail
        refine A1.out.mono ?_
        rintro e w1' ⟨rfl, rfl⟩
        go_wp2_with fail
        refine A2.out.mono ?_
        rintro e w2' ⟨rfl, rfl⟩
        go_wp2
        go_roundw
        case rel => first | exact ⟨rfl, by simp; omega⟩ | exact ⟨trivial, by simp; omega⟩ | (simp; omega) | exact ⟨rfl, by simp⟩ | exact ⟨trivial, by simp⟩
        case measure => simp [intOf]
      · have hx : B2 = B1 := by rw [← H2.out]; exact ps_far b0 a4
        have a4' : decide (farN (N) want < farN B1 want) = false := by simp; omega
        go_wp2_with fail
        rw [ix1]
        go_wp2_with fail
        refine A1.out.mono ?_
        rintro e w1' ⟨rfl, rfl⟩
        go_wp2_with fail
        refine A2.out.mono ?_
        rintro e w2' ⟨rfl, rfl⟩
        go_wp2
        go_roundw
        case rel => first | exact ⟨rfl, by simp; omega⟩ | exact ⟨trivial, by simp; omega⟩ | (simp; omega) | exact ⟨rfl, by simp⟩ | exact ⟨trivial, by simp⟩
        case measure => simp [intOf]
    · by_cases a1 : N - 256 < 0
      · have a1' : decide (0 ≤ N - 256) = false := by simp; omega
        have hx : B3 = B2 := by rw [← H3.out]; exact ps_no1 a1
        go_wp2
        rw [ix2]
        go_wp2
        go_roundw
        case rel => first | exact ⟨rfl, by simp; omega⟩ | exact ⟨trivial, by simp; omega⟩ | (simp; omega) | exact ⟨rfl, by simp⟩ | exact ⟨trivial, by simp⟩
        case measure => simp [intOf]
      by_cases a2 : 4611686018427387903 < N - 256
      · have a1' : decide (0 ≤ N - 256) = true := by simp; omega
        have a2' : decide (N - 256 ≤ 4611686018427387903) = false := by simp; omega
        have hx : B3 = B2 := by rw [← H3.out]; exact ps_no2 a2
        go_wp2
        rw [ix2]
        go_wp2
        go_roundw
        case rel => first | exact ⟨rfl, by simp; omega⟩ | exact ⟨trivial, by simp; omega⟩ | (simp; omega) | exact ⟨rfl, by simp⟩ | exact ⟨trivial, by simp⟩
        case measure => simp [intOf]
      have a1' : decide (0 ≤ N - 256) = true := by simp; omega
      have a2' : decide (N - 256 ≤ 4611686018427387903) = true := by simp; omega
      by_cases a3 : B2 < 0
      · have a3' : decide (B2 < 0) = true := by simp; omega
        have hx : B3 = N - 256 := by rw [← H3.out]; exact ps_new (by omega) (by omega) a3
        go_wp2
        rw [ix2]
        go_wp2
        go_roundw
        case rel => first | exact ⟨rfl, by simp; omega⟩ | exact ⟨trivial, by simp; omega⟩ | (simp; omega) | exact ⟨rfl, by simp⟩ | exact ⟨trivial, by simp⟩
        case measure => simp [intOf]
      have b0 : 0 ≤ B2 := by omega
      have b1 : B2 ≤ 4611686018427387903 := HB2.out.2
      have A1 := hid (apart_any (N - 256) want (w := w) (by omega) (by omega) w0 w1)
      have A2 := hid (apart_any B2 want (w := w) (by omega) (by omega) w0 w1)
      have f1 := far_range (N - 256) want (by omega) (by omega) w0 w1
      have f2 := far_range B2 want (by omega) (by omega) w0 w1
      by_cases a4 : farN (N - 256) want < farN B2 want
      · have hx : B3 = N - 256 := by rw [← H3.out]; exact ps_near (by omega) (by omega) a4
        have a4' : decide (farN (N - 256) want < farN B2 want) = true := by simp; exact a4
        go_wp2_with fail
        rw [ix2]
        go_wp2_with fail
        refine A1.out.mono ?_
        rintro e w1' ⟨rfl, rfl⟩
        go_wp2_with fail
        refine A2.out.mono ?_
        rintro e w2' ⟨rfl, rfl⟩
        go_wp2
        go_roundw
        case rel => first | exact ⟨rfl, by simp; omega⟩ | exact ⟨trivial, by simp; omega⟩ | (simp; omega) | exact ⟨rfl, by simp⟩ | exact ⟨trivial, by simp⟩
        case measure => simp [intOf]
      · have hx : B3 = B2 := by rw [← H3.out]; exact ps_far b0 a4
        have a4' : decide (farN (N - 256) want < farN B2 want) = false := by simp; omega
        go_wp2_with fail
        rw [ix2]
        go_wp2_with fail
        refine A1.out.mono ?_
        rintro e w1' ⟨rfl, rfl⟩
        go_wp2_with fail
        refine A2.out.mono ?_
        rintro e w2' ⟨rfl, rfl⟩
        go_wp2
        go_roundw
        case rel => first | exact ⟨rfl, by simp; omega⟩ | exact ⟨trivial, by simp; omega⟩ | (simp; omega) | exact ⟨rfl, by simp⟩ | exact ⟨trivial, by simp⟩
        case measure => simp [intOf]
    · go_wp2
      go_ret
      exact ⟨rfl, rfl⟩

set_option maxHeartbeats 4000000 in
theorem expand_2 (high part N want : Int) (w : World) (hw : high + 1 = want) (h1 : -1 ≤ high) (h2 : high ≤ 4611686018427387903) (p0 : 0 ≤ part) (p1 : part < 65536) (hN : bits .or .i64 (bits .andNot .i64 want 65535) part = N) (n0 : 0 ≤ N) (n1 : N ≤ 4611686022722355200) :
    Calls Try.prog 75 #[.int .i64 high, .int .i64 part, .int .i64 2] w fun e w' => e = .returned (.int .i64 (ps want (ps want (ps want (-1) (N + 65536)) N) (N - 65536))) ∧ w = w' := by
  have w0 : 0 ≤ want := by omega
  have w1 : want ≤ 4611686018427387904 := by omega
  have HB1 := hid (ps_range (want := want) (b := -1) (n := N + 65536) (by omega) (by omega))
  have HB2 := hid (ps_range (want := want) (b := ps want (-1) (N + 65536)) (n := N) HB1.out.1 HB1.out.2)
  generalize hB1 : ps want (-1) (N + 65536) = B1 at *
  generalize hB2 : ps want B1 N = B2 at *
  generalize hB3 : ps want B2 (N - 65536) = B3 at *
  have H1 := hid hB1
  have H2 := hid hB2
  have H3 := hid hB3
  clear hB1 hB2 hB3
  go_enter Try.func75, Try.ntmps75
  go_wp2
  go_loopw [10, 53] (fun b j wr => w = wr ∧ ((j = .int .i64 0 ∧ b = .int .i64 (-1)) ∨ (j = .int .i64 1 ∧ b = .int .i64 B1) ∨ (j = .int .i64 2 ∧ b = .int .i64 B2) ∨ (j = .int .i64 3 ∧ b = .int .i64 B3))) (fun _ j _ => (3 - intOf j).toNat)
  case atStart => exact ⟨rfl, .inl ⟨rfl, rfl⟩⟩
  case round =>
    obtain ⟨rfl, ⟨rfl, rfl⟩ | ⟨rfl, rfl⟩ | ⟨rfl, rfl⟩ | ⟨rfl, rfl⟩⟩ := hrel
    · by_cases a2 : 4611686018427387903 < N + 65536
      · have a1' : decide (0 ≤ N + 65536) = true := by simp; omega
        have a2' : decide (N + 65536 ≤ 4611686018427387903) = false := by simp; omega
        have hx : B1 = -1 := by rw [← H1.out]; exact ps_no2 a2
        go_wp2
        rw [ix0]
        go_wp2
        go_roundw
        case rel => first | exact ⟨rfl, by simp; omega⟩ | exact ⟨trivial, by simp; omega⟩ | (simp; omega) | exact ⟨rfl, by simp⟩ | exact ⟨trivial, by simp⟩
        case measure => simp [intOf]
      have a1' : decide (0 ≤ N + 65536) = true := by simp; omega
      have a2' : decide (N + 65536 ≤ 4611686018427387903) = true := by simp; omega
      have hx : B1 = N + 65536 := by rw [← H1.out]; exact ps_new (by omega) (by omega) (by omega)
      go_wp2
      rw [ix0]
      go_wp2
      go_roundw
      case rel => first | exact ⟨rfl, by simp; omega⟩ | exact ⟨trivial, by simp; omega⟩ | (simp; omega) | exact ⟨rfl, by simp⟩ | exact ⟨trivial, by simp⟩
      case measure => simp [intOf]
    · by_cases a2 : 4611686018427387903 < N
      · have a1' : decide (0 ≤ N) = true := by simp; omega
        have a2' : decide (N ≤ 4611686018427387903) = false := by simp; omega
        have hx : B2 = B1 := by rw [← H2.out]; exact ps_no2 a2
        go_wp2
        rw [ix1]
        go_wp2
        go_roundw
        case rel => first | exact ⟨rfl, by simp; omega⟩ | exact ⟨trivial, by simp; omega⟩ | (simp; omega) | exact ⟨rfl, by simp⟩ | exact ⟨trivial, by simp⟩
        case measure => simp [intOf]
      have a1' : decide (0 ≤ N) = true := by simp; omega
      have a2' : decide (N ≤ 4611686018427387903) = true := by simp; omega
      by_cases a3 : B1 < 0
      · have a3' : decide (B1 < 0) = true := by simp; omega
        have hx : B2 = N := by rw [← H2.out]; exact ps_new (by omega) (by omega) a3
        go_wp2
        rw [ix1]
        go_wp2
        go_roundw
        case rel => first | exact ⟨rfl, by simp; omega⟩ | exact ⟨trivial, by simp; omega⟩ | (simp; omega) | exact ⟨rfl, by simp⟩ | exact ⟨trivial, by simp⟩
        case measure => simp [intOf]
      have b0 : 0 ≤ B1 := by omega
      have b1 : B1 ≤ 4611686018427387903 := HB1.out.2
      have A1 := hid (apart_any (N) want (w := w) (by omega) (by omega) w0 w1)
      have A2 := hid (apart_any B1 want (w := w) (by omega) (by omega) w0 w1)
      have f1 := far_range (N) want (by omega) (by omega) w0 w1
      have f2 := far_range B1 want (by omega) (by omega) w0 w1
      by_cases a4 : farN (N) want < farN B1 want
      · have hx : B2 = N := by rw [← H2.out]; exact ps_near (by omega) (by omega) a4
        have a4' : decide (farN (N) want < farN B1 want) = true := by simp; exact a4
        go_wp2_with fail
        rw [ix1]
        go_wp2_with fail
        refine A1.out.mono ?_
        rintro e w1' ⟨rfl, rfl⟩
        go_wp2_with fail
        refine A2.out.mono ?_
        rintro e w2' ⟨rfl, rfl⟩
        go_wp2
        go_roundw
        case rel => first | exact ⟨rfl, by simp; omega⟩ | exact ⟨trivial, by simp; omega⟩ | (simp; omega) | exact ⟨rfl, by simp⟩ | exact ⟨trivial, by simp⟩
        case measure => simp [intOf]
      · have hx : B2 = B1 := by rw [← H2.out]; exact ps_far b0 a4
        have a4' : decide (farN (N) want < farN B1 want) = false := by simp; omega
        go_wp2_with fail
        rw [ix1]
        go_wp2_with fail
        refine A1.out.mono ?_
        rintro e w1' ⟨rfl, rfl⟩
        go_wp2_with fail
        refine A2.out.mono ?_
        rintro e w2' ⟨rfl, rfl⟩
        go_wp2
        go_roundw
        case rel => first | exact ⟨rfl, by simp; omega⟩ | exact ⟨trivial, by simp; omega⟩ | (simp; omega) | exact ⟨rfl, by simp⟩ | exact ⟨trivial, by simp⟩
        case measure => simp [intOf]
    · by_cases a1 : N - 65536 < 0
      · have a1' : decide (0 ≤ N - 65536) = false := by simp; omega
        have hx : B3 = B2 := by rw [← H3.out]; exact ps_no1 a1
        go_wp2
        rw [ix2]
        go_wp2
        go_roundw
        case rel => first | exact ⟨rfl, by simp; omega⟩ | exact ⟨trivial, by simp; omega⟩ | (simp; omega) | exact ⟨rfl, by simp⟩ | exact ⟨trivial, by simp⟩
        case measure => simp [intOf]
      by_cases a2 : 4611686018427387903 < N - 65536
      · have a1' : decide (0 ≤ N - 65536) = true := by simp; omega
        have a2' : decide (N - 65536 ≤ 4611686018427387903) = false := by simp; omega
        have hx : B3 = B2 := by rw [← H3.out]; exact ps_no2 a2
        go_wp2
        rw [ix2]
        go_wp2
        go_roundw
        case rel => first | exact ⟨rfl, by simp; omega⟩ | exact ⟨trivial, by simp; omega⟩ | (simp; omega) | exact ⟨rfl, by simp⟩ | exact ⟨trivial, by simp⟩
        case measure => simp [intOf]
      have a1' : decide (0 ≤ N - 65536) = true := by simp; omega
      have a2' : decide (N - 65536 ≤ 4611686018427387903) = true := by simp; omega
      by_cases a3 : B2 < 0
      · have a3' : decide (B2 < 0) = true := by simp; omega
        have hx : B3 = N - 65536 := by rw [← H3.out]; exact ps_new (by omega) (by omega) a3
        go_wp2
        rw [ix2]
        go_wp2
        go_roundw
        case rel => first | exact ⟨rfl, by simp; omega⟩ | exact ⟨trivial, by simp; omega⟩ | (simp; omega) | exact ⟨rfl, by simp⟩ | exact ⟨trivial, by simp⟩
        case measure => simp [intOf]
      have b0 : 0 ≤ B2 := by omega
      have b1 : B2 ≤ 4611686018427387903 := HB2.out.2
      have A1 := hid (apart_any (N - 65536) want (w := w) (by omega) (by omega) w0 w1)
      have A2 := hid (apart_any B2 want (w := w) (by omega) (by omega) w0 w1)
      have f1 := far_range (N - 65536) want (by omega) (by omega) w0 w1
      have f2 := far_range B2 want (by omega) (by omega) w0 w1
      by_cases a4 : farN (N - 65536) want < farN B2 want
      · have hx : B3 = N - 65536 := by rw [← H3.out]; exact ps_near (by omega) (by omega) a4
        have a4' : decide (farN (N - 65536) want < farN B2 want) = true := by simp; exact a4
        go_wp2_with fail
        rw [ix2]
        go_wp2_with fail
        refine A1.out.mono ?_
        rintro e w1' ⟨rfl, rfl⟩
        go_wp2_with fail
        refine A2.out.mono ?_
        rintro e w2' ⟨rfl, rfl⟩
        go_wp2
        go_roundw
        case rel => first | exact ⟨rfl, by simp; omega⟩ | exact ⟨trivial, by simp; omega⟩ | (simp; omega) | exact ⟨rfl, by simp⟩ | exact ⟨trivial, by simp⟩
        case measure => simp [intOf]
      · have hx : B3 = B2 := by rw [← H3.out]; exact ps_far b0 a4
        have a4' : decide (farN (N - 65536) want < farN B2 want) = false := by simp; omega
        go_wp2_with fail
        rw [ix2]
        go_wp2_with fail
        refine A1.out.mono ?_
        rintro e w1' ⟨rfl, rfl⟩
        go_wp2_with fail
        refine A2.out.mono ?_
        rintro e w2' ⟨rfl, rfl⟩
        go_wp2
        go_roundw
        case rel => first | exact ⟨rfl, by simp; omega⟩ | exact ⟨trivial, by simp; omega⟩ | (simp; omega) | exact ⟨rfl, by simp⟩ | exact ⟨trivial, by simp⟩
        case measure => simp [intOf]
    · go_wp2
      go_ret
      exact ⟨rfl, rfl⟩

set_option maxHeartbeats 4000000 in
theorem expand_3 (high part N want : Int) (w : World) (hw : high + 1 = want) (h1 : -1 ≤ high) (h2 : high ≤ 4611686018427387903) (p0 : 0 ≤ part) (p1 : part < 16777216) (hN : bits .or .i64 (bits .andNot .i64 want 16777215) part = N) (n0 : 0 ≤ N) (n1 : N ≤ 4611686022722355200) :
    Calls Try.prog 75 #[.int .i64 high, .int .i64 part, .int .i64 3] w fun e w' => e = .returned (.int .i64 (ps want (ps want (ps want (-1) (N + 16777216)) N) (N - 16777216))) ∧ w = w' := by
  have w0 : 0 ≤ want := by omega
  have w1 : want ≤ 4611686018427387904 := by omega
  have HB1 := hid (ps_range (want := want) (b := -1) (n := N + 16777216) (by omega) (by omega))
  have HB2 := hid (ps_range (want := want) (b := ps want (-1) (N + 16777216)) (n := N) HB1.out.1 HB1.out.2)
  generalize hB1 : ps want (-1) (N + 16777216) = B1 at *
  generalize hB2 : ps want B1 N = B2 at *
  generalize hB3 : ps want B2 (N - 16777216) = B3 at *
  have H1 := hid hB1
  have H2 := hid hB2
  have H3 := hid hB3
  clear hB1 hB2 hB3
  go_enter Try.func75, Try.ntmps75
  go_wp2
  go_loopw [10, 53] (fun b j wr => w = wr ∧ ((j = .int .i64 0 ∧ b = .int .i64 (-1)) ∨ (j = .int .i64 1 ∧ b = .int .i64 B1) ∨ (j = .int .i64 2 ∧ b = .int .i64 B2) ∨ (j = .int .i64 3 ∧ b = .int .i64 B3))) (fun _ j _ => (3 - intOf j).toNat)
  case atStart => exact ⟨rfl, .inl ⟨rfl, rfl⟩⟩
  case round =>
    obtain ⟨rfl, ⟨rfl, rfl⟩ | ⟨rfl, rfl⟩ | ⟨rfl, rfl⟩ | ⟨rfl, rfl⟩⟩ := hrel
    · by_cases a2 : 4611686018427387903 < N + 16777216
      · have a1' : decide (0 ≤ N + 16777216) = true := by simp; omega
        have a2' : decide (N + 16777216 ≤ 4611686018427387903) = false := by simp; omega
        have hx : B1 = -1 := by rw [← H1.out]; exact ps_no2 a2
        go_wp2
        rw [ix0]
        go_wp2
        go_roundw
        case rel => first | exact ⟨rfl, by simp; omega⟩ | exact ⟨trivial, by simp; omega⟩ | (simp; omega) | exact ⟨rfl, by simp⟩ | exact ⟨trivial, by simp⟩
        case measure => simp [intOf]
      have a1' : decide (0 ≤ N + 16777216) = true := by simp; omega
      have a2' : decide (N + 16777216 ≤ 4611686018427387903) = true := by simp; omega
      have hx : B1 = N + 16777216 := by rw [← H1.out]; exact ps_new (by omega) (by omega) (by omega)
      go_wp2
      rw [ix0]
      go_wp2
      go_roundw
      case rel => first | exact ⟨rfl, by simp; omega⟩ | exact ⟨trivial, by simp; omega⟩ | (simp; omega) | exact ⟨rfl, by simp⟩ | exact ⟨trivial, by simp⟩
      case measure => simp [intOf]
    · by_cases a2 : 4611686018427387903 < N
      · have a1' : decide (0 ≤ N) = true := by simp; omega
        have a2' : decide (N ≤ 4611686018427387903) = false := by simp; omega
        have hx : B2 = B1 := by rw [← H2.out]; exact ps_no2 a2
        go_wp2
        rw [ix1]
        go_wp2
        go_roundw
        case rel => first | exact ⟨rfl, by simp; omega⟩ | exact ⟨trivial, by simp; omega⟩ | (simp; omega) | exact ⟨rfl, by simp⟩ | exact ⟨trivial, by simp⟩
        case measure => simp [intOf]
      have a1' : decide (0 ≤ N) = true := by simp; omega
      have a2' : decide (N ≤ 4611686018427387903) = true := by simp; omega
      by_cases a3 : B1 < 0
      · have a3' : decide (B1 < 0) = true := by simp; omega
        have hx : B2 = N := by rw [← H2.out]; exact ps_new (by omega) (by omega) a3
        go_wp2
        rw [ix1]
        go_wp2
        go_roundw
        case rel => first | exact ⟨rfl, by simp; omega⟩ | exact ⟨trivial, by simp; omega⟩ | (simp; omega) | exact ⟨rfl, by simp⟩ | exact ⟨trivial, by simp⟩
        case measure => simp [intOf]
      have b0 : 0 ≤ B1 := by omega
      have b1 : B1 ≤ 4611686018427387903 := HB1.out.2
      have A1 := hid (apart_any (N) want (w := w) (by omega) (by omega) w0 w1)
      have A2 := hid (apart_any B1 want (w := w) (by omega) (by omega) w0 w1)
      have f1 := far_range (N) want (by omega) (by omega) w0 w1
      have f2 := far_range B1 want (by omega) (by omega) w0 w1
      by_cases a4 : farN (N) want < farN B1 want
      · have hx : B2 = N := by rw [← H2.out]; exact ps_near (by omega) (by omega) a4
        have a4' : decide (farN (N) want < farN B1 want) = true := by simp; exact a4
        go_wp2_with fail
        rw [ix1]
        go_wp2_with fail
        refine A1.out.mono ?_
        rintro e w1' ⟨rfl, rfl⟩
        go_wp2_with fail
        refine A2.out.mono ?_
        rintro e w2' ⟨rfl, rfl⟩
        go_wp2
        go_roundw
        case rel => first | exact ⟨rfl, by simp; omega⟩ | exact ⟨trivial, by simp; omega⟩ | (simp; omega) | exact ⟨rfl, by simp⟩ | exact ⟨trivial, by simp⟩
        case measure => simp [intOf]
      · have hx : B2 = B1 := by rw [← H2.out]; exact ps_far b0 a4
        have a4' : decide (farN (N) want < farN B1 want) = false := by simp; omega
        go_wp2_with fail
        rw [ix1]
        go_wp2_with fail
        refine A1.out.mono ?_
        rintro e w1' ⟨rfl, rfl⟩
        go_wp2_with fail
        refine A2.out.mono ?_
        rintro e w2' ⟨rfl, rfl⟩
        go_wp2
        go_roundw
        case rel => first | exact ⟨rfl, by simp; omega⟩ | exact ⟨trivial, by simp; omega⟩ | (simp; omega) | exact ⟨rfl, by simp⟩ | exact ⟨trivial, by simp⟩
        case measure => simp [intOf]
    · by_cases a1 : N - 16777216 < 0
      · have a1' : decide (0 ≤ N - 16777216) = false := by simp; omega
        have hx : B3 = B2 := by rw [← H3.out]; exact ps_no1 a1
        go_wp2
        rw [ix2]
        go_wp2
        go_roundw
        case rel => first | exact ⟨rfl, by simp; omega⟩ | exact ⟨trivial, by simp; omega⟩ | (simp; omega) | exact ⟨rfl, by simp⟩ | exact ⟨trivial, by simp⟩
        case measure => simp [intOf]
      by_cases a2 : 4611686018427387903 < N - 16777216
      · have a1' : decide (0 ≤ N - 16777216) = true := by simp; omega
        have a2' : decide (N - 16777216 ≤ 4611686018427387903) = false := by simp; omega
        have hx : B3 = B2 := by rw [← H3.out]; exact ps_no2 a2
        go_wp2
        rw [ix2]
        go_wp2
        go_roundw
        case rel => first | exact ⟨rfl, by simp; omega⟩ | exact ⟨trivial, by simp; omega⟩ | (simp; omega) | exact ⟨rfl, by simp⟩ | exact ⟨trivial, by simp⟩
        case measure => simp [intOf]
      have a1' : decide (0 ≤ N - 16777216) = true := by simp; omega
      have a2' : decide (N - 16777216 ≤ 4611686018427387903) = true := by simp; omega
      by_cases a3 : B2 < 0
      · have a3' : decide (B2 < 0) = true := by simp; omega
        have hx : B3 = N - 16777216 := by rw [← H3.out]; exact ps_new (by omega) (by omega) a3
        go_wp2
        rw [ix2]
        go_wp2
        go_roundw
        case rel => first | exact ⟨rfl, by simp; omega⟩ | exact ⟨trivial, by simp; omega⟩ | (simp; omega) | exact ⟨rfl, by simp⟩ | exact ⟨trivial, by simp⟩
        case measure => simp [intOf]
      have b0 : 0 ≤ B2 := by omega
      have b1 : B2 ≤ 4611686018427387903 := HB2.out.2
      have A1 := hid (apart_any (N - 16777216) want (w := w) (by omega) (by omega) w0 w1)
      have A2 := hid (apart_any B2 want (w := w) (by omega) (by omega) w0 w1)
      have f1 := far_range (N - 16777216) want (by omega) (by omega) w0 w1
      have f2 := far_range B2 want (by omega) (by omega) w0 w1
      by_cases a4 : farN (N - 16777216) want < farN B2 want
      · have hx : B3 = N - 16777216 := by rw [← H3.out]; exact ps_near (by omega) (by omega) a4
        have a4' : decide (farN (N - 16777216) want < farN B2 want) = true := by simp; exact a4
        go_wp2_with fail
        rw [ix2]
        go_wp2_with fail
        refine A1.out.mono ?_
        rintro e w1' ⟨rfl, rfl⟩
        go_wp2_with fail
        refine A2.out.mono ?_
        rintro e w2' ⟨rfl, rfl⟩
        go_wp2
        go_roundw
        case rel => first | exact ⟨rfl, by simp; omega⟩ | exact ⟨trivial, by simp; omega⟩ | (simp; omega) | exact ⟨rfl, by simp⟩ | exact ⟨trivial, by simp⟩
        case measure => simp [intOf]
      · have hx : B3 = B2 := by rw [← H3.out]; exact ps_far b0 a4
        have a4' : decide (farN (N - 16777216) want < farN B2 want) = false := by simp; omega
        go_wp2_with fail
        rw [ix2]
        go_wp2_with fail
        refine A1.out.mono ?_
        rintro e w1' ⟨rfl, rfl⟩
        go_wp2_with fail
        refine A2.out.mono ?_
        rintro e w2' ⟨rfl, rfl⟩
        go_wp2
        go_roundw
        case rel => first | exact ⟨rfl, by simp; omega⟩ | exact ⟨trivial, by simp; omega⟩ | (simp; omega) | exact ⟨rfl, by simp⟩ | exact ⟨trivial, by simp⟩
        case measure => simp [intOf]
    · go_wp2
      go_ret
      exact ⟨rfl, rfl⟩

set_option maxHeartbeats 4000000 in
theorem expand_4 (high part N want : Int) (w : World) (hw : high + 1 = want) (h1 : -1 ≤ high) (h2 : high ≤ 4611686018427387903) (p0 : 0 ≤ part) (p1 : part < 4294967296) (hN : bits .or .i64 (bits .andNot .i64 want 4294967295) part = N) (n0 : 0 ≤ N) (n1 : N ≤ 4611686022722355200) :
    Calls Try.prog 75 #[.int .i64 high, .int .i64 part, .int .i64 4] w fun e w' => e = .returned (.int .i64 (ps want (ps want (ps want (-1) (N + 4294967296)) N) (N - 4294967296))) ∧ w = w' := by
  have w0 : 0 ≤ want := by omega
  have w1 : want ≤ 4611686018427387904 := by omega
  have HB1 := hid (ps_range (want := want) (b := -1) (n := N + 4294967296) (by omega) (by omega))
  have HB2 := hid (ps_range (want := want) (b := ps want (-1) (N + 4294967296)) (n := N) HB1.out.1 HB1.out.2)
  generalize hB1 : ps want (-1) (N + 4294967296) = B1 at *
  generalize hB2 : ps want B1 N = B2 at *
  generalize hB3 : ps want B2 (N - 4294967296) = B3 at *
  have H1 := hid hB1
  have H2 := hid hB2
  have H3 := hid hB3
  clear hB1 hB2 hB3
  go_enter Try.func75, Try.ntmps75
  go_wp2
  go_loopw [10, 53] (fun b j wr => w = wr ∧ ((j = .int .i64 0 ∧ b = .int .i64 (-1)) ∨ (j = .int .i64 1 ∧ b = .int .i64 B1) ∨ (j = .int .i64 2 ∧ b = .int .i64 B2) ∨ (j = .int .i64 3 ∧ b = .int .i64 B3))) (fun _ j _ => (3 - intOf j).toNat)
  case atStart => exact ⟨rfl, .inl ⟨rfl, rfl⟩⟩
  case round =>
    obtain ⟨rfl, ⟨rfl, rfl⟩ | ⟨rfl, rfl⟩ | ⟨rfl, rfl⟩ | ⟨rfl, rfl⟩⟩ := hrel
    · by_cases a2 : 4611686018427387903 < N + 4294967296
      · have a1' : decide (0 ≤ N + 4294967296) = true := by simp; omega
        have a2' : decide (N + 4294967296 ≤ 4611686018427387903) = false := by simp; omega
        have hx : B1 = -1 := by rw [← H1.out]; exact ps_no2 a2
        go_wp2
        rw [ix0]
        go_wp2
        go_roundw
        case rel => first | exact ⟨rfl, by simp; omega⟩ | exact ⟨trivial, by simp; omega⟩ | (simp; omega) | exact ⟨rfl, by simp⟩ | exact ⟨trivial, by simp⟩
        case measure => simp [intOf]
      have a1' : decide (0 ≤ N + 4294967296) = true := by simp; omega
      have a2' : decide (N + 4294967296 ≤ 4611686018427387903) = true := by simp; omega
      have hx : B1 = N + 4294967296 := by rw [← H1.out]; exact ps_new (by omega) (by omega) (by omega)
      go_wp2
      rw [ix0]
      go_wp2
      go_roundw
      case rel => first | exact ⟨rfl, by simp; omega⟩ | exact ⟨trivial, by simp; omega⟩ | (simp; omega) | exact ⟨rfl, by simp⟩ | exact ⟨trivial, by simp⟩
      case measure => simp [intOf]
    · by_cases a2 : 4611686018427387903 < N
      · have a1' : decide (0 ≤ N) = true := by simp; omega
        have a2' : decide (N ≤ 4611686018427387903) = false := by simp; omega
        have hx : B2 = B1 := by rw [← H2.out]; exact ps_no2 a2
        go_wp2
        rw [ix1]
        go_wp2
        go_roundw
        case rel => first | exact ⟨rfl, by simp; omega⟩ | exact ⟨trivial, by simp; omega⟩ | (simp; omega) | exact ⟨rfl, by simp⟩ | exact ⟨trivial, by simp⟩
        case measure => simp [intOf]
      have a1' : decide (0 ≤ N) = true := by simp; omega
      have a2' : decide (N ≤ 4611686018427387903) = true := by simp; omega
      by_cases a3 : B1 < 0
      · have a3' : decide (B1 < 0) = true := by simp; omega
        have hx : B2 = N := by rw [← H2.out]; exact ps_new (by omega) (by omega) a3
        go_wp2
        rw [ix1]
        go_wp2
        go_roundw
        case rel => first | exact ⟨rfl, by simp; omega⟩ | exact ⟨trivial, by simp; omega⟩ | (simp; omega) | exact ⟨rfl, by simp⟩ | exact ⟨trivial, by simp⟩
        case measure => simp [intOf]
      have b0 : 0 ≤ B1 := by omega
      have b1 : B1 ≤ 4611686018427387903 := HB1.out.2
      have A1 := hid (apart_any (N) want (w := w) (by omega) (by omega) w0 w1)
      have A2 := hid (apart_any B1 want (w := w) (by omega) (by omega) w0 w1)
      have f1 := far_range (N) want (by omega) (by omega) w0 w1
      have f2 := far_range B1 want (by omega) (by omega) w0 w1
      by_cases a4 : farN (N) want < farN B1 want
      · have hx : B2 = N := by rw [← H2.out]; exact ps_near (by omega) (by omega) a4
        have a4' : decide (farN (N) want < farN B1 want) = true := by simp; exact a4
        go_wp2_with fail
        rw [ix1]
        go_wp2_with fail
        refine A1.out.mono ?_
        rintro e w1' ⟨rfl, rfl⟩
        go_wp2_with fail
        refine A2.out.mono ?_
        rintro e w2' ⟨rfl, rfl⟩
        go_wp2
        go_roundw
        case rel => first | exact ⟨rfl, by simp; omega⟩ | exact ⟨trivial, by simp; omega⟩ | (simp; omega) | exact ⟨rfl, by simp⟩ | exact ⟨trivial, by simp⟩
        case measure => simp [intOf]
      · have hx : B2 = B1 := by rw [← H2.out]; exact ps_far b0 a4
        have a4' : decide (farN (N) want < farN B1 want) = false := by simp; omega
        go_wp2_with fail
        rw [ix1]
        go_wp2_with fail
        refine A1.out.mono ?_
        rintro e w1' ⟨rfl, rfl⟩
        go_wp2_with fail
        refine A2.out.mono ?_
        rintro e w2' ⟨rfl, rfl⟩
        go_wp2
        go_roundw
        case rel => first | exact ⟨rfl, by simp; omega⟩ | exact ⟨trivial, by simp; omega⟩ | (simp; omega) | exact ⟨rfl, by simp⟩ | exact ⟨trivial, by simp⟩
        case measure => simp [intOf]
    · by_cases a1 : N - 4294967296 < 0
      · have a1' : decide (0 ≤ N - 4294967296) = false := by simp; omega
        have hx : B3 = B2 := by rw [← H3.out]; exact ps_no1 a1
        go_wp2
        rw [ix2]
        go_wp2
        go_roundw
        case rel => first | exact ⟨rfl, by simp; omega⟩ | exact ⟨trivial, by simp; omega⟩ | (simp; omega) | exact ⟨rfl, by simp⟩ | exact ⟨trivial, by simp⟩
        case measure => simp [intOf]
      by_cases a2 : 4611686018427387903 < N - 4294967296
      · have a1' : decide (0 ≤ N - 4294967296) = true := by simp; omega
        have a2' : decide (N - 4294967296 ≤ 4611686018427387903) = false := by simp; omega
        have hx : B3 = B2 := by rw [← H3.out]; exact ps_no2 a2
        go_wp2
        rw [ix2]
        go_wp2
        go_roundw
        case rel => first | exact ⟨rfl, by simp; omega⟩ | exact ⟨trivial, by simp; omega⟩ | (simp; omega) | exact ⟨rfl, by simp⟩ | exact ⟨trivial, by simp⟩
        case measure => simp [intOf]
      have a1' : decide (0 ≤ N - 4294967296) = true := by simp; omega
      have a2' : decide (N - 4294967296 ≤ 4611686018427387903) = true := by simp; omega
      by_cases a3 : B2 < 0
      · have a3' : decide (B2 < 0) = true := by simp; omega
        have hx : B3 = N - 4294967296 := by rw [← H3.out]; exact ps_new (by omega) (by omega) a3
        go_wp2
        rw [ix2]
        go_wp2
        go_roundw
        case rel => first | exact ⟨rfl, by simp; omega⟩ | exact ⟨trivial, by simp; omega⟩ | (simp; omega) | exact ⟨rfl, by simp⟩ | exact ⟨trivial, by simp⟩
        case measure => simp [intOf]
      have b0 : 0 ≤ B2 := by omega
      have b1 : B2 ≤ 4611686018427387903 := HB2.out.2
      have A1 := hid (apart_any (N - 4294967296) want (w := w) (by omega) (by omega) w0 w1)
      have A2 := hid (apart_any B2 want (w := w) (by omega) (by omega) w0 w1)
      have f1 := far_range (N - 4294967296) want (by omega) (by omega) w0 w1
      have f2 := far_range B2 want (by omega) (by omega) w0 w1
      by_cases a4 : farN (N - 4294967296) want < farN B2 want
      · have hx : B3 = N - 4294967296 := by rw [← H3.out]; exact ps_near (by omega) (by omega) a4
        have a4' : decide (farN (N - 4294967296) want < farN B2 want) = true := by simp; exact a4
        go_wp2_with fail
        rw [ix2]
        go_wp2_with fail
        refine A1.out.mono ?_
        rintro e w1' ⟨rfl, rfl⟩
        go_wp2_with fail
        refine A2.out.mono ?_
        rintro e w2' ⟨rfl, rfl⟩
        go_wp2
        go_roundw
        case rel => first | exact ⟨rfl, by simp; omega⟩ | exact ⟨trivial, by simp; omega⟩ | (simp; omega) | exact ⟨rfl, by simp⟩ | exact ⟨trivial, by simp⟩
        case measure => simp [intOf]
      · have hx : B3 = B2 := by rw [← H3.out]; exact ps_far b0 a4
        have a4' : decide (farN (N - 4294967296) want < farN B2 want) = false := by simp; omega
        go_wp2_with fail
        rw [ix2]
        go_wp2_with fail
        refine A1.out.mono ?_
        rintro e w1' ⟨rfl, rfl⟩
        go_wp2_with fail
        refine A2.out.mono ?_
        rintro e w2' ⟨rfl, rfl⟩
        go_wp2
        go_roundw
        case rel => first | exact ⟨rfl, by simp; omega⟩ | exact ⟨trivial, by simp; omega⟩ | (simp; omega) | exact ⟨rfl, by simp⟩ | exact ⟨trivial, by simp⟩
        case measure => simp [intOf]
    · go_wp2
      go_ret
      exact ⟨rfl, rfl⟩
end Go.Proofs.Ytihmlfpfpadfpaa
