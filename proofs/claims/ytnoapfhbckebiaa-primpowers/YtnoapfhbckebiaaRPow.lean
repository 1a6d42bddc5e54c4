/-
  What the document's own times and Power do: contracts that the statements' walks use.
-/
import Derived.Test.YtnoapfhbckebiaaPow
namespace Go.Proofs.Ytnoapfhbckebiaa
open Go.RowKit
set_option linter.unusedVariables false
set_option maxRecDepth 20000

set_option maxHeartbeats 4000000 in
theorem rtimes_any (x y : Nat) (w : World) (hx : x < 2305843009213693951) (hy : y < 2305843009213693951) :
    Calls Try.prog 42 #[.int .i64 x, .int .i64 y] w fun e w' => e = .returned (.int .i64 ((x * y % 2305843009213693951 : Nat) : Int)) ∧ w' = w := by
  generalize hz : x * y % 2305843009213693951 = z
  have HZ := hid hz
  clear hz
  go_enter Try.func42, Try.ntmps42
  go_wp2
  go_loop [0, 1, 5] (fun xs ys os => ∃ X Y O : Nat, xs = .int .i64 X ∧ ys = .int .i64 Y ∧ os = .int .i64 O ∧ X < 2305843009213693951 ∧ Y < 2305843009213693951 ∧ O < 2305843009213693951 ∧ (O + X * Y) % 2305843009213693951 = z) (fun _ ys _ => (intOf ys).toNat)
  case atStart => exact ⟨x, y, 0, rfl, rfl, rfl, hx, hy, by omega, by rw [Nat.zero_add]; exact HZ.out⟩
  case round =>
    obtain ⟨X, Y, O, rfl, rfl, rfl, hX, hY, hO, hI⟩ := hrel
    have HI := hid hI
    clear hI
    by_cases hk0 : 0 < Y
    · have hk0' : (0 : Int) < (Y : Int) := by omega
      have wx : ((X : Int) + (X : Int)) % 2305843009213693951 = (((X + X) % 2305843009213693951 : Nat) : Int) := by omega
      by_cases ho : Y % 2 = 1
      · have hm : ((Y : Int) % 2) = 1 := by omega
        have hm' : ((Y : Int).tmod 2) = 1 := by rw [Int.tmod_eq_emod_of_nonneg (by omega)]; exact hm
        clear wx
        go_wp2
        go_round
        case rel => exact ⟨(X + X) % 2305843009213693951, Y / 2, (O + X) % 2305843009213693951, by go_num, by go_num, by go_num, Nat.mod_lt _ (by omega), by omega, Nat.mod_lt _ (by omega), by rw [dbl_odd O X Y _ ho]; exact HI.out⟩
        case measure => simp [intOf]; omega
      · have hm : ((Y : Int) % 2) = 0 := by omega
        have hm' : ((Y : Int).tmod 2) = 0 := by rw [Int.tmod_eq_emod_of_nonneg (by omega)]; exact hm
        clear wx
        go_wp2
        go_round
        case rel => exact ⟨(X + X) % 2305843009213693951, Y / 2, O, by go_num, by go_num, rfl, Nat.mod_lt _ (by omega), by omega, hO, by rw [dbl_even O X Y _ (by omega)]; exact HI.out⟩
        case measure => simp [intOf]; omega
    · obtain rfl : Y = 0 := by omega
      go_wp2
      go_ret
      refine ⟨ret_int ?_, rfl⟩
      rw [← HI.out, Nat.mul_zero, Nat.add_zero, Nat.mod_eq_of_lt hO]

set_option maxHeartbeats 4000000 in
theorem rpower_zero (b : Nat) (hb : b < 2305843009213693951) (w : World) : Calls Try.prog 26 #[.int .i64 b, .int .i64 (0 : Nat)] w fun r w' => r = .returned (.int .i64 ((b ^ 0 % 2305843009213693951 : Nat) : Int)) ∧ w' = w := by
  rw [show (b ^ 0 % 2305843009213693951 : Nat) = 1 from by rw [Nat.pow_zero]]
  have h1 : ¬ (b : Int) < 0 := by omega
  have h2 : ¬ 2305843009213693951 ≤ (b : Int) := by omega
  clear hb
  go_enter Try.func26, Try.ntmps26
  go_wp2
  go_ret
  exact ⟨rfl, rfl⟩
set_option maxHeartbeats 4000000 in
theorem rpower_nat (b : Nat) (hb : b < 2305843009213693951) : ∀ (n e : Nat), e ≤ n → e ≤ 9223372036854775807 → ∀ w : World, Calls Try.prog 26 #[.int .i64 b, .int .i64 e] w fun r w' => r = .returned (.int .i64 ((b ^ e % 2305843009213693951 : Nat) : Int)) ∧ w' = w := by
  intro n
  induction n with
  | zero =>
    intro e he _ w
    obtain rfl : e = 0 := by omega
    exact rpower_zero b hb w
  | succ n ih =>
    intro e he he2 w
    by_cases h0 : e = 0
    · subst h0
      exact rpower_zero b hb w
    have hne : ((e : Int) == 0) = false := by simp; omega
    have hne' : ((e : Int) = 0) = False := by simp; omega
    generalize hz : b ^ e % 2305843009213693951 = z
    have HZ := hid hz
    clear hz
    have HO := hid (half_odd b e 2305843009213693951)
    have HE := hid (half_even b e 2305843009213693951)
    have hd : ((e : Int) / 2) = ((e / 2 : Nat) : Int) := by omega
    have IH := hid (show ∀ w : World, Calls Try.prog 26 #[.int .i64 b, .int .i64 ((e : Int) / 2)] w fun r w' => r = .returned (.int .i64 ((b ^ (e / 2) % 2305843009213693951 : Nat) : Int)) ∧ w' = w from by rw [hd]; exact ih (e / 2) (by omega) (by omega))
    have hei : (e : Int) ≤ 9223372036854775807 := by omega
    clear hd ih he he2
    have he0 : ¬ (e : Int) < 0 := by omega
    have h1 : ¬ (b : Int) < 0 := by omega
    have h2 : ¬ 2305843009213693951 ≤ (b : Int) := by omega
    have hM := Nat.mod_lt (b ^ (e / 2)) (show 2305843009213693951 > 0 by omega)
    generalize b ^ (e / 2) % 2305843009213693951 = M at *
    have hMM := Nat.mod_lt (M * M) (show 2305843009213693951 > 0 by omega)
    have RT := hid (rtimes_any M M · hM hM)
    generalize M * M % 2305843009213693951 = MM at *
    have RB := hid (rtimes_any MM b · hMM hb)
    clear hb hM hMM
    by_cases ho : e % 2 = 1
    · have hm : ((e : Int) % 2) = 1 := by omega
      have hm' : ((e : Int).tmod 2) = 1 := by rw [Int.tmod_eq_emod_of_nonneg (by omega)]; exact hm
      have HX := hid (HO.out ho)
      clear HO HE
      generalize MM * b % 2305843009213693951 = MB at *
      go_enter Try.func26, Try.ntmps26
      go_wp2_with fail
      refine (IH.out w).mono ?_
      rintro r w1 ⟨rfl, rfl⟩
      go_wp2_with fail
      refine (RT.out w1).mono ?_
      rintro r w2 ⟨rfl, rfl⟩
      go_wp2_with fail
      refine (RB.out w2).mono ?_
      rintro r w3 ⟨rfl, rfl⟩
      go_wp2
      go_ret
      exact ⟨by rw [← HZ.out, ← HX.out]; rfl, rfl⟩
    · have hm : ((e : Int) % 2) = 0 := by omega
      have hm' : ((e : Int).tmod 2) = 0 := by rw [Int.tmod_eq_emod_of_nonneg (by omega)]; exact hm
      have HX := hid (HE.out (by omega))
      clear HO HE RB
      go_enter Try.func26, Try.ntmps26
      go_wp2_with fail
      refine (IH.out w).mono ?_
      rintro r w1 ⟨rfl, rfl⟩
      go_wp2_with fail
      refine (RT.out w1).mono ?_
      rintro r w2 ⟨rfl, rfl⟩
      go_wp2
      go_ret
      exact ⟨by rw [← HZ.out, ← HX.out]; rfl, rfl⟩

set_option maxHeartbeats 4000000 in
theorem rpower_any (b e : Int) (w : World) (he : e ≤ 9223372036854775807) : Calls Try.prog 26 #[.int .i64 b, .int .i64 e] w fun r w' => r = .returned (.int .i64 (pwr b e)) ∧ w' = w := by
  by_cases h1 : b < 0
  · have HP := hid (pwr_bad (b := b) (e := e) (.inl h1))
    go_enter Try.func26, Try.ntmps26
    go_wp2
    go_ret
    exact ⟨ret_int HP.out.symm, rfl⟩
  by_cases h2 : 2305843009213693951 ≤ b
  · have HP := hid (pwr_bad (b := b) (e := e) (.inr (.inl h2)))
    go_enter Try.func26, Try.ntmps26
    go_wp2
    go_ret
    exact ⟨ret_int HP.out.symm, rfl⟩
  by_cases h3 : e < 0
  · have HP := hid (pwr_bad (b := b) (e := e) (.inr (.inr h3)))
    go_enter Try.func26, Try.ntmps26
    go_wp2
    go_ret
    exact ⟨ret_int HP.out.symm, rfl⟩
  obtain ⟨b, rfl⟩ := Int.eq_ofNat_of_zero_le (show 0 ≤ b by omega)
  obtain ⟨e, rfl⟩ := Int.eq_ofNat_of_zero_le (show 0 ≤ e by omega)
  rw [pwr_nat b e (by omega)]
  exact rpower_nat b (by omega) e e (Nat.le_refl _) (by omega) w
end Go.Proofs.Ytnoapfhbckebiaa
