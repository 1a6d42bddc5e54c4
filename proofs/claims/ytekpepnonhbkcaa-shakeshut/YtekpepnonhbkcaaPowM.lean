/-
  Powers modulo 2^61 - 1: plain mathematics. Nothing is proved of a statement here.
-/
namespace Go.Proofs.Ytekpepnonhbkcaa

def pp : Nat := 2305843009213693951
/-- base to the power of exponent, modulo 2^61 - 1; 0 out of bounds. -/
def pwr (b e : Int) : Int := if b < 0 ∨ 2305843009213693951 ≤ b ∨ e < 0 then 0 else ((b.toNat ^ e.toNat % 2305843009213693951 : Nat) : Int)
theorem pwr_bad {b e : Int} (h : b < 0 ∨ 2305843009213693951 ≤ b ∨ e < 0) : pwr b e = 0 := if_pos h
theorem pwr_nat (b e : Nat) (h : b < 2305843009213693951) : pwr (b : Int) (e : Int) = ((b ^ e % 2305843009213693951 : Nat) : Int) := by
  unfold pwr; rw [if_neg (by omega)]; simp

theorem mul_mod_l (a b m : Nat) : a % m * b % m = a * b % m := by rw [Nat.mul_mod, Nat.mod_mod, ← Nat.mul_mod]
theorem mul_mod_r (a b m : Nat) : a * (b % m) % m = a * b % m := by rw [Nat.mul_mod, Nat.mod_mod, ← Nat.mul_mod]
theorem pow_mod_ (a n m : Nat) : (a % m) ^ n % m = a ^ n % m := (Nat.pow_mod a n m).symm
theorem step_odd (P S e m : Nat) (h : e % 2 = 1) : (P * S % m) * (S * S % m) ^ (e / 2) % m = P * S ^ e % m := by
  rw [mul_mod_l, Nat.mul_mod, pow_mod_, ← Nat.mul_mod, ← Nat.pow_two, ← Nat.pow_mul, Nat.mul_assoc, ← Nat.pow_succ']
  congr 3; omega
theorem step_even (P S e m : Nat) (h : e % 2 = 0) : P * (S * S % m) ^ (e / 2) % m = P * S ^ e % m := by
  rw [Nat.mul_mod, pow_mod_, ← Nat.mul_mod, ← Nat.pow_two, ← Nat.pow_mul]
  congr 3; omega
theorem half_odd (b e m : Nat) (h : e % 2 = 1) : (b ^ (e / 2) % m * (b ^ (e / 2) % m) % m) * b % m = b ^ e % m := by
  rw [mul_mod_l, ← Nat.mul_mod_mod, mul_mod_r]
  rw [Nat.mul_mod, ← Nat.mul_mod (b ^ (e / 2)) (b ^ (e / 2)) m, ← Nat.mul_mod, ← Nat.pow_add, ← Nat.pow_succ]
  congr 2; omega
theorem half_even (b e m : Nat) (h : e % 2 = 0) : b ^ (e / 2) % m * (b ^ (e / 2) % m) % m = b ^ e % m := by
  rw [← Nat.mul_mod, ← Nat.pow_add]
  congr 2; omega
/-- Doubling and adding. -/
theorem dbl_odd (o x y m : Nat) (h : y % 2 = 1) : ((o + x) % m + (x + x) % m * (y / 2)) % m = (o + x * y) % m := by
  rw [Nat.add_mod, Nat.mod_mod, mul_mod_l, ← Nat.add_mod]
  congr 1
  have hy : y = 2 * (y / 2) + 1 := by omega
  rw [← Nat.two_mul, Nat.add_assoc, Nat.mul_comm 2 x, Nat.mul_assoc]
  conv => rhs; rw [hy, Nat.mul_add, Nat.mul_one]
  omega
theorem dbl_even (o x y m : Nat) (h : y % 2 = 0) : (o + (x + x) % m * (y / 2)) % m = (o + x * y) % m := by
  rw [Nat.add_mod, mul_mod_l, ← Nat.add_mod]
  congr 1
  have hy : y = 2 * (y / 2) := by omega
  rw [← Nat.two_mul, Nat.mul_comm 2 x, Nat.mul_assoc]
  conv => rhs; rw [hy]
/-- Two who tell each other their public numbers agree. -/
theorem agree_math (g a b m : Nat) : (g ^ b % m) ^ a % m = (g ^ a % m) ^ b % m := by
  rw [pow_mod_, pow_mod_, ← Nat.pow_mul, ← Nat.pow_mul, Nat.mul_comm]
/-- 37 has an inverse: no power of it is 0. -/
theorem pos37 (a : Nat) : 0 < 37 ^ a % 2305843009213693951 := by
  rcases Nat.eq_zero_or_pos (37 ^ a % 2305843009213693951) with h | h
  · have e1 : 37 ^ a * 2181202846553494278 ^ a % 2305843009213693951 = 1 := by
      rw [← Nat.mul_pow, ← pow_mod_, show 37 * 2181202846553494278 % 2305843009213693951 = 1 from by decide, Nat.one_pow]
    rw [← mul_mod_l, h, Nat.zero_mul] at e1
    simp at e1
  · exact h
end Go.Proofs.Ytekpepnonhbkcaa
