/-
  What prefix's Put and the law's awake answer. Contracts that the statements' walks use.
-/
import Derived.Test.YtehejibllkmflaaPfA
namespace Go.Proofs.Ytehejibllkmflaa
open Go.RowKit
set_option linter.unusedVariables false
set_option maxRecDepth 100000

/-- What Put answers: the bytes and the error. -/
def puE (n b : Int) : Int := if ¬ (1 ≤ b ∧ b ≤ 8) then 150 else if n < 0 ∨ mxN < n then 10 else 0
def puB (n b f : Int) : List Int := if puE n b = 0 then pfP n (2 ^ b.toNat) (f / 2 ^ b.toNat * 2 ^ b.toNat) else []
theorem high_ok {k : Nat} {f : Int} (hk : k ≤ 8) (h0 : 0 ≤ f) (h1 : f < 256) : 0 ≤ f / 2 ^ k * 2 ^ k ∧ f / 2 ^ k * 2 ^ k < 256 ∧ f / 2 ^ k * 2 ^ k % 2 ^ k = 0 ∧ f / 2 ^ k * 2 ^ k + 2 ^ k - 1 < 256 := by
  have hp := two_k k hk
  generalize hz : (2 : Int) ^ k = z at *
  have hd := Int.ediv_nonneg h0 (show 0 ≤ z by omega)
  have h2 := Int.mul_nonneg hd (show 0 ≤ z by omega)
  have h3 := Int.ediv_mul_le f (show z ≠ 0 by omega)
  refine ⟨h2, by omega, Int.mul_emod_left _ _, ?_⟩
  have hq : f / z < 256 / z := by
    have hdv : z ∣ 256 := by
      have h8 : ((2 ^ k : Nat) : Int) ∣ ((256 : Nat) : Int) := Int.natCast_dvd_natCast.2 (Nat.pow_dvd_pow 2 hk)
      have e : ((2 ^ k : Nat) : Int) = (2 : Int) ^ k := by simp
      rw [← hz, ← e]; exact h8
    obtain ⟨m, hm⟩ := hdv
    rw [hm, Int.mul_ediv_cancel_left _ (by omega)]
    exact Int.ediv_lt_of_lt_mul (by omega) (by rw [Int.mul_comm]; omega)
  have h4 : (f / z + 1) * z ≤ 256 / z * z := Int.mul_le_mul_of_nonneg_right (by omega) (by omega)
  have h5 := Int.ediv_mul_le 256 (show z ≠ 0 by omega)
  rw [Int.add_mul] at h4
  omega
theorem pfP_len (n z h : Int) : (pfP n z h).length ≤ 10 ∧ 0 < (pfP n z h).length := by
  unfold pfP
  split
  · simp
  · have := ct_len 8 (n - (z - 1)); simp; omega

set_option maxHeartbeats 4000000 in
theorem put_any (n b f : Int) (w : World) (h0 : 0 ≤ f) (h1 : f < 256) :
    Calls Try.prog 42 #[.int .i64 n, .int .i64 b, .int .u8 f] w fun e w' => ∃ y : Sv, e = .returned (.tuple #[.slice y.a y.n y.c, .int .i64 (puE n b)]) ∧ Q w w' ∧ Row w' y (puB n b f) ∧ New w.heap.size y := by
  have HP := hid (isP_any b)
  by_cases hb : 1 ≤ b ∧ b ≤ 8
  · obtain ⟨k, rfl⟩ := Int.eq_ofNat_of_zero_le (show 0 ≤ b by omega)
    have hk8 : k ≤ 8 := by omega
    have hk1 : 1 ≤ k := by omega
    rw [decide_eq_true hb] at HP
    have hb2 : ((1 : Int) ≤ (k : Int) ∧ (k : Int) ≤ 8) := hb
    have HO := hid (fun W => pones_any k W hk8)
    have hz := two_k k hk8
    have hz2 := two_k2 k hk1
    have hh := high_ok hk8 h0 h1
    have han := anot_any hk8 h0 h1
    have hor : ∀ t : Int, 0 ≤ t → t < 2 ^ k → bits .or .u8 (f / 2 ^ k * 2 ^ k) t = f / 2 ^ k * 2 ^ k + t := fun t t0 t1 => or_join hk8 hh.1 hh.2.1 hh.2.2.1 t0 t1
    by_cases hn : n < 0 ∨ 4611686018427387903 < n
    · have he : puE n k = 10 := by unfold puE; rw [if_neg (by simpa using hb2), if_pos (by unfold mxN; exact hn)]
      have hbB : puB n k f = [] := by unfold puB; rw [he, if_neg (by decide)]
      rw [he, hbB]
      clear he hbB hor han hh
      by_cases hn0 : n < 0
      · have hn0b : ¬ 0 ≤ n := by omega
        go_enter Try.func42, Try.ntmps42
        go_wp2_with (go_at_call 61; refine (HP.out _).mono ?_; rintro e w1 ⟨rfl, rfl⟩)
        go_ret2
        exact ⟨⟨none, 0, 0⟩, rfl, Q.refl _, ⟨by simp, .inl ⟨rfl, rfl, rfl⟩⟩, fun b e => by cases e⟩
      · have hn0b : decide (n < 0) = false := decide_eq_false hn0
        have hn1 : 4611686018427387903 < n := by omega
        go_enter Try.func42, Try.ntmps42
        go_wp2_with (go_at_call 61; refine (HP.out _).mono ?_; rintro e w1 ⟨rfl, rfl⟩)
        go_ret2
        exact ⟨⟨none, 0, 0⟩, rfl, Q.refl _, ⟨by simp, .inl ⟨rfl, rfl, rfl⟩⟩, fun b e => by cases e⟩
    · have hn0 : 0 ≤ n := by omega
      have hn1 : n ≤ 4611686018427387903 := by omega
      have hn0b : ¬ n < 0 := by omega
      have hn1b : ¬ 4611686018427387903 < n := by omega
      have he : puE n k = 0 := by unfold puE; rw [if_neg (by simpa using hb2), if_neg (by unfold mxN; exact hn)]
      have hbB : puB n k f = pfP n (2 ^ k) (f / 2 ^ k * 2 ^ k) := by unfold puB; rw [he, if_pos rfl, Int.toNat_natCast]
      rw [he, hbB]
      clear he hbB hb hb2 hn hk1 h0 h1
      generalize hzz : (2 : Int) ^ k = z at *
      clear hzz
      generalize hg : f / z * z = g at *
      clear hg
      have hwz : IntKind.u8.wrap (z - 1) = z - 1 := by simp only [IntKind.wrap, IntKind.bits, IntKind.signed]; simp; omega
      by_cases hs : n < z - 1
      · have hwn : IntKind.u8.wrap n = n := by simp only [IntKind.wrap, IntKind.bits, IntKind.signed]; simp; omega
        have hon := hor n hn0 (by omega)
        have HPF := hid (show pfP n z g = [g + n] from by unfold pfP; rw [if_pos hs])
        clear hor
        go_enter Try.func42, Try.ntmps42
        go_wp2_with (first | (go_at_call 61; refine (HP.out _).mono ?_; rintro e w1 ⟨rfl, rfl⟩) | (go_at_call 62; refine (HO.out _).mono ?_; rintro e w1 ⟨rfl, rfl⟩))
        go_ret2
        exact ⟨⟨some ⟨w.heap.size, 0, none⟩, 1, 1⟩, rfl, (Q.refl _).alloc _, by rw [HPF.out]; exact row_lit w _, fun b e => by cases e; exact Nat.le_refl _⟩
      · have hsf : decide (n < z - 1) = false := decide_eq_false hs
        have hon := hor (z - 1) (by omega) (by omega)
        have HPF := hid (show pfP n z g = [g + (z - 1)] ++ ctF 8 (n - (z - 1)) from by unfold pfP; rw [if_neg hs, show g + z - 1 = g + (z - 1) by omega]; rfl)
        have HPR := hid (putRest_any w (w.alloc (.cells #[.int .u8 (g + (z - 1))] 5)) ⟨some ⟨w.heap.size, 0, none⟩, 1, 1⟩ [g + (z - 1)] (n - (z - 1)) ((Q.refl _).alloc _) (row_lit w _) (fun b e => by cases e; exact Nat.le_refl _) (by omega) (by unfold mxN; omega) (by simp))
        rw [← HPF.out] at HPR
        clear hor HPF
        generalize pfP n z g = P at *
        go_enter Try.func42, Try.ntmps42
        go_wp2_with (first | (go_at_call 61; refine (HP.out _).mono ?_; rintro e w1 ⟨rfl, rfl⟩) | (go_at_call 62; refine (HO.out _).mono ?_; rintro e w1 ⟨rfl, rfl⟩) | (go_at_call 63; refine HPR.out.mono ?_; rintro e w2 ⟨⟨ya, yn, yc⟩, rfl, q2, r2, n2⟩))
        go_ret2
        exact ⟨⟨ya, yn, yc⟩, rfl, q2, r2, n2⟩
  · have he : puE n b = 150 := by unfold puE; rw [if_pos hb]
    have hbB : puB n b f = [] := by unfold puB; rw [he, if_neg (by decide)]
    rw [he, hbB]
    rw [decide_eq_false hb] at HP
    clear hb
    go_enter Try.func42, Try.ntmps42
    go_wp2_with (go_at_call 61; refine (HP.out _).mono ?_; rintro e w1 ⟨rfl, rfl⟩)
    go_ret2
    exact ⟨⟨none, 0, 0⟩, rfl, Q.refl _, ⟨by simp, .inl ⟨rfl, rfl, rfl⟩⟩, fun b e => by cases e⟩
end Go.Proofs.Ytehejibllkmflaa
