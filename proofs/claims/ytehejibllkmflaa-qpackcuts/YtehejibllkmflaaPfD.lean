/-
  What prefix's Get and the law's awake answer. Contracts that the statements' walks use.
-/
import Derived.Test.YtehejibllkmflaaPfC
namespace Go.Proofs.Ytehejibllkmflaa
open Go.RowKit
set_option linter.unusedVariables false
set_option maxRecDepth 100000

theorem and_ones {k y : Nat} (hk : k ≤ 8) (hy : y < 256) : bits .and .i64 (y : Int) ((2 : Int) ^ k - 1) = (y : Int) % 2 ^ k := by
  have hp := two_k k hk
  have e : ((2 ^ k : Nat) : Int) = (2 : Int) ^ k := by simp
  have e1 : (2 : Int) ^ k - 1 = ((2 ^ k - 1 : Nat) : Int) := by have := Nat.two_pow_pos k; omega
  rw [e1, i64_and_nat y (2 ^ k - 1) (by omega) (by omega), Nat.and_two_pow_sub_one_eq_mod]
  simp
theorem pfG_low {zs : List Int} {p y : Nat} {z : Int} {r : List Int} (h : zs.drop p = (y : Int) :: r) (hs : (y : Int) % z < z - 1) : pfG zs p z = ((y : Int) % z, p + 1, 0) := by
  unfold pfG
  rw [h]
  simp only
  rw [if_pos hs]
theorem pfG_rest {zs : List Int} {p y : Nat} {z : Int} {r : List Int} (h : zs.drop p = (y : Int) :: r) (hs : ¬ (y : Int) % z < z - 1) (hz : 1 ≤ z) : pfG zs p z = glP p (gl (z - 1) 1 1 r) := by
  have h1 := Int.emod_lt_of_pos (y : Int) (show 0 < z by omega)
  unfold pfG
  rw [h]
  simp only
  rw [if_neg hs, show (y : Int) % z = z - 1 by omega]
  unfold glP
  rcases gl (z - 1) 1 1 r with ⟨n, c, e⟩
  rfl

set_option maxHeartbeats 4000000 in
theorem get_any (a : Option Addr) (n c : Nat) (zs : List Int) (p b : Int) (w : World) (hl : zs.length = n) (hn : n ≤ 140737488355328) (hz : ∀ y ∈ zs, 0 ≤ y ∧ y < 256) (hseg : Seg w a zs) :
    Calls Try.prog 58 #[.slice a n c, .int .i64 p, .int .i64 b] w fun e w' => e = ans3 (pgA zs p b) ∧ w = w' := by
  have HP := hid (isP_any b)
  have HL := hid hl
  have HZ := hid hz
  have HS := hid hseg
  clear hl hz hseg
  by_cases hb : 1 ≤ b ∧ b ≤ 8
  · rw [decide_eq_true hb] at HP
    by_cases hp : p < 0 ∨ (n : Int) < p
    · have he : pgA zs p b = (0, 0, 11) := by unfold pgA; rw [if_neg (by simpa using hb), if_pos (by rw [HL.out]; exact hp)]
      rw [he]
      clear he hb
      by_cases hp0 : p < 0
      · have hp0b : ¬ 0 ≤ p := by omega
        go_enter Try.func58, Try.ntmps58
        go_wp2_with (go_at_call 61; refine (HP.out _).mono ?_; rintro e w1 ⟨rfl, rfl⟩)
        go_ret3
        exact ⟨rfl, rfl⟩
      · have hp0b : decide (p < 0) = false := decide_eq_false hp0
        have hp1 : (n : Int) < p := by omega
        go_enter Try.func58, Try.ntmps58
        go_wp2_with (go_at_call 61; refine (HP.out _).mono ?_; rintro e w1 ⟨rfl, rfl⟩)
        go_ret3
        exact ⟨rfl, rfl⟩
    · have hp0 : 0 ≤ p := by omega
      obtain ⟨q, rfl⟩ := Int.eq_ofNat_of_zero_le hp0
      obtain ⟨k, rfl⟩ := Int.eq_ofNat_of_zero_le (show 0 ≤ b by omega)
      have hk8 : k ≤ 8 := by omega
      have hk1 : 1 ≤ k := by omega
      have he : pgA zs q k = pfG zs q (2 ^ k) := by unfold pgA; rw [if_neg (by simpa using hb), if_neg (by rw [HL.out]; exact hp), Int.toNat_natCast, Int.toNat_natCast]
      rw [he]
      have hq1 : ¬ (n : Int) < (q : Int) := by omega
      have hq0 : ¬ (q : Int) < 0 := by omega
      clear he hb hp
      by_cases hend : q = n
      · subst hend
        have he : pfG zs q (2 ^ k) = (0, 0, 12) := by unfold pfG; rw [List.drop_of_length_le (by rw [HL.out]; exact Nat.le_refl _)]
        rw [he]
        clear he
        go_enter Try.func58, Try.ntmps58
        go_wp2_with (go_at_call 61; refine (HP.out _).mono ?_; rintro e w1 ⟨rfl, rfl⟩)
        go_ret3
        exact ⟨rfl, rfl⟩
      · have hqn : q < n := by omega
        have hei : ((q : Int) == (n : Int)) = false := beq_eq_false_iff_ne.2 (by omega)
        have HO := hid (fun W => pones_any k W hk8)
        have hz := two_k k hk8
        have hz2 := two_k2 k hk1
        obtain ⟨y, hy, hg, hdr⟩ := byte_at HZ.out (k := q) (by rw [HL.out]; omega)
        have hand := and_ones hk8 hy
        have HG := hid (fun W (hW : W = w) => getRest_any a n c zs q ((2 : Int) ^ k - 1) W HL.out hn HZ.out (by rw [hW]; exact HS.out) hqn (by omega) (by unfold mxN; omega))
        obtain ⟨ab, off, rfl, hc0⟩ := HS.out (by intro e; have := HL.out; rw [e] at this; simp at this; omega)
        have hc1 := hc0 q (by rw [HL.out]; omega)
        rw [hg] at hc1
        have hym := Int.emod_nonneg (y : Int) (show (2 : Int) ^ k ≠ 0 by omega)
        have hyl := Int.emod_lt_of_pos (y : Int) (show 0 < (2 : Int) ^ k by omega)
        by_cases hs : (y : Int) % 2 ^ k < 2 ^ k - 1
        · rw [pfG_low hdr hs]
          clear hdr hg hc0 HG hend
          go_enter Try.func58, Try.ntmps58
          go_wp2_with (first | (go_at_call 61; refine (HP.out _).mono ?_; rintro e w1 ⟨rfl, rfl⟩) | (go_at_call 62; refine (HO.out _).mono ?_; rintro e w1 ⟨rfl, rfl⟩))
          go_ret3
          exact ⟨rfl, rfl⟩
        · rw [pfG_rest hdr hs hz.2]
          have hsb : decide ((y : Int) % 2 ^ k < 2 ^ k - 1) = false := decide_eq_false hs
          generalize hR : glP q (gl ((2 : Int) ^ k - 1) 1 1 (zs.drop (q + 1))) = R at *
          clear hdr hg hc0 hR hend hs
          obtain ⟨r1, r2, r3⟩ := R
          simp only [ans3] at HG
          go_enter Try.func58, Try.ntmps58
          go_wp2_with (first | (go_at_call 61; refine (HP.out _).mono ?_; rintro e w1 ⟨rfl, rfl⟩) | (go_at_call 62; refine (HO.out _).mono ?_; rintro e w1 ⟨rfl, rfl⟩) | (go_at_call 74; refine (HG.out _ rfl).mono ?_; rintro e w1 ⟨rfl, rfl⟩))
          go_ret3
          exact ⟨rfl, rfl⟩
  · have he : pgA zs p b = (0, 0, 150) := by unfold pgA; rw [if_pos hb]
    rw [he]
    rw [decide_eq_false hb] at HP
    clear hb he
    go_enter Try.func58, Try.ntmps58
    go_wp2_with (go_at_call 61; refine (HP.out _).mono ?_; rintro e w1 ⟨rfl, rfl⟩)
    go_ret3
    exact ⟨rfl, rfl⟩

end Go.Proofs.Ytehejibllkmflaa
