/-
  What prefix's inner getRest and Get answer. Contracts that the statements' walks use.
-/
import Derived.Test.YtehejibllkmflaaPfB
namespace Go.Proofs.Ytehejibllkmflaa
open Go.RowKit
set_option linter.unusedVariables false
set_option maxRecDepth 100000

theorem byte_at {zs : List Int} (hz : ∀ y ∈ zs, 0 ≤ y ∧ y < 256) {k : Nat} (hk : k < zs.length) : ∃ y : Nat, y < 256 ∧ zs.getD k 0 = (y : Int) ∧ zs.drop k = (y : Int) :: zs.drop (k + 1) := by
  have h := hz zs[k] (List.getElem_mem _)
  obtain ⟨y, hy⟩ := Int.eq_ofNat_of_zero_le h.1
  exact ⟨y, by omega, by rw [List.getD_eq_getElem?_getD, List.getElem?_eq_getElem hk, Option.getD_some, hy], by rw [List.drop_eq_getElem_cons hk, hy]⟩
/-- What stands in a reading's place: the number, the place behind it, the error. -/
def glP (p : Nat) (r : Int × Nat × Int) : Int × Nat × Int := if r.2.2 = 0 then (r.1, p + r.2.1, 0) else (0, 0, r.2.2)
def glU (k : Nat) : Int := 2 ^ (7 * min k 8)
def pgA (zs : List Int) (p b : Int) : Int × Nat × Int := if ¬ (1 ≤ b ∧ b ≤ 8) then (0, 0, 150) else if p < 0 ∨ (zs.length : Int) < p then (0, 0, 11) else pfG zs p.toNat (2 ^ b.toNat)
/-- Three numbers as an answer. -/
def ans3 (r : Int × Nat × Int) : Ending := .returned (.tuple #[.int .i64 r.1, .int .i64 (r.2.1 : Nat), .int .i64 r.2.2])
theorem pow7 (k : Nat) (h : k ≤ 9) : 1 ≤ (2 : Int) ^ (7 * k) ∧ (2 : Int) ^ (7 * k) ≤ 9223372036854775808 := by
  have h1 := Nat.pow_le_pow_right (n := 2) (by decide) (show 7 * k ≤ 63 by omega)
  have h2 := Nat.two_pow_pos (7 * k)
  have e : ((2 ^ (7 * k) : Nat) : Int) = (2 : Int) ^ (7 * k) := by simp
  omega
theorem gl_large {n y : Int} {k : Nat} {r : List Int} (hk : k < 10) (h0 : 0 ≤ n) (h1 : n ≤ mxN) (hy : 0 ≤ y ∧ y < 256) (h : (mxN - n) / 2 ^ (7 * k) < y % 128) : gl n (glU k) (k + 1) (y :: r) = (0, 0, 151) := by
  have hp := pow7 k (by omega)
  have hd := Int.ediv_nonneg (a := mxN - n) (b := 2 ^ (7 * k)) (by omega) (by omega)
  rw [gl, if_pos]
  refine ⟨by omega, ?_⟩
  by_cases h9 : k = 9
  · left; omega
  · right
    unfold glU
    rw [show min k 8 = k by omega]
    exact h
theorem gl_part {n y : Int} {k : Nat} (hk : k < 10) (h0 : 0 ≤ n) (h1 : n ≤ mxN) (hy : 0 ≤ y ∧ y < 256) (h : ¬ (mxN - n) / 2 ^ (7 * k) < y % 128) : 0 ≤ y % 128 * 2 ^ (7 * k) ∧ y % 128 * 2 ^ (7 * k) ≤ mxN - n ∧ y % 128 * 2 ^ (7 * k) = y % 128 * glU k ∧ ¬ (0 < y % 128 ∧ (9 < k + 1 ∨ (mxN - n) / glU k < y % 128)) := by
  have hp := pow7 k (by omega)
  have hx : 0 ≤ y % 128 := by omega
  have a1 := Int.mul_nonneg hx (show 0 ≤ (2 : Int) ^ (7 * k) by omega)
  have a2 := div_mul_le' (show 0 < (2 : Int) ^ (7 * k) by omega) (show y % 128 ≤ (mxN - n) / 2 ^ (7 * k) by omega)
  refine ⟨a1, a2, ?_⟩
  by_cases h9 : k = 9
  · subst h9
    have hmx : mxN = 4611686018427387903 := rfl
    have hpp : (2 : Int) ^ (7 * 9) = 9223372036854775808 := by decide
    have e : (mxN - n) / 2 ^ (7 * 9) = 0 := Int.ediv_eq_zero_of_lt (by omega) (by rw [hpp]; omega)
    rw [e] at h
    have e0 : y % 128 = 0 := by omega
    rw [e0]
    exact ⟨by simp, fun hh => absurd hh.1 (by decide)⟩
  · have e : glU k = 2 ^ (7 * k) := by unfold glU; rw [show min k 8 = k by omega]
    rw [e]
    exact ⟨rfl, fun hh => by rcases hh.2 with h | h <;> omega⟩
theorem gl_end {n y : Int} {k : Nat} {r : List Int} (hk : k < 10) (h0 : 0 ≤ n) (h1 : n ≤ mxN) (hy : 0 ≤ y ∧ y < 256) (h : ¬ (mxN - n) / 2 ^ (7 * k) < y % 128) (hl : y < 128) : gl n (glU k) (k + 1) (y :: r) = (n + y % 128 * 2 ^ (7 * k), k + 2, 0) := by
  obtain ⟨_, _, e, c⟩ := gl_part hk h0 h1 hy h
  rw [gl, if_neg c, if_pos hl, e]
theorem gl_last {n y : Int} {r : List Int} (h0 : 0 ≤ n) (h1 : n ≤ mxN) (hy : 0 ≤ y ∧ y < 256) (h : ¬ (mxN - n) / 2 ^ (7 * 9) < y % 128) (hl : ¬ y < 128) : gl n (glU 9) (9 + 1) (y :: r) = (0, 0, 151) := by
  obtain ⟨_, _, e, c⟩ := gl_part (k := 9) (by omega) h0 h1 hy h
  rw [gl, if_neg c, if_neg hl, if_pos rfl]
theorem gl_next {n y : Int} {k : Nat} {r : List Int} (hk : k < 9) (h0 : 0 ≤ n) (h1 : n ≤ mxN) (hy : 0 ≤ y ∧ y < 256) (h : ¬ (mxN - n) / 2 ^ (7 * k) < y % 128) (hl : ¬ y < 128) : gl n (glU k) (k + 1) (y :: r) = gl (n + y % 128 * 2 ^ (7 * k)) (glU (k + 1)) (k + 1 + 1) r := by
  obtain ⟨_, _, e, c⟩ := gl_part (by omega) h0 h1 hy h
  have hu : (if k + 1 < 9 then glU k * 128 else glU k) = glU (k + 1) := by
    unfold glU
    split
    · rw [show min k 8 = k by omega, show min (k + 1) 8 = k + 1 by omega, Nat.mul_add, Int.pow_add]; rfl
    · rw [show min k 8 = 8 by omega, show min (k + 1) 8 = 8 by omega]
  rw [gl, if_neg c, if_neg hl, if_neg (by omega), hu, e]
theorem u8_and127 (a : Int) (h0 : 0 ≤ a) (h : a < 256) : bits .and .u8 a 127 = a % 128 := by
  obtain ⟨x, rfl⟩ := Int.eq_ofNat_of_zero_le h0
  have := u8_and_nat x 127 (by omega) (by omega)
  rw [nat_mask7] at this
  simpa using this
theorem and128_tab : ∀ f : Fin 256, decide (bits .and .u8 (f.val : Int) 128 = 0) = decide (f.val < 128) := by decide +kernel
theorem and128 (a : Int) (h0 : 0 ≤ a) (h : a < 256) : (bits .and .u8 a 128 = 0) = (a < 128) := by
  obtain ⟨x, rfl⟩ := Int.eq_ofNat_of_zero_le h0
  have := and128_tab ⟨x, by omega⟩
  have h2 := decide_eq_decide.1 this
  exact propext ⟨fun hh => by have : x < 128 := h2.1 hh; omega, fun hh => h2.2 (by simp; omega)⟩

set_option maxHeartbeats 4000000 in
theorem getRest_any (a : Option Addr) (n c : Nat) (zs : List Int) (p : Nat) (m : Int) (w : World) (hl : zs.length = n) (hn : n ≤ 140737488355328) (hz : ∀ y ∈ zs, 0 ≤ y ∧ y < 256) (hseg : Seg w a zs) (hp : p < n) (h0 : 0 ≤ m) (h1 : m ≤ mxN) :
    Calls Try.prog 74 #[.slice a n c, .int .i64 ((p : Int) + 1), .int .i64 m] w fun e w' => e = ans3 (glP p (gl m 1 1 (zs.drop (p + 1)))) ∧ w = w' := by
  have HL := hid hl
  have HZ := hid hz
  have HS := hid hseg
  have hmx : mxN = 4611686018427387903 := rfl
  obtain ⟨R, hR⟩ : ∃ R, glP p (gl m 1 1 (zs.drop (p + 1))) = R := ⟨_, rfl⟩
  have HR0 := hid (show glP p (gl m (glU 0) (0 + 1) (zs.drop (p + 1 + 0))) = R from hR)
  rw [hR]
  rw [hmx] at h1
  clear hl hz hseg hR hmx
  go_enter Try.func74, Try.ntmps74
  go_wp2_with fail
  go_loopw [2, 13] (fun nv iv wr => wr = w ∧ ∃ (k : Nat) (m : Int), iv = .int .i64 k ∧ nv = .int .i64 m ∧ 0 ≤ m ∧ m ≤ 4611686018427387903 ∧ k ≤ 10 ∧ (k < 10 → glP p (gl m (glU k) (k + 1) (zs.drop (p + 1 + k))) = R) ∧ (k = 10 → R = (0, 0, 151)) ∧ p + 1 + k ≤ n) (fun _ i _ => (10 - intOf i).toNat)
  case atStart => exact ⟨rfl, 0, m, rfl, rfl, h0, h1, by omega, fun _ => HR0.out, fun h => by omega, by omega⟩
  case round =>
    clear HR0 h0 h1
    obtain ⟨hw, k, m, rfl, rfl, h0, h1, hk, hR, hE, hpk⟩ := hrel
    replace hw := hw.symm
    subst hw
    by_cases h10 : k = 10
    · subst h10
      have HE := hid (hE rfl)
      clear hE hR
      go_wp2_with fail
      go_ret3
      exact ⟨by rw [HE.out]; rfl, rfl⟩
    · have hk10 : (k : Int) < 10 := by omega
      have HR := hid (hR (by omega))
      clear hE hR
      by_cases hend : p + 1 + k = n
      · have HE := hid (show R = (0, 0, 12) from by rw [← HR.out, List.drop_of_length_le (by rw [HL.out]; omega)]; rfl)
        have hei : (p : Int) + 1 + (k : Int) = (n : Int) := by omega
        go_wp2_with fail
        go_ret3
        exact ⟨by rw [HE.out]; rfl, rfl⟩
      · have hei : ((p : Int) + 1 + (k : Int) == (n : Int)) = false := beq_eq_false_iff_ne.2 (by omega)
        obtain ⟨y, hy, hg, hdr⟩ := byte_at HZ.out (k := p + 1 + k) (by rw [HL.out]; omega)
        obtain ⟨ab, off, rfl, hc0⟩ := HS.out (by intro e; have := HL.out; rw [e] at this; simp at this; omega)
        have hc1 := hc0 (p + 1 + k) (by rw [HL.out]; omega)
        rw [hg] at hc1
        rw [Nat.add_assoc (p + 1)] at hdr
        rw [hdr] at HR
        have hyb : 0 ≤ (y : Int) ∧ (y : Int) < 256 := by omega
        have hand := u8_and127 (y : Int) hyb.1 hyb.2
        by_cases hD : (mxN - m) / 2 ^ (7 * k) < (y : Int) % 128
        · have HE := hid (show R = (0, 0, 151) from by rw [← HR.out, gl_large (by omega) h0 h1 hyb hD]; rfl)
          rw [show 7 * k = k * 7 by omega] at hD
          have hD2 : (4611686018427387903 - m) / 2 ^ (k * 7) < (y : Int) % 128 := hD
          clear HR hdr hg hc0 hD
          go_wp2_with fail
          go_ret3
          exact ⟨by rw [HE.out]; rfl, rfl⟩
        · have hpt := gl_part (by omega) h0 h1 hyb hD
          have HPT := hid hpt
          have hpt1 := hpt.1
          have hpt2 := hpt.2.1
          rw [show 7 * k = k * 7 by omega] at hpt1 hpt2
          have hpt3 : (y : Int) % 128 * 2 ^ (k * 7) ≤ 4611686018427387903 - m := hpt2
          have hD2 : ¬ (4611686018427387903 - m) / 2 ^ (k * 7) < (y : Int) % 128 := by have h := hD; rw [show 7 * k = k * 7 by omega] at h; exact h
          have hDb : decide ((4611686018427387903 - m) / 2 ^ (k * 7) < (y : Int) % 128) = false := decide_eq_false hD2
          have h128 := and128 (y : Int) hyb.1 hyb.2
          clear hpt hpt2
          by_cases hlt : (y : Int) < 128
          · have HE := hid (show R = (m + (y : Int) % 128 * 2 ^ (k * 7), p + (k + 2), 0) from by rw [← HR.out, gl_end (by omega) h0 h1 hyb hD hlt, show 7 * k = k * 7 by omega]; rfl)
            have hb0 : (bits .and .u8 (y : Int) 128 == 0) = true := by rw [beq_iff_eq, h128]; exact hlt
            clear HR hdr hg hc0 hD h128 hlt HPT
            generalize hP : (y : Int) % 128 * 2 ^ (k * 7) = P at *
            go_wp2_with fail
            go_ret3
            refine ⟨?_, rfl⟩
            rw [HE.out]
            show Ending.returned _ = Ending.returned _
            congr 4
            simp
            omega
          · have hb0 : (bits .and .u8 (y : Int) 128 == 0) = false := by rw [beq_eq_false_iff_ne, ne_eq, h128]; exact hlt
            have HN := hid (show (k + 1 < 10 → glP p (gl (m + (y : Int) % 128 * 2 ^ (k * 7)) (glU (k + 1)) (k + 1 + 1) (zs.drop (p + 1 + (k + 1)))) = R) from by
              intro h; rw [← HR.out, gl_next (by omega) h0 h1 hyb hD hlt, show 7 * k = k * 7 by omega])
            have HX := hid (show (k + 1 = 10 → R = (0, 0, 151)) from by
              intro h
              obtain rfl : k = 9 := by omega
              rw [← HR.out, gl_last h0 h1 hyb hD hlt]; rfl)
            clear HR hdr hg hc0 hD h128 hlt HPT
            generalize hP : (y : Int) % 128 * 2 ^ (k * 7) = P at *
            go_wp2_with fail
            go_roundw
            case rel => exact ⟨trivial, k + 1, m + P, by go_num, by first | rfl | trivial, by omega, by omega, by omega, HN.out, HX.out, by omega⟩
            case measure => simp [intOf]; omega
end Go.Proofs.Ytehejibllkmflaa
