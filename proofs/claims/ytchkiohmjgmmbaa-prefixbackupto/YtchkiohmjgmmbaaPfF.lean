/-
  What the document's own Get answers. A contract that the statements' walks use.
-/
import Derived.Test.YtchkiohmjgmmbaaPfE
namespace Go.Proofs.Ytchkiohmjgmmbaa
open Go.RowKit
set_option linter.unusedVariables false
set_option maxRecDepth 100000

def glV (i : Nat) : Int := 2 ^ (7 * min (i - 1) 8)
theorem glV_bd (i : Nat) : 1 ≤ glV i ∧ glV i ≤ 72057594037927936 := by
  unfold glV
  have h1 := Nat.pow_le_pow_right (n := 2) (by decide) (show 7 * min (i - 1) 8 ≤ 56 by omega)
  have h2 := Nat.two_pow_pos (7 * min (i - 1) 8)
  have e : ((2 ^ (7 * min (i - 1) 8) : Nat) : Int) = (2 : Int) ^ (7 * min (i - 1) 8) := by simp
  omega
theorem glV_next {i : Nat} (h1 : 1 ≤ i) (h : i < 9) : glV i * 128 = glV (i + 1) := by
  unfold glV
  rw [show min (i - 1) 8 = i - 1 by omega, show min (i + 1 - 1) 8 = i - 1 + 1 by omega, Nat.mul_add, Int.pow_add]; rfl
theorem glV_stay {i : Nat} (h : 9 ≤ i) : glV i = glV (i + 1) := by
  unfold glV
  rw [show min (i - 1) 8 = 8 by omega, show min (i + 1 - 1) 8 = 8 by omega]

set_option maxHeartbeats 16000000 in
theorem rget_any (a : Option Addr) (n c : Nat) (zs : List Int) (p b : Int) (w : World) (hl : zs.length = n) (hn : n ≤ 140737488355328) (hz : ∀ y ∈ zs, 0 ≤ y ∧ y < 256) (hseg : Seg w a zs) :
    Calls Try.prog 15 #[.slice a n c, .int .i64 p, .int .i64 b] w fun e w' => e = ans3 (pgA zs p b) ∧ w = w' := by
  have HL := hid hl
  have HZ := hid hz
  have HS := hid hseg
  clear hl hz hseg
  by_cases hb : 1 ≤ b ∧ b ≤ 8
  · have hb1 : ¬ b < 1 := by omega
    have hb8 : ¬ 8 < b := by omega
    by_cases hp : p < 0 ∨ (n : Int) < p
    · have he : pgA zs p b = (0, 0, 11) := by unfold pgA; rw [if_neg (by simpa using hb), if_pos (by rw [HL.out]; exact hp)]
      rw [he]
      clear he hb
      by_cases hp0 : p < 0
      · have hp0b : ¬ 0 ≤ p := by omega
        go_enter Try.func15, Try.ntmps15
        go_wp2_with fail
        go_ret3
        exact ⟨rfl, rfl⟩
      · have hp0b : decide (p < 0) = false := decide_eq_false hp0
        have hp1 : (n : Int) < p := by omega
        go_enter Try.func15, Try.ntmps15
        go_wp2_with fail
        go_ret3
        exact ⟨rfl, rfl⟩
    · have hp0 : 0 ≤ p := by omega
      obtain ⟨q, rfl⟩ := Int.eq_ofNat_of_zero_le hp0
      obtain ⟨k, rfl⟩ := Int.eq_ofNat_of_zero_le (show 0 ≤ b by omega)
      have hk8 : k ≤ 8 := by omega
      have hk1 : 1 ≤ k := by omega
      have he : pgA zs q k = pfG zs q (2 ^ k) := by unfold pgA; rw [if_neg (by simpa using hb), if_neg (by rw [HL.out]; exact hp), Int.toNat_natCast, Int.toNat_natCast]
      rw [he]
      have hq1 : ¬ (n : Int) < (q : Int) := by omega
      have hq0 : ¬ (q : Int) < 0 := by omega
      clear he hb hp
      by_cases hend : q = n
      · subst hend
        have he : pfG zs q (2 ^ k) = (0, 0, 12) := by unfold pfG; rw [List.drop_of_length_le (by rw [HL.out]; exact Nat.le_refl _)]
        rw [he]
        clear he
        go_enter Try.func15, Try.ntmps15
        go_wp2_with fail
        go_ret3
        exact ⟨rfl, rfl⟩
      · have hqn : q < n := by omega
        have hei : ((q : Int) == (n : Int)) = false := beq_eq_false_iff_ne.2 (by omega)
        have HO := hid (fun W => rpower_any k W (by omega))
        have hz := two_k k hk8
        have hz2 := two_k2 k hk1
        obtain ⟨y, hy, hg, hdr⟩ := byte_at HZ.out (k := q) (by rw [HL.out]; omega)
        obtain ⟨ab, off, rfl, hc0⟩ := HS.out (by intro e; have := HL.out; rw [e] at this; simp at this; omega)
        have hc1 := hc0 q (by rw [HL.out]; omega)
        rw [hg] at hc1
        have HC0 := hid hc0
        have hym := Int.emod_nonneg (y : Int) (show (2 : Int) ^ k ≠ 0 by omega)
        have hyl := Int.emod_lt_of_pos (y : Int) (show 0 < (2 : Int) ^ k by omega)
        have htm : (y : Int).tmod (2 ^ k) = (y : Int) % 2 ^ k := Int.tmod_eq_emod_of_nonneg (by omega)
        by_cases hs : (y : Int) % 2 ^ k < 2 ^ k - 1
        · rw [pfG_low hdr hs]
          clear hdr hg hc0 HC0 hend
          go_enter Try.func15, Try.ntmps15
          go_wp2_with (go_at_call 24; refine (HO.out _).mono ?_; rintro e w1 ⟨rfl, rfl⟩)
          go_ret3
          exact ⟨rfl, rfl⟩
        · rw [pfG_rest hdr hs hz.2]
          have hsb : decide ((y : Int) % 2 ^ k < 2 ^ k - 1) = false := decide_eq_false hs
          have hyz : (y : Int) % 2 ^ k = 2 ^ k - 1 := by omega
          obtain ⟨R, hR⟩ : ∃ R, glP q (gl ((2 : Int) ^ k - 1) 1 1 (zs.drop (q + 1))) = R := ⟨_, rfl⟩
          have HR0 := hid (show glP q (gl ((y : Int) % 2 ^ k) (glV 1) 1 (zs.drop (q + 1))) = R from by rw [hyz]; exact hR)
          rw [hR]
          clear hdr hg hc0 hR hend hs hyz
          generalize (y : Int) % 2 ^ k = m0 at *
          go_enter Try.func15, Try.ntmps15
          go_wp2_with (go_at_call 24; refine (HO.out _).mono ?_; rintro e w1 ⟨rfl, rfl⟩)
          go_loopw [10, 11, 12] (fun nv uv iv wr => wr = w ∧ ∃ (i : Nat) (m : Int), iv = .int .i64 i ∧ nv = .int .i64 m ∧ uv = .int .i64 (glV i) ∧ 0 ≤ m ∧ m ≤ 4611686018427387903 ∧ 1 ≤ i ∧ i ≤ 10 ∧ glP q (gl m (glV i) i (zs.drop (q + i))) = R ∧ q + i ≤ n) (fun _ _ i _ => (11 - intOf i).toNat)
          case atStart => exact ⟨rfl, 1, m0, rfl, rfl, rfl, by omega, by omega, by omega, by omega, HR0.out, by omega⟩
          case round =>
            clear HR0 hc1 htm hym hyl hsb hz hz2
            obtain ⟨hw, i, m, rfl, rfl, rfl, h0, h1, hi1, hi10, hR, hpk⟩ := hrel
            replace hw := hw.symm
            subst hw
            have HR := hid hR
            clear hR
            by_cases hend : q + i = n
            · have HE := hid (show R = (0, 0, 12) from by rw [← HR.out, List.drop_of_length_le (by rw [HL.out]; omega)]; rfl)
              have hei2 : ¬ (q : Int) + (i : Int) < (n : Int) := by omega
              generalize glV i = u at *
              clear hei
              go_wp2_with fail
              go_ret3
              exact ⟨by rw [HE.out]; rfl, rfl⟩
            · have hei2 : (q : Int) + (i : Int) < (n : Int) := by omega
              obtain ⟨y, hy, hg, hdr⟩ := byte_at HZ.out (k := q + i) (by rw [HL.out]; omega)
              have hc1 := HC0.out (q + i) (by rw [HL.out]; omega)
              rw [hg] at hc1
              rw [hdr] at HR
              rw [Nat.add_assoc] at hdr HR
              have hyb : 0 ≤ (y : Int) ∧ (y : Int) < 256 := by omega
              have htm : (y : Int).tmod 128 = (y : Int) % 128 := Int.tmod_eq_emod_of_nonneg (by omega)
              have hub := glV_bd i
              have HGN := hid (@glV_next i hi1)
              have HGS := hid (@glV_stay i)
              have hgl := HR.out
              rw [gl] at hgl
              have HGL := hid hgl
              clear hgl hdr hg hei HR hend
              generalize hV : glV i = u at *
              have HV := hid hV
              clear hV
              have hdn := Int.ediv_nonneg (a := 4611686018427387903 - m) (b := u) (by omega) (by omega)
              have hdn2 : (4611686018427387903 - m) / u ≤ 4611686018427387903 := by have := Int.ediv_le_self u (show 0 ≤ 4611686018427387903 - m by omega); omega
              have htd : (4611686018427387903 - m).tdiv u = (4611686018427387903 - m) / u := Int.tdiv_eq_ediv_of_nonneg (by omega)
              have hu0 : (u == 0) = false := beq_eq_false_iff_ne.2 (by omega)
              have hx0 : 0 ≤ (y : Int) % 128 := by omega
              have hx1 : (y : Int) % 128 < 128 := by omega
              by_cases hxz : (y : Int) % 128 = 0
              · have hxb : ¬ 0 < (y : Int) % 128 := by omega
                have HG2 := hid HGL.out
                rw [if_neg (fun h => hxb h.1), hxz, Int.zero_mul, Int.add_zero] at HG2
                clear HGL
                replace HGL := HG2
                clear HG2
                by_cases hlt : (y : Int) < 128
                · have HE := hid (show R = (m, q + (i + 1), 0) from by have h := HGL.out; rw [if_pos hlt] at h; exact h.symm)
                  have hltb : (y : Int) < 128 := hlt
                  go_wp2_with fail
                  go_ret3
                  refine ⟨?_, rfl⟩
                  rw [HE.out]
                  simp only [ans3]
                  rw [show ((q + (i + 1) : Nat) : Int) = (q : Int) + (i : Int) + 1 by omega]
                  rfl
                · have HGM := hid (by have h := HGL.out; rw [if_neg hlt] at h; exact h)
                  have hltb : decide ((y : Int) < 128) = false := decide_eq_false hlt
                  clear HGL
                  by_cases hten : i = 10
                  · have HE := hid (show R = (0, 0, 151) from by have h := HGM.out; rw [if_pos hten] at h; exact h.symm)
                    have hteni : ((i : Int) == 10) = true := by rw [beq_iff_eq]; omega
                    clear HGM hten
                    go_wp2_with fail
                    go_ret3
                    exact ⟨by rw [HE.out]; rfl, rfl⟩
                  · have hteni : ((i : Int) == 10) = false := beq_eq_false_iff_ne.2 (by omega)
                    have HGN2 := hid (by have h := HGM.out; rw [if_neg hten] at h; exact h)
                    clear HGM
                    by_cases hni : i < 9
                    · have hnii : (i : Int) < 9 := by omega
                      have HX := hid (show glP q (gl (m) (glV (i + 1)) (i + 1) (zs.drop (q + (i + 1)))) = R from by have h := HGN2.out; rw [if_pos hni, HGN.out hni] at h; exact h)
                      have HUV := hid (HGN.out hni)
                      have hub2 : u * 128 ≤ 72057594037927936 := by rw [HUV.out]; exact (glV_bd (i + 1)).2
                      clear HGN2
                      go_wp2_with fail
                      go_roundw
                      case rel => exact ⟨trivial, i + 1, m, by go_num, rfl, by rw [HUV.out], by omega, by omega, by omega, by omega, HX.out, by omega⟩
                      case measure => simp [intOf]; omega
                    · have hnii : ¬ (i : Int) < 9 := by omega
                      have HUV := hid (show u = glV (i + 1) from HGS.out (by omega))
                      have HX := hid (show glP q (gl (m) (glV (i + 1)) (i + 1) (zs.drop (q + (i + 1)))) = R from by have h := HGN2.out; rw [if_neg hni] at h; rw [← HUV.out]; exact h)
                      clear HGN2
                      go_wp2_with fail
                      go_roundw
                      case rel => exact ⟨trivial, i + 1, m, by go_num, rfl, by rw [← HUV.out], by omega, by omega, by omega, by omega, HX.out, by omega⟩
                      case measure => simp [intOf]; omega

              · have hxp : 0 < (y : Int) % 128 := by omega
                by_cases hni9 : 9 < i
                · have HE := hid (show R = (0, 0, 151) from by have h := HGL.out; rw [if_pos ⟨hxp, .inl hni9⟩] at h; exact h.symm)
                  have hnii9 : 9 < (i : Int) := by omega
                  clear HGL
                  go_wp2_with fail
                  go_ret3
                  exact ⟨by rw [HE.out]; rfl, rfl⟩
                · have hnii9 : ¬ 9 < (i : Int) := by omega
                  by_cases hD : (mxN - m) / u < (y : Int) % 128
                  · have HE := hid (show R = (0, 0, 151) from by have h := HGL.out; rw [if_pos ⟨hxp, .inr hD⟩] at h; exact h.symm)
                    have hDb : (4611686018427387903 - m) / u < (y : Int) % 128 := hD
                    clear HGL hD
                    go_wp2_with fail
                    go_ret3
                    exact ⟨by rw [HE.out]; rfl, rfl⟩
                  · have hDb : ¬ (4611686018427387903 - m) / u < (y : Int) % 128 := hD
                    have hDc : decide ((4611686018427387903 - m) / u < (y : Int) % 128) = false := decide_eq_false hDb
                    have HG2 := hid HGL.out
                    rw [if_neg (fun h => by rcases h.2 with h | h <;> omega)] at HG2
                    have hxm := div_mul_le' (show 0 < u by omega) (show (y : Int) % 128 ≤ (4611686018427387903 - m) / u by omega)
                    have hxp2 := Int.mul_nonneg hx0 (show 0 ≤ u by omega)
                    clear HGL hD
                    replace HGL := HG2
                    clear HG2
                    generalize hP : (y : Int) % 128 * u = P at *
                    by_cases hlt : (y : Int) < 128
                    · have HE := hid (show R = (m + P, q + (i + 1), 0) from by have h := HGL.out; rw [if_pos hlt] at h; exact h.symm)
                      have hltb : (y : Int) < 128 := hlt
                      go_wp2_with fail
                      go_ret3
                      refine ⟨?_, rfl⟩
                      rw [HE.out]
                      simp only [ans3]
                      rw [show ((q + (i + 1) : Nat) : Int) = (q : Int) + (i : Int) + 1 by omega]
                      rfl
                    · have HGM := hid (by have h := HGL.out; rw [if_neg hlt] at h; exact h)
                      have hltb : decide ((y : Int) < 128) = false := decide_eq_false hlt
                      clear HGL
                      have hteni : ((i : Int) == 10) = false := beq_eq_false_iff_ne.2 (by omega)
                      have HGN2 := hid (by have h := HGM.out; rw [if_neg (show ¬ i = 10 by omega)] at h; exact h)
                      clear HGM
                      by_cases hni : i < 9
                      · have hnii : (i : Int) < 9 := by omega
                        have HX := hid (show glP q (gl (m + P) (glV (i + 1)) (i + 1) (zs.drop (q + (i + 1)))) = R from by have h := HGN2.out; rw [if_pos hni, HGN.out hni] at h; exact h)
                        have HUV := hid (HGN.out hni)
                        have hub2 : u * 128 ≤ 72057594037927936 := by rw [HUV.out]; exact (glV_bd (i + 1)).2
                        clear HGN2
                        go_wp2_with fail
                        go_roundw
                        case rel => exact ⟨trivial, i + 1, m + P, by go_num, rfl, by rw [HUV.out], by omega, by omega, by omega, by omega, HX.out, by omega⟩
                        case measure => simp [intOf]; omega
                      · have hnii : ¬ (i : Int) < 9 := by omega
                        have HUV := hid (show u = glV (i + 1) from HGS.out (by omega))
                        have HX := hid (show glP q (gl (m + P) (glV (i + 1)) (i + 1) (zs.drop (q + (i + 1)))) = R from by have h := HGN2.out; rw [if_neg hni] at h; rw [← HUV.out]; exact h)
                        clear HGN2
                        go_wp2_with fail
                        go_roundw
                        case rel => exact ⟨trivial, i + 1, m + P, by go_num, rfl, by rw [← HUV.out], by omega, by omega, by omega, by omega, HX.out, by omega⟩
                        case measure => simp [intOf]; omega

  · have he : pgA zs p b = (0, 0, 150) := by unfold pgA; rw [if_pos hb]
    rw [he]
    by_cases hb1 : b < 1
    · clear hb
      have hb1b : ¬ 1 ≤ b := by omega
      go_enter Try.func15, Try.ntmps15
      go_wp2_with fail
      go_ret3
      exact ⟨rfl, rfl⟩
    · have hb8 : 8 < b := by omega
      have hb1b : decide (b < 1) = false := decide_eq_false hb1
      clear hb
      go_enter Try.func15, Try.ntmps15
      go_wp2_with fail
      go_ret3
      exact ⟨rfl, rfl⟩
end Go.Proofs.Ytchkiohmjgmmbaa
