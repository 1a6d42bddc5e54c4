/-
  What the document's Nonce does: a contract that the statements' walks use.
-/
import Derived.Test.YtihmlfpfpadfpaaChk
namespace Go.Proofs.Ytihmlfpfpadfpaa
open Go.RowKit
set_option linter.unusedVariables false
set_option maxRecDepth 20000

/-- The nonce under way, from its end on. -/
def rvT (iv : List Int) (num : Int) (j : Nat) : List Int := iv.mapIdx fun p x => if 12 ≤ p + j then xr x ((be 8 num).getD (p - 4) 0) else x
theorem rvT_len (iv : List Int) (num : Int) (j : Nat) : (rvT iv num j).length = iv.length := by simp [rvT]
theorem rvT_zero (iv : List Int) (num : Int) (h : iv.length = 12) : rvT iv num 0 = iv := by
  apply List.ext_getElem
  · rw [rvT_len]
  · intro i h1 h2
    simp only [rvT, List.getElem_mapIdx]
    rw [if_neg (by omega)]
theorem rvT_all (iv : List Int) (num : Int) (h : iv.length = 12) : rvT iv num 8 = nonL iv num := by
  apply List.ext_getElem
  · rw [rvT_len, nonL_len]
  · intro i h1 h2
    have hi : i < 12 := by rw [rvT_len, h] at h1; exact h1
    simp only [rvT, nonL, ovA, List.getElem_mapIdx]
    by_cases hc : 4 ≤ i
    · rw [if_pos (by omega), if_pos (by omega)]
    · rw [if_neg (by omega), if_neg (by omega)]
theorem rvT_get (iv : List Int) (num : Int) (j : Nat) (h : iv.length = 12) (hj : j < 8) : (rvT iv num j)[11 - j]? = some (iv.getD (11 - j) 0) := by
  rw [List.getElem?_eq_getElem (by rw [rvT_len]; omega), List.getD_eq_getElem?_getD, List.getElem?_eq_getElem (by omega)]
  simp only [rvT, List.getElem_mapIdx, Option.getD_some]
  rw [if_neg (by omega)]
theorem be8_at (num : Int) (j : Nat) (hj : j < 8) : (be 8 num).getD (7 - j) 0 = num / 256 ^ j % 256 := by
  rw [List.getD_eq_getElem?_getD, be_at num 8 (7 - j) (by omega), show 8 - 1 - (7 - j) = j by omega]; rfl
theorem rvT_set (iv : List Int) (num : Int) (j : Nat) (h : iv.length = 12) (hj : j < 8) : (rvT iv num j).set (11 - j) (xr (iv.getD (11 - j) 0) (num / 256 ^ j % 256)) = rvT iv num (j + 1) := by
  apply List.ext_getElem
  · rw [List.length_set, rvT_len, rvT_len]
  · intro i h1 h2
    have hi : i < 12 := by rw [List.length_set, rvT_len, h] at h1; exact h1
    rw [List.getElem_set]
    by_cases hc : 11 - j = i
    · subst hc
      rw [if_pos rfl]
      simp only [rvT, List.getElem_mapIdx]
      rw [if_pos (by omega), show 11 - j - 4 = 7 - j by omega, be8_at num j hj, List.getD_eq_getElem?_getD, List.getElem?_eq_getElem (by omega)]; rfl
    · rw [if_neg hc]
      simp only [rvT, List.getElem_mapIdx]
      by_cases hd : 12 ≤ i + j
      · rw [if_pos hd, if_pos (by omega)]
      · rw [if_neg hd, if_neg (by omega)]
set_option maxHeartbeats 8000000 in
theorem rnonce_any (i : Sv) (iv : List Int) (num : Int) (w : World) (hi : In w i iv) (li : i.n = 12) (h0 : 0 ≤ num) (h1 : num ≤ 9223372036854775807) :
    Calls Try.prog 46 #[.slice i.a i.n i.c, .int .i64 num] w fun e w' => ∃ g, e = .returned (.slice (some ⟨g, 0, none⟩) 12 12) ∧ Q w w' ∧ Row w' ⟨some ⟨g, 0, none⟩, 12, 12⟩ (nonL iv num) := by
  obtain ⟨ia, n, ic⟩ := i
  dsimp only at li
  subst li
  have HI := hid hi
  have HL := hid (show iv.length = 12 from hi.l)
  clear hi
  go_enter Try.func46, Try.ntmps46
  go_wp2_with fail
  refine (rcopy_any ia 12 ic iv w HL.out (by omega) HI.out.s).mono ?_
  rintro e w1 ⟨g, rfl, q1, o1, g1⟩
  have T1 := hid (show TI w w1 g 12 (rvT iv num 0) from ⟨q1, by rw [rvT_zero iv num HL.out]; exact o1.row (by intro e; cases e), g1⟩)
  clear q1 o1 g1
  go_wp2
  go_loopw [1, 6] (fun ns is wr => ∃ j : Nat, j ≤ 8 ∧ is = .int .i64 (11 - (j : Int)) ∧ ns = .int .i64 (num / 256 ^ j) ∧ TI w wr g 12 (rvT iv num j)) (fun _ is _ => (intOf is - 3).toNat)
  case atStart => exact ⟨0, by omega, rfl, by simp, T1.out⟩
  case round =>
    clear T1
    obtain ⟨j, hj, rfl, rfl, hT⟩ := hrel
    have HT := hid hT
    clear hT
    by_cases hin : j < 8
    · obtain ⟨hx1, hx2⟩ := row_cell HT.out.r (rvT_get iv num j HL.out hin)
      have HS := hid (rvT_set iv num j HL.out hin)
      have hd := div_bounds num j h0
      have HD := hid (pow_ediv num j)
      obtain ⟨p, hp, KP⟩ : ∃ p : Nat, (11 : Int) - (j : Int) = (p : Int) ∧ Hid (p = 11 - j) := ⟨11 - j, by omega, hid rfl⟩
      have hp4 : (4 : Int) ≤ (p : Int) := by have := KP.out; omega
      have hp4n : 4 ≤ p := by omega
      have hp12 : p < 12 := by have := KP.out; omega
      have hp12i : (p : Int) < 12 := by omega
      rw [← KP.out] at hx1 hx2 HS
      have hd1 := hd.1
      have hd2 : num / 256 ^ j ≤ 9223372036854775807 := Int.le_trans hd.2 h1
      clear hd
      have HW := hid (show ∀ wx, TI w wx g 12 (rvT iv num j) → TI w (wx.setCell ⟨g, p, none⟩ (.int .u8 (bits .xor .u8 (iv.getD p 0) (num / 256 ^ j % 256)))) g 12 (rvT iv num (j + 1)) from fun wx hx => by
        rw [← HS.out]; exact hx.set hp12 _)
      generalize num / 256 ^ j = v at *
      generalize iv.getD p 0 = y at *
      rw [hp]
      go_wp2
      refine ⟨⟨j + 1, by omega, ?_, by rw [HD.out], HW.out _ HT.out⟩, by simp [intOf]; omega⟩
      rw [show (p : Int) - 1 = 11 - ((j + 1 : Nat) : Int) by omega]
    · obtain rfl : j = 8 := by omega
      have HR := hid (show Row wr ⟨some ⟨g, 0, none⟩, 12, 12⟩ (nonL iv num) from by rw [← rvT_all iv num HL.out]; exact HT.out.r)
      go_wp2
      go_ret
      exact ⟨g, rfl, HT.out.q, HR.out⟩
end Go.Proofs.Ytihmlfpfpadfpaa
