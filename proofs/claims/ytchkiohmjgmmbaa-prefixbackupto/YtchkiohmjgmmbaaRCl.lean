/-
  What the document's own class, has, Length and nth answer. Contracts that the statements' walks use.
-/
import Derived.Test.YtchkiohmjgmmbaaMat
namespace Go.Proofs.Ytchkiohmjgmmbaa
open Go.RowKit
set_option linter.unusedVariables false
set_option maxRecDepth 100000

/-- The class of a length, in the document's words: of 15 bits none. -/
def clS (l : Nat) : List Int := if l = 5 then hq5 else if l = 6 then hq6 else if l = 7 then hq7 else if l = 8 then hq8 else []
theorem s5 : (⟨#[48, 49, 50, 97, 99, 101, 105, 111, 115, 116]⟩ : ByteArray) = strOfNums hq5 := by kernel_rfl
theorem s6 : (⟨#[32, 37, 45, 46, 47, 51, 52, 53, 54, 55, 56, 57, 61, 65, 95, 98, 100, 102, 103, 104, 108, 109, 110, 112, 114, 117]⟩ : ByteArray) = strOfNums hq6 := by kernel_rfl
theorem s7 : (⟨#[58, 66, 67, 68, 69, 70, 71, 72, 73, 74, 75, 76, 77, 78, 79, 80, 81, 82, 83, 84, 85, 86, 87, 89, 106, 107, 113, 118, 119, 120, 121, 122]⟩ : ByteArray) = strOfNums hq7 := by kernel_rfl
theorem s8 : (⟨#[38, 42, 44, 59, 88, 90]⟩ : ByteArray) = strOfNums hq8 := by kernel_rfl
theorem ret_str {a b : ByteArray} (h : a = b) : Ending.returned (.string a) = .returned (.string b) := by rw [h]
theorem class_any (l : Nat) (w : World) : Calls Try.prog 47 #[.int .i64 l] w fun e w' => e = .returned (.string (strOfNums (clS l))) ∧ w = w' := by
  have HC := hid (show clS l = if l = 5 then hq5 else if l = 6 then hq6 else if l = 7 then hq7 else if l = 8 then hq8 else [] from rfl)
  generalize clS l = m at *
  by_cases h5 : l = 5
  · subst h5
    rw [if_pos rfl] at HC
    go_enter Try.func47, Try.ntmps47
    go_wp2
    go_ret
    exact ⟨ret_str (by rw [HC.out]; exact s5), rfl⟩
  rw [if_neg h5] at HC
  have e5 : ((l : Int) == 5) = false := beq_eq_false_iff_ne.2 (by omega)
  by_cases h6 : l = 6
  · subst h6
    rw [if_pos rfl] at HC
    go_enter Try.func47, Try.ntmps47
    go_wp2
    go_ret
    exact ⟨ret_str (by rw [HC.out]; exact s6), rfl⟩
  rw [if_neg h6] at HC
  have e6 : ((l : Int) == 6) = false := beq_eq_false_iff_ne.2 (by omega)
  by_cases h7 : l = 7
  · subst h7
    rw [if_pos rfl] at HC
    go_enter Try.func47, Try.ntmps47
    go_wp2
    go_ret
    exact ⟨ret_str (by rw [HC.out]; exact s7), rfl⟩
  rw [if_neg h7] at HC
  have e7 : ((l : Int) == 7) = false := beq_eq_false_iff_ne.2 (by omega)
  by_cases h8 : l = 8
  · subst h8
    rw [if_pos rfl] at HC
    go_enter Try.func47, Try.ntmps47
    go_wp2
    go_ret
    exact ⟨ret_str (by rw [HC.out]; exact s8), rfl⟩
  rw [if_neg h8] at HC
  have e8 : ((l : Int) == 8) = false := beq_eq_false_iff_ne.2 (by omega)
  clear h5 h6 h7 h8
  go_enter Try.func47, Try.ntmps47
  go_wp2
  go_ret
  exact ⟨ret_str (by rw [HC.out]; rfl), rfl⟩

set_option maxHeartbeats 2000000 in
theorem has_any (m : List Int) (x : Nat) (w : World) (hm : ∀ y ∈ m, 0 ≤ y ∧ y < 256) (hl : m.length ≤ 1000) : Calls Try.prog 46 #[.string (strOfNums m), .int .u8 (x : Int)] w fun e w' => e = .returned (.bool (decide ((x : Int) ∈ m))) ∧ w = w' := by
  have hsz := str_len m
  have HM := hid hm
  clear hm
  obtain ⟨n, hn⟩ : ∃ n, m.length = n := ⟨_, rfl⟩
  have HN := hid hn
  rw [hn] at hsz hl
  clear hn
  have HG := hid (fun (i y : Nat) (h : m[i]? = some (y : Int)) (hy : y < 256) (W : World) => str_get h hy .i64 W)
  generalize hv : decide ((x : Int) ∈ m) = v
  have HV := hid hv
  clear hv
  generalize strOfNums m = s at *
  go_enter Try.func46, Try.ntmps46
  go_wp2
  go_loopw [5] (fun i wr => wr = w ∧ ∃ k : Nat, k ≤ n ∧ i = .int .i64 k ∧ (x : Int) ∉ m.take k) (fun i _ => ((n : Int) - intOf i).toNat)
  case atStart => exact ⟨rfl, 0, Nat.zero_le _, rfl, by simp⟩
  case round =>
    obtain ⟨rfl, k, hk, rfl, hnot⟩ := hrel
    have HNT := hid hnot
    clear hnot
    by_cases hkn : k < n
    · have hki : (k : Int) < (n : Int) := by omega
      obtain ⟨y, hy1, hy2, hy3⟩ := at_nat HM.out (i := k) (by rw [HN.out]; exact hkn)
      have hix := HG.out k y hy1 hy2
      by_cases hxy : x = y
      · subst hxy
        have hv : v = true := by
          rw [← HV.out]
          exact decide_eq_true (List.mem_of_getElem? hy1)
        have HVV := hid hv
        clear hv hy1 hy2 hy3
        have hee : ((x : Int) == (x : Int)) = true := by simp
        go_wp2
        go_ret
        exact ⟨ret_bool HVV.out.symm, rfl⟩
      · have hee : ((y : Int) == (x : Int)) = false := beq_eq_false_iff_ne.2 (by omega)
        have HNN := hid (show (x : Int) ∉ m.take (k + 1) from by
          rw [List.take_add_one, hy1, Option.toList_some]
          intro h
          rcases List.mem_append.1 h with h | h
          · exact HNT.out h
          · have := List.mem_singleton.1 h; omega)
        clear hy1 hy2 hy3 hxy
        go_wp2
        go_roundw
        case rel => exact ⟨trivial, k + 1, by omega, by go_num, HNN.out⟩
        case measure => simp [intOf]; omega
    · obtain rfl : k = n := by omega
      have hv : v = false := by
        rw [← HV.out]
        have h := HNT.out
        rw [List.take_of_length_le (by rw [HN.out]; exact Nat.le_refl _)] at h
        exact decide_eq_false h
      have HVV := hid hv
      clear hv
      go_wp2
      go_ret
      exact ⟨ret_bool HVV.out.symm, rfl⟩

theorem clS_bd (l : Nat) : (∀ y ∈ clS l, 0 ≤ y ∧ y < 256) ∧ (clS l).length ≤ 1000 := by
  unfold clS
  split
  · exact ⟨mem_bd.1, by decide⟩
  split
  · exact ⟨mem_bd.2.1, by decide⟩
  split
  · exact ⟨mem_bd.2.2.1, by decide⟩
  split
  · exact ⟨mem_bd.2.2.2.1, by decide⟩
  · exact ⟨(fun y h => by cases h), by decide⟩
set_option maxHeartbeats 2000000 in
theorem length_any (x : Nat) (w : World) : Calls Try.prog 37 #[.int .u8 (x : Int)] w fun e w' => e = .returned (.int .i64 (hl (x : Int) : Nat)) ∧ w = w' := by
  have HC := hid class_any
  have HH := hid (fun (l : Nat) (W : World) => has_any (clS l) x W (clS_bd l).1 (clS_bd l).2)
  have HL := hid (show hl (x : Int) = if (x : Int) ∈ hq5 then 5 else if (x : Int) ∈ hq6 then 6 else if (x : Int) ∈ hq7 then 7 else if (x : Int) ∈ hq8 then 8 else 15 from rfl)
  generalize hl (x : Int) = v at *
  go_enter Try.func37, Try.ntmps37
  go_wp2
  go_loopw [3] (fun i wr => wr = w ∧ ∃ l : Nat, 5 ≤ l ∧ l ≤ 9 ∧ i = .int .i64 l ∧ (5 < l → (x : Int) ∉ hq5) ∧ (6 < l → (x : Int) ∉ hq6) ∧ (7 < l → (x : Int) ∉ hq7) ∧ (8 < l → (x : Int) ∉ hq8)) (fun i _ => ((9 : Int) - intOf i).toNat)
  case atStart => exact ⟨rfl, 5, by omega, by omega, rfl, by omega, by omega, by omega, by omega⟩
  case round =>
    obtain ⟨rfl, l, h1, h2, rfl, n5, n6, n7, n8⟩ := hrel
    have N5 := hid n5
    have N6 := hid n6
    have N7 := hid n7
    have N8 := hid n8
    clear n5 n6 n7 n8
    have hcs : l = 5 ∨ l = 6 ∨ l = 7 ∨ l = 8 ∨ l = 9 := by omega
    clear h1 h2
    rcases hcs with rfl | rfl | rfl | rfl | rfl
    · have HX := hid (HH.out 5 wr)
      have HY := hid (HC.out 5 wr)
      rw [show clS 5 = hq5 from rfl] at HX HY
      by_cases hx : (x : Int) ∈ hq5
      · rw [decide_eq_true hx] at HX
        rw [if_pos hx] at HL
        clear hx
        generalize strOfNums hq5 = s at *
        go_wp2_with (first | (go_at_call 47; refine HY.out.mono ?_; rintro e w1 ⟨rfl, rfl⟩) | (go_at_call 46; refine HX.out.mono ?_; rintro e w1 ⟨rfl, rfl⟩))
        go_ret
        exact ⟨ret_int (by rw [HL.out]; rfl), rfl⟩
      · rw [decide_eq_false hx] at HX
        have HN := hid (show (5 < 6 → (x : Int) ∉ hq5) ∧ (6 < 6 → (x : Int) ∉ hq6) ∧ (7 < 6 → (x : Int) ∉ hq7) ∧ (8 < 6 → (x : Int) ∉ hq8) from ⟨fun _ => hx, by omega, by omega, by omega⟩)
        clear hx
        generalize strOfNums hq5 = s at *
        go_wp2_with (first | (go_at_call 47; refine HY.out.mono ?_; rintro e w1 ⟨rfl, rfl⟩) | (go_at_call 46; refine HX.out.mono ?_; rintro e w1 ⟨rfl, rfl⟩))
        go_roundw
        case rel => exact ⟨trivial, 6, by omega, by omega, rfl, HN.out⟩
        case measure => simp [intOf]
    · have HX := hid (HH.out 6 wr)
      have HY := hid (HC.out 6 wr)
      rw [show clS 6 = hq6 from rfl] at HX HY
      by_cases hx : (x : Int) ∈ hq6
      · rw [decide_eq_true hx] at HX
        rw [if_neg (N5.out (by omega)), if_pos hx] at HL
        clear hx
        generalize strOfNums hq6 = s at *
        go_wp2_with (first | (go_at_call 47; refine HY.out.mono ?_; rintro e w1 ⟨rfl, rfl⟩) | (go_at_call 46; refine HX.out.mono ?_; rintro e w1 ⟨rfl, rfl⟩))
        go_ret
        exact ⟨ret_int (by rw [HL.out]; rfl), rfl⟩
      · rw [decide_eq_false hx] at HX
        have HN := hid (show (5 < 7 → (x : Int) ∉ hq5) ∧ (6 < 7 → (x : Int) ∉ hq6) ∧ (7 < 7 → (x : Int) ∉ hq7) ∧ (8 < 7 → (x : Int) ∉ hq8) from ⟨fun _ => N5.out (by omega), fun _ => hx, by omega, by omega⟩)
        clear hx
        generalize strOfNums hq6 = s at *
        go_wp2_with (first | (go_at_call 47; refine HY.out.mono ?_; rintro e w1 ⟨rfl, rfl⟩) | (go_at_call 46; refine HX.out.mono ?_; rintro e w1 ⟨rfl, rfl⟩))
        go_roundw
        case rel => exact ⟨trivial, 7, by omega, by omega, rfl, HN.out⟩
        case measure => simp [intOf]
    · have HX := hid (HH.out 7 wr)
      have HY := hid (HC.out 7 wr)
      rw [show clS 7 = hq7 from rfl] at HX HY
      by_cases hx : (x : Int) ∈ hq7
      · rw [decide_eq_true hx] at HX
        rw [if_neg (N5.out (by omega)), if_neg (N6.out (by omega)), if_pos hx] at HL
        clear hx
        generalize strOfNums hq7 = s at *
        go_wp2_with (first | (go_at_call 47; refine HY.out.mono ?_; rintro e w1 ⟨rfl, rfl⟩) | (go_at_call 46; refine HX.out.mono ?_; rintro e w1 ⟨rfl, rfl⟩))
        go_ret
        exact ⟨ret_int (by rw [HL.out]; rfl), rfl⟩
      · rw [decide_eq_false hx] at HX
        have HN := hid (show (5 < 8 → (x : Int) ∉ hq5) ∧ (6 < 8 → (x : Int) ∉ hq6) ∧ (7 < 8 → (x : Int) ∉ hq7) ∧ (8 < 8 → (x : Int) ∉ hq8) from ⟨fun _ => N5.out (by omega), fun _ => N6.out (by omega), fun _ => hx, by omega⟩)
        clear hx
        generalize strOfNums hq7 = s at *
        go_wp2_with (first | (go_at_call 47; refine HY.out.mono ?_; rintro e w1 ⟨rfl, rfl⟩) | (go_at_call 46; refine HX.out.mono ?_; rintro e w1 ⟨rfl, rfl⟩))
        go_roundw
        case rel => exact ⟨trivial, 8, by omega, by omega, rfl, HN.out⟩
        case measure => simp [intOf]
    · have HX := hid (HH.out 8 wr)
      have HY := hid (HC.out 8 wr)
      rw [show clS 8 = hq8 from rfl] at HX HY
      by_cases hx : (x : Int) ∈ hq8
      · rw [decide_eq_true hx] at HX
        rw [if_neg (N5.out (by omega)), if_neg (N6.out (by omega)), if_neg (N7.out (by omega)), if_pos hx] at HL
        clear hx
        generalize strOfNums hq8 = s at *
        go_wp2_with (first | (go_at_call 47; refine HY.out.mono ?_; rintro e w1 ⟨rfl, rfl⟩) | (go_at_call 46; refine HX.out.mono ?_; rintro e w1 ⟨rfl, rfl⟩))
        go_ret
        exact ⟨ret_int (by rw [HL.out]; rfl), rfl⟩
      · rw [decide_eq_false hx] at HX
        have HN := hid (show (5 < 9 → (x : Int) ∉ hq5) ∧ (6 < 9 → (x : Int) ∉ hq6) ∧ (7 < 9 → (x : Int) ∉ hq7) ∧ (8 < 9 → (x : Int) ∉ hq8) from ⟨fun _ => N5.out (by omega), fun _ => N6.out (by omega), fun _ => N7.out (by omega), fun _ => hx⟩)
        clear hx
        generalize strOfNums hq8 = s at *
        go_wp2_with (first | (go_at_call 47; refine HY.out.mono ?_; rintro e w1 ⟨rfl, rfl⟩) | (go_at_call 46; refine HX.out.mono ?_; rintro e w1 ⟨rfl, rfl⟩))
        go_roundw
        case rel => exact ⟨trivial, 9, by omega, by omega, rfl, HN.out⟩
        case measure => simp [intOf]
    · rw [if_neg (N5.out (by omega)), if_neg (N6.out (by omega)), if_neg (N7.out (by omega)), if_neg (N8.out (by omega))] at HL
      go_wp2
      go_ret
      exact ⟨ret_int (by rw [HL.out]; rfl), rfl⟩
end Go.Proofs.Ytchkiohmjgmmbaa
