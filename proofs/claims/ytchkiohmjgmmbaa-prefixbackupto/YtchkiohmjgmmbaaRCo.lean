/-
  What the document's own Code answers: a byte's code as a text of 0 and 1. A contract that the statement's walk uses.
-/
import Derived.Test.YtchkiohmjgmmbaaRSz
import Derived.Test.YtchkiohmjgmmbaaRFd
namespace Go.Proofs.Ytchkiohmjgmmbaa
open Go.RowKit
set_option linter.unusedVariables false
set_option maxRecDepth 100000

theorem str_cat (a b : List Int) : strOfNums a ++ strOfNums b = strOfNums (a ++ b) := by
  apply ByteArray.ext
  simp [strOfNums]
theorem str_take (a : List Int) (k : Nat) : (strOfNums a).extract 0 k = strOfNums (a.take k) := by
  apply ByteArray.ext
  rw [ByteArray.data_extract]
  simp [strOfNums, List.map_take]
theorem str_drop (a : List Int) (k : Nat) : (strOfNums a).extract k (strOfNums a).size = strOfNums (a.drop k) := by
  apply ByteArray.ext
  rw [ByteArray.data_extract, str_len]
  simp [strOfNums, List.map_drop]
  exact List.take_of_length_le (by simp)
theorem idx_take {m : List Int} {j : Nat} {x : Int} (h : m[j]? = some x) (hn : x ∉ m.take j) : m.idxOf x = j := by
  have hj := (List.getElem?_eq_some_iff.1 h).1
  have e : m = m.take j ++ m.drop j := (List.take_append_drop j m).symm
  rw [e, List.idxOf_append, if_neg hn, List.drop_eq_getElem_cons hj, (List.getElem?_eq_some_iff.1 h).2, List.idxOf_cons_self, List.length_take]
  omega
theorem ot_mem {k : Nat} : ∀ y ∈ ot k, y < (k : Int) := by
  intro y hy
  unfold ot at hy
  have h := (List.mem_filter.1 hy).1
  obtain ⟨j, hj, rfl⟩ := List.mem_map.1 h
  have := List.mem_range.1 hj
  omega
theorem idx15 {k : Nat} (hk : k < 256) (h : (k : Int) ∈ hq15) : hq15.idxOf (k : Int) = (ot k).length := by
  refine idx_take (ot_get hk h) ?_
  obtain ⟨r, hr⟩ := ot_pre (256 - k) k
  rw [show k + (256 - k) = 256 by omega, ot_all] at hr
  rw [hr, List.take_left' rfl]
  intro hm
  have := ot_mem _ hm
  omega
set_option maxHeartbeats 4000000 in
/-- The last loop: a number's bits. -/
theorem bits_step (c i : Nat) : bn (i + 1) (c : Int) = ((c / 2 ^ i % 2 : Nat) : Int) :: bn i (c : Int) := by
  rw [bn]
  congr 1
  all_goals (rw [← pow_cast, ← Int.natCast_ediv]; rfl)
theorem str_of_one (w : World) (y : Nat) : (convert 22 9 (.slice (some ⟨w.heap.size, 0, none⟩) 1 1)).run Try.prog (w.alloc (.cells #[.int .u8 (y : Int)] 5)) = .ok (.string (strOfNums [(y : Int)])) (w.alloc (.cells #[.int .u8 (y : Int)] 5)) := by
  refine run_convert_bytes_arg (P := Try.prog) _ 22 5 Try.underlying22 Try.underlying5 w.heap.size 0 1 1 [(y : Int)] rfl (fun i hi => ?_) 9 (by kernel_rfl)
  obtain rfl : i = 0 := by omega
  rw [cell_of_row _ _ _ _ 5 (0, 0) (heap_alloc_new w _)]
  rfl
set_option maxHeartbeats 16000000 in
theorem code_5 (x : Nat) (w : World) (hx : x < 256) (hxl : hl (x : Int) = 5) (hxm : (x : Int) ∈ hq5) : Calls Try.prog 38 #[.int .u8 (x : Int)] w fun e w' => e = .returned (.string (strOfNums (bt (bn 5 (hc (x : Int)))))) ∧ Q w w' := by
  have HLX := hid (length_any x w)
  rw [hxl] at HLX
  have HCL := hid (class_any 5)
  rw [show clS 5 = hq5 from rfl] at HCL
  have HHC := hid (show hc (x : Int) = 0 + ((hq5.idxOf (x : Int) : Nat) : Int) from by unfold hc; rw [hxl]; rfl)
  have hcb := hc_bd hx
  rw [hxl] at hcb
  obtain ⟨cn, hcn⟩ := Int.eq_ofNat_of_zero_le hcb.1
  rw [hcn] at HHC hcb ⊢
  have HCB := hid (show cn ≤ 40000 by have := hcb.2; omega)
  have HXM := hid hxm
  have HG := hid (fun (i y : Nat) (h : hq5[i]? = some (y : Int)) (hy : y < 256) (W : World) => str_get h hy .i64 W)
  have hsz : (strOfNums hq5).size = 10 := by rw [str_len]; rfl
  clear hxl hxm hcb hcn
  generalize hs : strOfNums hq5 = s at *
  clear hs
  go_enter Try.func38, Try.ntmps38
  go_wp2_with (first | (go_at_call 37; refine HLX.out.mono ?_; rintro e w1 ⟨rfl, rfl⟩) | (go_at_call 47; refine (HCL.out _).mono ?_; rintro e w1 ⟨rfl, rfl⟩))
  go_loopw [5, 7] (fun nv yv wr => wr = w ∧ ∃ j : Nat, j ≤ 10 ∧ yv = .int .i64 j ∧ nv = .int .i64 (((0 + j : Nat)) : Int) ∧ (x : Int) ∉ hq5.take j) (fun _ y _ => ((10 : Int) - intOf y).toNat)
  case atStart => exact ⟨rfl, 0, by omega, rfl, rfl, by simp⟩
  case round =>
    obtain ⟨hw, j, hj, rfl, rfl, hnot⟩ := hrel
    replace hw := hw.symm
    subst hw
    have HNT := hid hnot
    clear hnot
    have hjl : j < 10 := by
      rcases Nat.lt_or_ge j 10 with h | h
      · exact h
      · exfalso
        have h2 := HNT.out
        rw [List.take_of_length_le (by show 10 ≤ j; omega)] at h2
        exact h2 HXM.out
    have hji : (j : Int) < 10 := by omega
    obtain ⟨y, hy1, hy2, hy3⟩ := at_nat (m := hq5) mem_bd.1 (i := j) (by show j < 10; exact hjl)
    have hix := HG.out j y hy1 hy2
    by_cases hxy : y = x
    · subst hxy
      have hdx := idx_take hy1 HNT.out
      have hcj : cn = 0 + j := by have h := HHC.out; rw [hdx] at h; omega
      rw [← hcj]
      have hne : ((y : Int) != (y : Int)) = false := by simp
      have QX := hid (Q.refl w)
      clear hy1 hy3 hdx hcj HG HNT HXM HHC HLX HCL
      go_wp2_with fail
      go_loopw [5, 8] (fun nv yv wr => wr = w ∧ nv = .int .i64 (cn : Int)) (fun _ _ _ => 0)
      case atStart => exact ⟨rfl, rfl⟩
      case round =>
        obtain ⟨hw, rfl⟩ := hrel
        replace hw := hw.symm
        subst hw
        go_wp2_with fail
        go_loopw [5, 6, 9] (fun nv sv iv wr => Q w wr ∧ ∃ i : Nat, i ≤ 5 ∧ iv = .int .i64 i ∧ nv = .int .i64 ((cn / 2 ^ i : Nat) : Int) ∧ sv = .string (strOfNums (bt (bn i (cn : Int))))) (fun _ _ i _ => ((5 : Int) - intOf i).toNat)
        case atStart => exact ⟨QX.out, 0, by omega, rfl, by simp, rfl⟩
        case round =>
          obtain ⟨hq, i, hi, rfl, rfl, rfl⟩ := hrel
          have HQ := hid hq
          clear hq
          by_cases hil : i < 5
          · have hii : (i : Int) < 5 := by omega
            obtain ⟨d, hd⟩ : ∃ d : Nat, cn / 2 ^ i = d := ⟨_, rfl⟩
            have hdb : d ≤ 40000 := by rw [← hd]; exact Nat.le_trans (Nat.div_le_self _ _) HCB.out
            have hb := bits_step cn i
            rw [hd] at hb ⊢
            have hd2 : cn / 2 ^ (i + 1) = d / 2 := by rw [Nat.pow_succ, ← Nat.div_div_eq_div_mul, hd]
            have HD2 := hid hd2
            obtain ⟨b, hbb⟩ : ∃ b : Nat, d % 2 = b := ⟨_, rfl⟩
            rw [hbb] at hb
            have hb2 : b < 2 := by omega
            have hmod : (d : Int) % 2 = (b : Int) := by omega
            have hdiv : (d : Int) / 2 = ((d / 2 : Nat) : Int) := by omega
            have hy : (48 : Int) + (b : Int) = ((48 + b : Nat) : Int) := by omega
            have hyw : IntKind.u8.wrap ((48 + b : Nat) : Int) = ((48 + b : Nat) : Int) := by rw [IntKind.wrap_u8]; omega
            have hcv := str_of_one wr (48 + b)
            have HSS := hid (show strOfNums [((48 + b : Nat) : Int)] ++ strOfNums (bt (bn i (cn : Int))) = strOfNums (bt (bn (i + 1) (cn : Int))) from by rw [str_cat, hb]; simp [bt])
            have hs1 : (strOfNums [((48 + b : Nat) : Int)]).size = 1 := by rw [str_len]; rfl
            have hs2 : (strOfNums (bt (bn i (cn : Int)))).size = i := by rw [str_len, bt_len, bn_length]
            have QA := hid (HQ.out.alloc (.cells #[.int .u8 ((48 + b : Nat) : Int)] 5))
            have hadd : ∀ W, (Op.stringOp .add (strOfNums [((48 + b : Nat) : Int)]) (strOfNums (bt (bn i (cn : Int))))).run Try.prog W = .ok (.string (strOfNums (bt (bn (i + 1) (cn : Int))))) W := fun W => by rw [run_string_add_sum W _ _ (by rw [hs1, hs2]; omega), HSS.out]
            clear hd hb hd2 hbb HSS
            generalize hyy : 48 + b = y at *
            clear hyy
            generalize strOfNums [(y : Int)] = s1 at *
            generalize strOfNums (bt (bn i (cn : Int))) = s2 at *
            generalize d / 2 = d2 at *
            go_wp2
            go_roundw
            case rel => exact ⟨QA.out, i + 1, by omega, by go_num, by rw [HD2.out], rfl⟩
            case measure => simp [intOf]; omega
          · obtain rfl : i = 5 := by omega
            go_wp2
            go_ret
            exact ⟨rfl, HQ.out⟩
    · have hne : ((y : Int) != (x : Int)) = true := by simp; omega
      have HNN := hid (show (x : Int) ∉ hq5.take (j + 1) from by
        rw [List.take_add_one, hy1, Option.toList_some]
        intro h
        rcases List.mem_append.1 h with h | h
        · exact HNT.out h
        · have := List.mem_singleton.1 h; omega)
      clear hy1 hy3 hxy
      go_wp2_with fail
      go_roundw
      case rel => exact ⟨trivial, j + 1, by omega, by go_num, congrArg (Value.int .i64) (by omega), HNN.out⟩
      case measure => simp [intOf]; omega
set_option maxHeartbeats 16000000 in
theorem code_6 (x : Nat) (w : World) (hx : x < 256) (hxl : hl (x : Int) = 6) (hxm : (x : Int) ∈ hq6) : Calls Try.prog 38 #[.int .u8 (x : Int)] w fun e w' => e = .returned (.string (strOfNums (bt (bn 6 (hc (x : Int)))))) ∧ Q w w' := by
  have HLX := hid (length_any x w)
  rw [hxl] at HLX
  have HCL := hid (class_any 6)
  rw [show clS 6 = hq6 from rfl] at HCL
  have HHC := hid (show hc (x : Int) = 20 + ((hq6.idxOf (x : Int) : Nat) : Int) from by unfold hc; rw [hxl]; rfl)
  have hcb := hc_bd hx
  rw [hxl] at hcb
  obtain ⟨cn, hcn⟩ := Int.eq_ofNat_of_zero_le hcb.1
  rw [hcn] at HHC hcb ⊢
  have HCB := hid (show cn ≤ 40000 by have := hcb.2; omega)
  have HXM := hid hxm
  have HG := hid (fun (i y : Nat) (h : hq6[i]? = some (y : Int)) (hy : y < 256) (W : World) => str_get h hy .i64 W)
  have hsz : (strOfNums hq6).size = 26 := by rw [str_len]; rfl
  clear hxl hxm hcb hcn
  generalize hs : strOfNums hq6 = s at *
  clear hs
  go_enter Try.func38, Try.ntmps38
  go_wp2_with (first | (go_at_call 37; refine HLX.out.mono ?_; rintro e w1 ⟨rfl, rfl⟩) | (go_at_call 47; refine (HCL.out _).mono ?_; rintro e w1 ⟨rfl, rfl⟩))
  go_loopw [5, 7] (fun nv yv wr => wr = w ∧ ∃ j : Nat, j ≤ 26 ∧ yv = .int .i64 j ∧ nv = .int .i64 (((20 + j : Nat)) : Int) ∧ (x : Int) ∉ hq6.take j) (fun _ y _ => ((26 : Int) - intOf y).toNat)
  case atStart => exact ⟨rfl, 0, by omega, rfl, rfl, by simp⟩
  case round =>
    obtain ⟨hw, j, hj, rfl, rfl, hnot⟩ := hrel
    replace hw := hw.symm
    subst hw
    have HNT := hid hnot
    clear hnot
    have hjl : j < 26 := by
      rcases Nat.lt_or_ge j 26 with h | h
      · exact h
      · exfalso
        have h2 := HNT.out
        rw [List.take_of_length_le (by show 26 ≤ j; omega)] at h2
        exact h2 HXM.out
    have hji : (j : Int) < 26 := by omega
    obtain ⟨y, hy1, hy2, hy3⟩ := at_nat (m := hq6) mem_bd.2.1 (i := j) (by show j < 26; exact hjl)
    have hix := HG.out j y hy1 hy2
    by_cases hxy : y = x
    · subst hxy
      have hdx := idx_take hy1 HNT.out
      have hcj : cn = 20 + j := by have h := HHC.out; rw [hdx] at h; omega
      rw [← hcj]
      have hne : ((y : Int) != (y : Int)) = false := by simp
      have QX := hid (Q.refl w)
      clear hy1 hy3 hdx hcj HG HNT HXM HHC HLX HCL
      go_wp2_with fail
      go_loopw [5, 8] (fun nv yv wr => wr = w ∧ nv = .int .i64 (cn : Int)) (fun _ _ _ => 0)
      case atStart => exact ⟨rfl, rfl⟩
      case round =>
        obtain ⟨hw, rfl⟩ := hrel
        replace hw := hw.symm
        subst hw
        go_wp2_with fail
        go_loopw [5, 6, 9] (fun nv sv iv wr => Q w wr ∧ ∃ i : Nat, i ≤ 6 ∧ iv = .int .i64 i ∧ nv = .int .i64 ((cn / 2 ^ i : Nat) : Int) ∧ sv = .string (strOfNums (bt (bn i (cn : Int))))) (fun _ _ i _ => ((6 : Int) - intOf i).toNat)
        case atStart => exact ⟨QX.out, 0, by omega, rfl, by simp, rfl⟩
        case round =>
          obtain ⟨hq, i, hi, rfl, rfl, rfl⟩ := hrel
          have HQ := hid hq
          clear hq
          by_cases hil : i < 6
          · have hii : (i : Int) < 6 := by omega
            obtain ⟨d, hd⟩ : ∃ d : Nat, cn / 2 ^ i = d := ⟨_, rfl⟩
            have hdb : d ≤ 40000 := by rw [← hd]; exact Nat.le_trans (Nat.div_le_self _ _) HCB.out
            have hb := bits_step cn i
            rw [hd] at hb ⊢
            have hd2 : cn / 2 ^ (i + 1) = d / 2 := by rw [Nat.pow_succ, ← Nat.div_div_eq_div_mul, hd]
            have HD2 := hid hd2
            obtain ⟨b, hbb⟩ : ∃ b : Nat, d % 2 = b := ⟨_, rfl⟩
            rw [hbb] at hb
            have hb2 : b < 2 := by omega
            have hmod : (d : Int) % 2 = (b : Int) := by omega
            have hdiv : (d : Int) / 2 = ((d / 2 : Nat) : Int) := by omega
            have hy : (48 : Int) + (b : Int) = ((48 + b : Nat) : Int) := by omega
            have hyw : IntKind.u8.wrap ((48 + b : Nat) : Int) = ((48 + b : Nat) : Int) := by rw [IntKind.wrap_u8]; omega
            have hcv := str_of_one wr (48 + b)
            have HSS := hid (show strOfNums [((48 + b : Nat) : Int)] ++ strOfNums (bt (bn i (cn : Int))) = strOfNums (bt (bn (i + 1) (cn : Int))) from by rw [str_cat, hb]; simp [bt])
            have hs1 : (strOfNums [((48 + b : Nat) : Int)]).size = 1 := by rw [str_len]; rfl
            have hs2 : (strOfNums (bt (bn i (cn : Int)))).size = i := by rw [str_len, bt_len, bn_length]
            have QA := hid (HQ.out.alloc (.cells #[.int .u8 ((48 + b : Nat) : Int)] 5))
            have hadd : ∀ W, (Op.stringOp .add (strOfNums [((48 + b : Nat) : Int)]) (strOfNums (bt (bn i (cn : Int))))).run Try.prog W = .ok (.string (strOfNums (bt (bn (i + 1) (cn : Int))))) W := fun W => by rw [run_string_add_sum W _ _ (by rw [hs1, hs2]; omega), HSS.out]
            clear hd hb hd2 hbb HSS
            generalize hyy : 48 + b = y at *
            clear hyy
            generalize strOfNums [(y : Int)] = s1 at *
            generalize strOfNums (bt (bn i (cn : Int))) = s2 at *
            generalize d / 2 = d2 at *
            go_wp2
            go_roundw
            case rel => exact ⟨QA.out, i + 1, by omega, by go_num, by rw [HD2.out], rfl⟩
            case measure => simp [intOf]; omega
          · obtain rfl : i = 6 := by omega
            go_wp2
            go_ret
            exact ⟨rfl, HQ.out⟩
    · have hne : ((y : Int) != (x : Int)) = true := by simp; omega
      have HNN := hid (show (x : Int) ∉ hq6.take (j + 1) from by
        rw [List.take_add_one, hy1, Option.toList_some]
        intro h
        rcases List.mem_append.1 h with h | h
        · exact HNT.out h
        · have := List.mem_singleton.1 h; omega)
      clear hy1 hy3 hxy
      go_wp2_with fail
      go_roundw
      case rel => exact ⟨trivial, j + 1, by omega, by go_num, congrArg (Value.int .i64) (by omega), HNN.out⟩
      case measure => simp [intOf]; omega
set_option maxHeartbeats 16000000 in
theorem code_7 (x : Nat) (w : World) (hx : x < 256) (hxl : hl (x : Int) = 7) (hxm : (x : Int) ∈ hq7) : Calls Try.prog 38 #[.int .u8 (x : Int)] w fun e w' => e = .returned (.string (strOfNums (bt (bn 7 (hc (x : Int)))))) ∧ Q w w' := by
  have HLX := hid (length_any x w)
  rw [hxl] at HLX
  have HCL := hid (class_any 7)
  rw [show clS 7 = hq7 from rfl] at HCL
  have HHC := hid (show hc (x : Int) = 92 + ((hq7.idxOf (x : Int) : Nat) : Int) from by unfold hc; rw [hxl]; rfl)
  have hcb := hc_bd hx
  rw [hxl] at hcb
  obtain ⟨cn, hcn⟩ := Int.eq_ofNat_of_zero_le hcb.1
  rw [hcn] at HHC hcb ⊢
  have HCB := hid (show cn ≤ 40000 by have := hcb.2; omega)
  have HXM := hid hxm
  have HG := hid (fun (i y : Nat) (h : hq7[i]? = some (y : Int)) (hy : y < 256) (W : World) => str_get h hy .i64 W)
  have hsz : (strOfNums hq7).size = 32 := by rw [str_len]; rfl
  clear hxl hxm hcb hcn
  generalize hs : strOfNums hq7 = s at *
  clear hs
  go_enter Try.func38, Try.ntmps38
  go_wp2_with (first | (go_at_call 37; refine HLX.out.mono ?_; rintro e w1 ⟨rfl, rfl⟩) | (go_at_call 47; refine (HCL.out _).mono ?_; rintro e w1 ⟨rfl, rfl⟩))
  go_loopw [5, 7] (fun nv yv wr => wr = w ∧ ∃ j : Nat, j ≤ 32 ∧ yv = .int .i64 j ∧ nv = .int .i64 (((92 + j : Nat)) : Int) ∧ (x : Int) ∉ hq7.take j) (fun _ y _ => ((32 : Int) - intOf y).toNat)
  case atStart => exact ⟨rfl, 0, by omega, rfl, rfl, by simp⟩
  case round =>
    obtain ⟨hw, j, hj, rfl, rfl, hnot⟩ := hrel
    replace hw := hw.symm
    subst hw
    have HNT := hid hnot
    clear hnot
    have hjl : j < 32 := by
      rcases Nat.lt_or_ge j 32 with h | h
      · exact h
      · exfalso
        have h2 := HNT.out
        rw [List.take_of_length_le (by show 32 ≤ j; omega)] at h2
        exact h2 HXM.out
    have hji : (j : Int) < 32 := by omega
    obtain ⟨y, hy1, hy2, hy3⟩ := at_nat (m := hq7) mem_bd.2.2.1 (i := j) (by show j < 32; exact hjl)
    have hix := HG.out j y hy1 hy2
    by_cases hxy : y = x
    · subst hxy
      have hdx := idx_take hy1 HNT.out
      have hcj : cn = 92 + j := by have h := HHC.out; rw [hdx] at h; omega
      rw [← hcj]
      have hne : ((y : Int) != (y : Int)) = false := by simp
      have QX := hid (Q.refl w)
      clear hy1 hy3 hdx hcj HG HNT HXM HHC HLX HCL
      go_wp2_with fail
      go_loopw [5, 8] (fun nv yv wr => wr = w ∧ nv = .int .i64 (cn : Int)) (fun _ _ _ => 0)
      case atStart => exact ⟨rfl, rfl⟩
      case round =>
        obtain ⟨hw, rfl⟩ := hrel
        replace hw := hw.symm
        subst hw
        go_wp2_with fail
        go_loopw [5, 6, 9] (fun nv sv iv wr => Q w wr ∧ ∃ i : Nat, i ≤ 7 ∧ iv = .int .i64 i ∧ nv = .int .i64 ((cn / 2 ^ i : Nat) : Int) ∧ sv = .string (strOfNums (bt (bn i (cn : Int))))) (fun _ _ i _ => ((7 : Int) - intOf i).toNat)
        case atStart => exact ⟨QX.out, 0, by omega, rfl, by simp, rfl⟩
        case round =>
          obtain ⟨hq, i, hi, rfl, rfl, rfl⟩ := hrel
          have HQ := hid hq
          clear hq
          by_cases hil : i < 7
          · have hii : (i : Int) < 7 := by omega
            obtain ⟨d, hd⟩ : ∃ d : Nat, cn / 2 ^ i = d := ⟨_, rfl⟩
            have hdb : d ≤ 40000 := by rw [← hd]; exact Nat.le_trans (Nat.div_le_self _ _) HCB.out
            have hb := bits_step cn i
            rw [hd] at hb ⊢
            have hd2 : cn / 2 ^ (i + 1) = d / 2 := by rw [Nat.pow_succ, ← Nat.div_div_eq_div_mul, hd]
            have HD2 := hid hd2
            obtain ⟨b, hbb⟩ : ∃ b : Nat, d % 2 = b := ⟨_, rfl⟩
            rw [hbb] at hb
            have hb2 : b < 2 := by omega
            have hmod : (d : Int) % 2 = (b : Int) := by omega
            have hdiv : (d : Int) / 2 = ((d / 2 : Nat) : Int) := by omega
            have hy : (48 : Int) + (b : Int) = ((48 + b : Nat) : Int) := by omega
            have hyw : IntKind.u8.wrap ((48 + b : Nat) : Int) = ((48 + b : Nat) : Int) := by rw [IntKind.wrap_u8]; omega
            have hcv := str_of_one wr (48 + b)
            have HSS := hid (show strOfNums [((48 + b : Nat) : Int)] ++ strOfNums (bt (bn i (cn : Int))) = strOfNums (bt (bn (i + 1) (cn : Int))) from by rw [str_cat, hb]; simp [bt])
            have hs1 : (strOfNums [((48 + b : Nat) : Int)]).size = 1 := by rw [str_len]; rfl
            have hs2 : (strOfNums (bt (bn i (cn : Int)))).size = i := by rw [str_len, bt_len, bn_length]
            have QA := hid (HQ.out.alloc (.cells #[.int .u8 ((48 + b : Nat) : Int)] 5))
            have hadd : ∀ W, (Op.stringOp .add (strOfNums [((48 + b : Nat) : Int)]) (strOfNums (bt (bn i (cn : Int))))).run Try.prog W = .ok (.string (strOfNums (bt (bn (i + 1) (cn : Int))))) W := fun W => by rw [run_string_add_sum W _ _ (by rw [hs1, hs2]; omega), HSS.out]
            clear hd hb hd2 hbb HSS
            generalize hyy : 48 + b = y at *
            clear hyy
            generalize strOfNums [(y : Int)] = s1 at *
            generalize strOfNums (bt (bn i (cn : Int))) = s2 at *
            generalize d / 2 = d2 at *
            go_wp2
            go_roundw
            case rel => exact ⟨QA.out, i + 1, by omega, by go_num, by rw [HD2.out], rfl⟩
            case measure => simp [intOf]; omega
          · obtain rfl : i = 7 := by omega
            go_wp2
            go_ret
            exact ⟨rfl, HQ.out⟩
    · have hne : ((y : Int) != (x : Int)) = true := by simp; omega
      have HNN := hid (show (x : Int) ∉ hq7.take (j + 1) from by
        rw [List.take_add_one, hy1, Option.toList_some]
        intro h
        rcases List.mem_append.1 h with h | h
        · exact HNT.out h
        · have := List.mem_singleton.1 h; omega)
      clear hy1 hy3 hxy
      go_wp2_with fail
      go_roundw
      case rel => exact ⟨trivial, j + 1, by omega, by go_num, congrArg (Value.int .i64) (by omega), HNN.out⟩
      case measure => simp [intOf]; omega
set_option maxHeartbeats 16000000 in
theorem code_8 (x : Nat) (w : World) (hx : x < 256) (hxl : hl (x : Int) = 8) (hxm : (x : Int) ∈ hq8) : Calls Try.prog 38 #[.int .u8 (x : Int)] w fun e w' => e = .returned (.string (strOfNums (bt (bn 8 (hc (x : Int)))))) ∧ Q w w' := by
  have HLX := hid (length_any x w)
  rw [hxl] at HLX
  have HCL := hid (class_any 8)
  rw [show clS 8 = hq8 from rfl] at HCL
  have HHC := hid (show hc (x : Int) = 248 + ((hq8.idxOf (x : Int) : Nat) : Int) from by unfold hc; rw [hxl]; rfl)
  have hcb := hc_bd hx
  rw [hxl] at hcb
  obtain ⟨cn, hcn⟩ := Int.eq_ofNat_of_zero_le hcb.1
  rw [hcn] at HHC hcb ⊢
  have HCB := hid (show cn ≤ 40000 by have := hcb.2; omega)
  have HXM := hid hxm
  have HG := hid (fun (i y : Nat) (h : hq8[i]? = some (y : Int)) (hy : y < 256) (W : World) => str_get h hy .i64 W)
  have hsz : (strOfNums hq8).size = 6 := by rw [str_len]; rfl
  clear hxl hxm hcb hcn
  generalize hs : strOfNums hq8 = s at *
  clear hs
  go_enter Try.func38, Try.ntmps38
  go_wp2_with (first | (go_at_call 37; refine HLX.out.mono ?_; rintro e w1 ⟨rfl, rfl⟩) | (go_at_call 47; refine (HCL.out _).mono ?_; rintro e w1 ⟨rfl, rfl⟩))
  go_loopw [5, 7] (fun nv yv wr => wr = w ∧ ∃ j : Nat, j ≤ 6 ∧ yv = .int .i64 j ∧ nv = .int .i64 (((248 + j : Nat)) : Int) ∧ (x : Int) ∉ hq8.take j) (fun _ y _ => ((6 : Int) - intOf y).toNat)
  case atStart => exact ⟨rfl, 0, by omega, rfl, rfl, by simp⟩
  case round =>
    obtain ⟨hw, j, hj, rfl, rfl, hnot⟩ := hrel
    replace hw := hw.symm
    subst hw
    have HNT := hid hnot
    clear hnot
    have hjl : j < 6 := by
      rcases Nat.lt_or_ge j 6 with h | h
      · exact h
      · exfalso
        have h2 := HNT.out
        rw [List.take_of_length_le (by show 6 ≤ j; omega)] at h2
        exact h2 HXM.out
    have hji : (j : Int) < 6 := by omega
    obtain ⟨y, hy1, hy2, hy3⟩ := at_nat (m := hq8) mem_bd.2.2.2.1 (i := j) (by show j < 6; exact hjl)
    have hix := HG.out j y hy1 hy2
    by_cases hxy : y = x
    · subst hxy
      have hdx := idx_take hy1 HNT.out
      have hcj : cn = 248 + j := by have h := HHC.out; rw [hdx] at h; omega
      rw [← hcj]
      have hne : ((y : Int) != (y : Int)) = false := by simp
      have QX := hid (Q.refl w)
      clear hy1 hy3 hdx hcj HG HNT HXM HHC HLX HCL
      go_wp2_with fail
      go_loopw [5, 8] (fun nv yv wr => wr = w ∧ nv = .int .i64 (cn : Int)) (fun _ _ _ => 0)
      case atStart => exact ⟨rfl, rfl⟩
      case round =>
        obtain ⟨hw, rfl⟩ := hrel
        replace hw := hw.symm
        subst hw
        go_wp2_with fail
        go_loopw [5, 6, 9] (fun nv sv iv wr => Q w wr ∧ ∃ i : Nat, i ≤ 8 ∧ iv = .int .i64 i ∧ nv = .int .i64 ((cn / 2 ^ i : Nat) : Int) ∧ sv = .string (strOfNums (bt (bn i (cn : Int))))) (fun _ _ i _ => ((8 : Int) - intOf i).toNat)
        case atStart => exact ⟨QX.out, 0, by omega, rfl, by simp, rfl⟩
        case round =>
          obtain ⟨hq, i, hi, rfl, rfl, rfl⟩ := hrel
          have HQ := hid hq
          clear hq
          by_cases hil : i < 8
          · have hii : (i : Int) < 8 := by omega
            obtain ⟨d, hd⟩ : ∃ d : Nat, cn / 2 ^ i = d := ⟨_, rfl⟩
            have hdb : d ≤ 40000 := by rw [← hd]; exact Nat.le_trans (Nat.div_le_self _ _) HCB.out
            have hb := bits_step cn i
            rw [hd] at hb ⊢
            have hd2 : cn / 2 ^ (i + 1) = d / 2 := by rw [Nat.pow_succ, ← Nat.div_div_eq_div_mul, hd]
            have HD2 := hid hd2
            obtain ⟨b, hbb⟩ : ∃ b : Nat, d % 2 = b := ⟨_, rfl⟩
            rw [hbb] at hb
            have hb2 : b < 2 := by omega
            have hmod : (d : Int) % 2 = (b : Int) := by omega
            have hdiv : (d : Int) / 2 = ((d / 2 : Nat) : Int) := by omega
            have hy : (48 : Int) + (b : Int) = ((48 + b : Nat) : Int) := by omega
            have hyw : IntKind.u8.wrap ((48 + b : Nat) : Int) = ((48 + b : Nat) : Int) := by rw [IntKind.wrap_u8]; omega
            have hcv := str_of_one wr (48 + b)
            have HSS := hid (show strOfNums [((48 + b : Nat) : Int)] ++ strOfNums (bt (bn i (cn : Int))) = strOfNums (bt (bn (i + 1) (cn : Int))) from by rw [str_cat, hb]; simp [bt])
            have hs1 : (strOfNums [((48 + b : Nat) : Int)]).size = 1 := by rw [str_len]; rfl
            have hs2 : (strOfNums (bt (bn i (cn : Int)))).size = i := by rw [str_len, bt_len, bn_length]
            have QA := hid (HQ.out.alloc (.cells #[.int .u8 ((48 + b : Nat) : Int)] 5))
            have hadd : ∀ W, (Op.stringOp .add (strOfNums [((48 + b : Nat) : Int)]) (strOfNums (bt (bn i (cn : Int))))).run Try.prog W = .ok (.string (strOfNums (bt (bn (i + 1) (cn : Int))))) W := fun W => by rw [run_string_add_sum W _ _ (by rw [hs1, hs2]; omega), HSS.out]
            clear hd hb hd2 hbb HSS
            generalize hyy : 48 + b = y at *
            clear hyy
            generalize strOfNums [(y : Int)] = s1 at *
            generalize strOfNums (bt (bn i (cn : Int))) = s2 at *
            generalize d / 2 = d2 at *
            go_wp2
            go_roundw
            case rel => exact ⟨QA.out, i + 1, by omega, by go_num, by rw [HD2.out], rfl⟩
            case measure => simp [intOf]; omega
          · obtain rfl : i = 8 := by omega
            go_wp2
            go_ret
            exact ⟨rfl, HQ.out⟩
    · have hne : ((y : Int) != (x : Int)) = true := by simp; omega
      have HNN := hid (show (x : Int) ∉ hq8.take (j + 1) from by
        rw [List.take_add_one, hy1, Option.toList_some]
        intro h
        rcases List.mem_append.1 h with h | h
        · exact HNT.out h
        · have := List.mem_singleton.1 h; omega)
      clear hy1 hy3 hxy
      go_wp2_with fail
      go_roundw
      case rel => exact ⟨trivial, j + 1, by omega, by go_num, congrArg (Value.int .i64) (by omega), HNN.out⟩
      case measure => simp [intOf]; omega
set_option maxHeartbeats 16000000 in
theorem code_15 (x : Nat) (w : World) (hx : x < 256) (hxl : hl (x : Int) = 15) : Calls Try.prog 38 #[.int .u8 (x : Int)] w fun e w' => e = .returned (.string (strOfNums (bt (bn 15 (hc (x : Int)))))) ∧ Q w w' := by
  have HLN := hid length_any
  have HLX := hid (length_any x w)
  rw [hxl] at HLX
  have HCL := hid (class_any 15)
  rw [show clS 15 = [] from rfl] at HCL
  have hxm : (x : Int) ∈ hq15 := of_decide_eq_true ((hl15 hx).symm.trans (decide_eq_true hxl))
  have HHC := hid (show hc (x : Int) = 32512 + (((ot x).length : Nat) : Int) from by unfold hc; rw [hxl]; show (32512 : Int) + ((hq15.idxOf (x : Int) : Nat) : Int) = _; rw [idx15 hx hxm])
  have hcb := hc_bd hx
  rw [hxl] at hcb
  obtain ⟨cn, hcn⟩ := Int.eq_ofNat_of_zero_le hcb.1
  rw [hcn] at HHC hcb ⊢
  have HCB := hid (show cn ≤ 40000 by have := hcb.2; omega)
  clear hxl hxm hcb hcn
  generalize hs : strOfNums [] = s at HCL
  clear hs
  go_enter Try.func38, Try.ntmps38
  go_wp2_with (first | (go_at_call 37; refine HLX.out.mono ?_; rintro e w1 ⟨rfl, rfl⟩) | (go_at_call 47; refine (HCL.out _).mono ?_; rintro e w1 ⟨rfl, rfl⟩))
  go_loopw [5, 7] (fun nv yv wr => wr = w ∧ nv = .int .i64 32512) (fun _ _ _ => 0)
  case atStart => exact ⟨rfl, rfl⟩
  case round =>
    obtain ⟨hw, rfl⟩ := hrel
    replace hw := hw.symm
    subst hw
    go_wp2_with fail
    go_loopw [5, 8] (fun nv yv wr => wr = w ∧ ∃ j : Nat, j ≤ x ∧ yv = .int .i64 j ∧ nv = .int .i64 ((32512 + (ot j).length : Nat) : Int)) (fun _ y _ => ((x : Int) - intOf y).toNat)
    case atStart => exact ⟨rfl, 0, by omega, rfl, rfl⟩
    case round =>
      obtain ⟨hw, j, hj, rfl, rfl⟩ := hrel
      replace hw := hw.symm
      subst hw
      by_cases hjx : j < x
      · have hji : (j : Int) < (x : Int) := by omega
        have hwk : IntKind.u8.wrap (j : Int) = j := by rw [IntKind.wrap_u8]; omega
        have h15 := hl15 (show j < 256 by omega)
        have HLK := hid (HLN.out j w)
        have hos := ot_succ j
        have hol := ot_len j
        by_cases hm : (j : Int) ∈ hq15
        · rw [decide_eq_true hm] at h15
          have h15' : hl (j : Int) = 15 := of_decide_eq_true h15
          rw [h15'] at HLK
          rw [if_pos hm] at hos
          have HO := hid (show (ot (j + 1)).length = (ot j).length + 1 from by rw [hos, List.length_append]; rfl)
          clear h15 h15' hm hos
          generalize (ot j).length = o at *
          go_wp2_with (go_at_call 37; refine HLK.out.mono ?_; rintro e w1 ⟨rfl, rfl⟩)
          go_roundw
          case rel => exact ⟨trivial, j + 1, by omega, by go_num, congrArg (Value.int .i64) (by rw [HO.out]; omega)⟩
          case measure => simp [intOf]; omega
        · rw [decide_eq_false hm] at h15
          have h15' : ¬ hl (j : Int) = 15 := of_decide_eq_false h15
          rw [if_neg hm] at hos
          have HO := hid (show (ot (j + 1)).length = (ot j).length from by rw [hos])
          generalize hl (j : Int) = l at *
          have hle : ((l : Int) == 15) = false := beq_eq_false_iff_ne.2 (by omega)
          clear h15 h15' hm hos
          generalize (ot j).length = o at *
          go_wp2_with (go_at_call 37; refine HLK.out.mono ?_; rintro e w1 ⟨rfl, rfl⟩)
          go_roundw
          case rel => exact ⟨trivial, j + 1, by omega, by go_num, by rw [HO.out]; exact congrArg (Value.int .i64) (by omega)⟩
          case measure => simp [intOf]; omega
      · obtain rfl : j = x := by omega
        have hcj : 32512 + (ot j).length = cn := by have h := HHC.out; omega
        rw [hcj]
        have QX := hid (Q.refl w)
        clear hcj HHC HLX HCL HLN
        have hjj : decide ((j : Int) < (j : Int)) = false := by simp
        go_wp2_with fail
        go_loopw [5, 6, 9] (fun nv sv iv wr => Q w wr ∧ ∃ i : Nat, i ≤ 15 ∧ iv = .int .i64 i ∧ nv = .int .i64 ((cn / 2 ^ i : Nat) : Int) ∧ sv = .string (strOfNums (bt (bn i (cn : Int))))) (fun _ _ i _ => ((15 : Int) - intOf i).toNat)
        case atStart => exact ⟨QX.out, 0, by omega, rfl, by simp, rfl⟩
        case round =>
          obtain ⟨hq, i, hi, rfl, rfl, rfl⟩ := hrel
          have HQ := hid hq
          clear hq
          by_cases hil : i < 15
          · have hii : (i : Int) < 15 := by omega
            obtain ⟨d, hd⟩ : ∃ d : Nat, cn / 2 ^ i = d := ⟨_, rfl⟩
            have hdb : d ≤ 40000 := by rw [← hd]; exact Nat.le_trans (Nat.div_le_self _ _) HCB.out
            have hb := bits_step cn i
            rw [hd] at hb ⊢
            have hd2 : cn / 2 ^ (i + 1) = d / 2 := by rw [Nat.pow_succ, ← Nat.div_div_eq_div_mul, hd]
            have HD2 := hid hd2
            obtain ⟨b, hbb⟩ : ∃ b : Nat, d % 2 = b := ⟨_, rfl⟩
            rw [hbb] at hb
            have hb2 : b < 2 := by omega
            have hmod : (d : Int) % 2 = (b : Int) := by omega
            have hdiv : (d : Int) / 2 = ((d / 2 : Nat) : Int) := by omega
            have hy : (48 : Int) + (b : Int) = ((48 + b : Nat) : Int) := by omega
            have hyw : IntKind.u8.wrap ((48 + b : Nat) : Int) = ((48 + b : Nat) : Int) := by rw [IntKind.wrap_u8]; omega
            have hcv := str_of_one wr (48 + b)
            have HSS := hid (show strOfNums [((48 + b : Nat) : Int)] ++ strOfNums (bt (bn i (cn : Int))) = strOfNums (bt (bn (i + 1) (cn : Int))) from by rw [str_cat, hb]; simp [bt])
            have hs1 : (strOfNums [((48 + b : Nat) : Int)]).size = 1 := by rw [str_len]; rfl
            have hs2 : (strOfNums (bt (bn i (cn : Int)))).size = i := by rw [str_len, bt_len, bn_length]
            have QA := hid (HQ.out.alloc (.cells #[.int .u8 ((48 + b : Nat) : Int)] 5))
            have hadd : ∀ W, (Op.stringOp .add (strOfNums [((48 + b : Nat) : Int)]) (strOfNums (bt (bn i (cn : Int))))).run Try.prog W = .ok (.string (strOfNums (bt (bn (i + 1) (cn : Int))))) W := fun W => by rw [run_string_add_sum W _ _ (by rw [hs1, hs2]; omega), HSS.out]
            clear hd hb hd2 hbb HSS
            generalize hyy : 48 + b = y at *
            clear hyy
            generalize strOfNums [(y : Int)] = s1 at *
            generalize strOfNums (bt (bn i (cn : Int))) = s2 at *
            generalize d / 2 = d2 at *
            go_wp2
            go_roundw
            case rel => exact ⟨QA.out, i + 1, by omega, by go_num, by rw [HD2.out], rfl⟩
            case measure => simp [intOf]; omega
          · obtain rfl : i = 15 := by omega
            go_wp2
            go_ret
            exact ⟨rfl, HQ.out⟩
/-- A byte's code, as a text of 0 and 1. -/
theorem code_any (x : Nat) (w : World) (hx : x < 256) : Calls Try.prog 38 #[.int .u8 (x : Int)] w fun e w' => e = .returned (.string (strOfNums (bt (bn (hl (x : Int)) (hc (x : Int)))))) ∧ Q w w' := by
  have key : ∀ l, hl (x : Int) = l → (l = 5 → (x : Int) ∈ hq5) ∧ (l = 6 → (x : Int) ∈ hq6) ∧ (l = 7 → (x : Int) ∈ hq7) ∧ (l = 8 → (x : Int) ∈ hq8) := by
    intro l h
    unfold hl at h
    split at h
    · next hh => exact ⟨fun _ => hh, by omega, by omega, by omega⟩
    split at h
    · next hh => exact ⟨by omega, fun _ => hh, by omega, by omega⟩
    split at h
    · next hh => exact ⟨by omega, by omega, fun _ => hh, by omega⟩
    split at h
    · next hh => exact ⟨by omega, by omega, by omega, fun _ => hh⟩
    · exact ⟨by omega, by omega, by omega, by omega⟩
  rcases hl_cases (x : Int) with h | h | h | h | h
  · rw [h]; exact code_5 x w hx h ((key 5 h).1 rfl)
  · rw [h]; exact code_6 x w hx h ((key 6 h).2.1 rfl)
  · rw [h]; exact code_7 x w hx h ((key 7 h).2.2.1 rfl)
  · rw [h]; exact code_8 x w hx h ((key 8 h).2.2.2 rfl)
  · rw [h]; exact code_15 x w hx h
end Go.Proofs.Ytchkiohmjgmmbaa
