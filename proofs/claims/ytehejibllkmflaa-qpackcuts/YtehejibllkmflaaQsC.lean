/-
  What strings.Cut answers at a separator of one byte: a contract that the statements' walks use.
-/
import Derived.Test.YtehejibllkmflaaClR
import Derived.Test.YtehejibllkmflaaQsM
import Derived.Laws.IdiomStrings
import Derived.BigQuiet
namespace Go.Proofs.Ytehejibllkmflaa
open Go.RowKit
set_option linter.unusedVariables false
set_option maxRecDepth 100000

theorem str_take (a : List Int) (k : Nat) : (strOfNums a).extract 0 k = strOfNums (a.take k) := by
  apply ByteArray.ext
  rw [ByteArray.data_extract]
  simp [strOfNums, List.map_take]
theorem str_drop (a : List Int) (k : Nat) : (strOfNums a).extract k (strOfNums a).size = strOfNums (a.drop k) := by
  apply ByteArray.ext
  rw [ByteArray.data_extract, str_len]
  simp [strOfNums, List.map_drop]
  exact List.take_of_length_le (by simp)
theorem str_inj {a b : List Int} (ha : ∀ y ∈ a, 0 ≤ y ∧ y < 256) (hb : ∀ y ∈ b, 0 ≤ y ∧ y < 256) : strOfNums a = strOfNums b ↔ a = b := by
  refine ⟨fun h => ?_, fun h => by rw [h]⟩
  have h1 := congrArg (fun s : ByteArray => s.data.toList.map fun u => (u.toNat : Int)) h
  simp only [strOfNums_data, List.map_map] at h1
  have e : ∀ l : List Int, (∀ y ∈ l, 0 ≤ y ∧ y < 256) → l.map ((fun u : UInt8 => (u.toNat : Int)) ∘ fun n : Int => UInt8.ofNat n.toNat) = l := by
    intro l hl
    have : ∀ y ∈ l, ((fun u : UInt8 => (u.toNat : Int)) ∘ fun n : Int => UInt8.ofNat n.toNat) y = y := by
      intro y hy
      have := hl y hy
      simp only [Function.comp, UInt8.toNat_ofNat']
      omega
    exact (List.map_congr_left (g := id) (fun y hy => this y hy)).trans (List.map_id l)
  rwa [e a ha, e b hb] at h1
theorem str_eq {a b : List Int} (ha : ∀ y ∈ a, 0 ≤ y ∧ y < 256) (hb : ∀ y ∈ b, 0 ≤ y ∧ y < 256) : ((strOfNums a).toList == (strOfNums b).toList) = decide (a = b) := by
  rw [ByteArray.toList_eq, ByteArray.toList_eq]
  by_cases h : a = b
  · subst h; simp
  · rw [decide_eq_false h, beq_eq_false_iff_ne]
    intro e
    exact h ((str_inj ha hb).1 (WideShapes.bytes_inj e))
theorem get_one (c : Nat) (hc : c < 256) (W : World) : (Instr.index 9 (.string (strOfNums [(c : Int)])) (.int .i64 0)).run Try.prog W = .ok (.int .u8 (c : Int)) W := by
  have hb : 0 ≤ (0 : Int) ∧ (0 : Int) < ((strOfNums [(c : Int)]).size : Nat) := by rw [str_len]; simp
  rw [run_index_string W 9 _ .i64 _ (by kernel_rfl), dif_pos hb]
  have e : (strOfNums [(c : Int)])[(0 : Int).toNat]'(by omega) = UInt8.ofNat c := by
    show (strOfNums [(c : Int)]).data[(0 : Int).toNat]'(by simp [strOfNums]) = _
    simp [strOfNums]
  rw [e]
  simp [UInt8.toNat_ofNat', Nat.mod_eq_of_lt hc]

set_option maxHeartbeats 4000000 in
theorem index_any (zs : List Int) (c : Nat) (w : World) (hc : c < 256) (hz : ∀ y ∈ zs, 0 ≤ y ∧ y < 256) :
    Calls Try.prog 66 #[.string (strOfNums zs), .string (strOfNums [(c : Int)])] w fun e w' => e = .returned (.int .i64 (ixI zs c)) ∧ w = w' := by
  have hs1 : (strOfNums [(c : Int)]).size = 1 := by rw [str_len]; rfl
  have hg := get_one c hc
  have HX := hid (ixa_any (strOfNums zs) (c : Int) w)
  rw [ix_eq hz (by omega) (by omega)] at HX
  by_cases he : zs = [(c : Int)]
  · subst he
    have hi : ixI [(c : Int)] c = 0 := by simp [ixI, cutA]
    rw [hi]
    clear HX hi
    generalize strOfNums [(c : Int)] = s at *
    go_enter Try.func66, Try.ntmps66
    go_wp2_with fail
    go_ret
    exact ⟨rfl, rfl⟩
  · have hne : ((strOfNums [(c : Int)]).toList == (strOfNums zs).toList) = false := by
      rw [str_eq (by simp; omega) hz]
      exact decide_eq_false (fun h => he h.symm)
    generalize ixI zs c = v at *
    generalize strOfNums [(c : Int)] = s at *
    generalize strOfNums zs = t at *
    go_enter Try.func66, Try.ntmps66
    go_wp2_with (go_at_call 77; refine HX.out.mono ?_; rintro e w1 ⟨rfl, rfl⟩)
    go_ret
    exact ⟨rfl, rfl⟩
theorem take_run (zs : List Int) (k : Nat) (h : k ≤ zs.length) (W : World) : (Instr.slice 9 (.string (strOfNums zs)) none (some (.int .i64 (k : Int))) none).run Try.prog W = .ok (.string (strOfNums (zs.take k))) W := by
  have hs : (strOfNums zs).size = zs.length := str_len zs
  rw [run_slice_string_h W 9 _ (by kernel_rfl) .i64 k (by omega) (by rw [hs]; omega), ← str_take]
  rfl
theorem drop_run (zs : List Int) (k : Nat) (h : k ≤ zs.length) (W : World) : (Instr.slice 9 (.string (strOfNums zs)) (some (.int .i64 (k : Int))) none none).run Try.prog W = .ok (.string (strOfNums (zs.drop k))) W := by
  have hs : (strOfNums zs).size = zs.length := str_len zs
  rw [run_slice_string_l W 9 _ (by kernel_rfl) .i64 k (by omega) (by rw [hs]; omega), ← str_drop]
  rfl
set_option maxHeartbeats 4000000 in
theorem cutL_any (zs : List Int) (c : Nat) (w : World) (hc : c < 256) (hz : ∀ y ∈ zs, 0 ≤ y ∧ y < 256) (hl : zs.length ≤ 1000000) :
    Calls Try.prog 44 #[.string (strOfNums zs), .string (strOfNums [(c : Int)])] w fun e w' => e = .returned (.tuple #[.string (strOfNums (cutA zs c)), .string (strOfNums (cutR zs c)), .bool (decide ((c : Int) ∈ zs))]) ∧ Q w w' := by
  have hs1 : (strOfNums [(c : Int)]).size = 1 := by rw [str_len]; rfl
  have HX := hid (index_any zs c w hc hz)
  by_cases hm : (c : Int) ∈ zs
  · obtain ⟨h1, h2⟩ := cut_yes hm
    have hA := take_run zs (cutA zs c).length (by omega)
    have hR := drop_run zs ((cutA zs c).length + 1) (by omega)
    rw [← cutA_eq] at hA
    rw [← h2] at hR
    unfold ixI at HX
    rw [if_pos hm] at HX
    rw [decide_eq_true hm]
    have hkl : (cutA zs c).length ≤ 1000000 := by omega
    clear hm h1 h2 hz hl hc
    generalize (cutA zs c).length = k at *
    rw [show ((k + 1 : Nat) : Int) = (k : Int) + 1 by omega] at hR
    generalize strOfNums (cutA zs c) = sa at *
    generalize strOfNums (cutR zs c) = sr at *
    generalize strOfNums [(c : Int)] = s at *
    generalize strOfNums zs = t at *
    have hk0 : (0 : Int) ≤ (k : Int) := by omega
    go_enter Try.func44, Try.ntmps44
    go_wp2_with (go_at_call 66; refine HX.out.mono ?_; rintro e w1 ⟨rfl, rfl⟩)
    go_quiet (fail)
    go_wp2
    go_ret3
    exact ⟨rfl, by first | exact Q.refl _ | exact (Q.refl _).drewN _⟩
  · obtain ⟨h1, h2⟩ := cut_no hm
    unfold ixI at HX
    rw [if_neg hm] at HX
    rw [decide_eq_false hm, h1, h2]
    have he : (⟨#[]⟩ : ByteArray) = strOfNums [] := by kernel_rfl
    rw [← he]
    clear he
    generalize strOfNums [(c : Int)] = s at *
    generalize strOfNums zs = t at *
    go_enter Try.func44, Try.ntmps44
    go_wp2_with (go_at_call 66; refine HX.out.mono ?_; rintro e w1 ⟨rfl, rfl⟩)
    go_ret3
    exact ⟨rfl, Q.refl _⟩
set_option maxHeartbeats 4000000 in
theorem cut_any (zs : List Int) (c : Nat) (w : World) (hc : c < 256) (hz : ∀ y ∈ zs, 0 ≤ y ∧ y < 256) (hl : zs.length ≤ 1000000) :
    Calls Try.prog 24 #[.string (strOfNums zs), .string (strOfNums [(c : Int)])] w fun e w' => e = .returned (.tuple #[.string (strOfNums (cutA zs c)), .string (strOfNums (cutR zs c)), .bool (decide ((c : Int) ∈ zs))]) ∧ Q w w' := by
  have HX := hid (cutL_any zs c w hc hz hl)
  generalize strOfNums (cutA zs c) = sa at *
  generalize strOfNums (cutR zs c) = sr at *
  generalize strOfNums [(c : Int)] = s at *
  generalize strOfNums zs = t at *
  generalize decide ((c : Int) ∈ zs) = b at *
  go_enter Try.func24, Try.ntmps24
  go_wp2_with (go_at_call 44; refine HX.out.mono ?_; rintro e w1 ⟨rfl, q1⟩)
  go_ret3
  exact ⟨rfl, q1⟩
end Go.Proofs.Ytehejibllkmflaa
