/-
  The document's Length: a contract that the statements' walks use.
-/
import Derived.Test.YtclapheglgiokaaDoorDoD
namespace Go.Proofs.YtclapheglgiokaaDoor
open Go.RowKit
set_option linter.unusedVariables false
set_option maxRecDepth 20000

theorem neS_size2 (s : ByteArray) : neS s = decide (1 ≤ s.size) := by
  unfold neS
  rw [Bool.eq_iff_iff]
  have hz : s.data.toList.length = s.size := rfl
  cases hl : s.data.toList with
  | nil =>
    rw [hl] at hz
    have h0 : 0 = s.size := hz
    rw [← h0]; decide
  | cons b r =>
    rw [hl] at hz
    have h0 : r.length + 1 = s.size := hz
    rw [← h0]; simp
set_option maxHeartbeats 8000000 in
theorem rlen_any (s : ByteArray) (w : World) : Calls Tryd.prog 44 #[.string s] w fun e w' => e = .returned (.int .i64 (lenO s)) ∧ w' = w := by
  have hv : lenO s = if neS s && decide (s.size ≤ 15) && allB dgB s then (numL s.data.toList : Int) else -1 := rfl
  rw [neS_size2] at hv
  by_cases h1 : 1 ≤ s.size
  · by_cases h15 : s.size ≤ 15
    · rw [decide_eq_true h1, decide_eq_true h15] at hv
      have hsn : ∀ k (hk : k < s.size), numL (s.data.toList.take (k + 1)) = numL (s.data.toList.take k) * 10 + ((s[k]'hk).toNat - 48) := by
        intro k hk
        have hk' : k < s.data.toList.length := hk
        rw [List.take_succ_eq_append_getElem hk', numL_snoc]; rfl
      have hn14 : ∀ k, k < s.size → okTo dgB s k → numL (s.data.toList.take k) < 100000000000000 := by
        intro k hk ho
        have h := numL_lt (s.data.toList.take k) (fun b hb => by
          obtain ⟨j, hj, rfl⟩ := List.mem_iff_getElem.1 hb
          have hjk : j < k := by have := hj; rw [List.length_take] at this; omega
          have := ho j (by omega) hjk
          have e : (s.data.toList.take k)[j]'hj = s[j]'(by omega) := by rw [List.getElem_take]; rfl
          rw [e]
          simp [dgB] at this
          omega)
        have hl : (s.data.toList.take k).length = k := by
          have : s.data.toList.length = s.size := rfl
          rw [List.length_take]; omega
        rw [hl] at h
        have : 10 ^ k ≤ 10 ^ 14 := Nat.pow_le_pow_right (by omega) (by omega)
        omega
      have hz1 : ¬ (s.size : Int) < 1 := by omega
      have hz15 : ¬ (15 : Int) < (s.size : Int) := by omega
      have HN14 := hid hn14
      have HSN := hid hsn
      have HV := hid hv
      have H15 := hid h15
      have HL := hid (show s.data.toList.take s.size = s.data.toList from List.take_of_length_le (Nat.le_refl _))
      clear hn14 hsn hv h1 h15
      go_enter Tryd.func44, Tryd.ntmps44
      go_wp2
      go_loop [3, 4] (fun n i => ∃ k : Nat, k ≤ s.size ∧ i = .int .i64 (k : Int) ∧ n = .int .i64 (numL (s.data.toList.take k) : Nat) ∧ okTo dgB s k) (fun _ i => s.size - (intOf i).toNat)
      case atStart => exact ⟨0, by omega, rfl, rfl, okTo_zero _ _⟩
      case round =>
        obtain ⟨k, hk, rfl, rfl, hok⟩ := hrel
        by_cases hlt : k < s.size
        · have hix := fun W => str_ix s k hlt W
          have hki : (k : Int) < (s.size : Int) := by omega
          have hk0 : (0 : Int) ≤ (k : Int) := by omega
          have hkb : (k : Int) < 15 := by have := H15.out; omega
          have hcb : (s[k]'hlt).toNat < 256 := UInt8.toNat_lt _
          have hnb := HN14.out k hlt hok
          have HST := hid (HSN.out k hlt)
          have HN := hid (fun h => allB_no (p := dgB) (s := s) hlt h)
          have HO := hid (fun h => okTo_succ (p := dgB) (s := s) hok hlt h)
          clear hok
          generalize (s[k]'hlt).toNat = c at *
          generalize hg : numL (s.data.toList.take k) = n at *
          clear hg
          by_cases a1 : c < 48
          · have a1i : (c : Int) < 48 := by omega
            have HF := hid (show lenO s = -1 from by rw [HV.out, HN.out (by simp [dgB]; omega)]; rfl)
            clear HN HO a1
            go_wp2
            go_ret
            exact ⟨by rw [HF.out]; rfl, rfl⟩
          · have a1i : ¬ (c : Int) < 48 := by omega
            by_cases a2 : 57 < c
            · have a2i : (57 : Int) < (c : Int) := by omega
              have HF := hid (show lenO s = -1 from by rw [HV.out, HN.out (by simp [dgB]; omega)]; rfl)
              clear HN HO a1 a2
              go_wp2
              go_ret
              exact ⟨by rw [HF.out]; rfl, rfl⟩
            · have a2i : ¬ (57 : Int) < (c : Int) := by omega
              have HO2 := hid (HO.out (by simp [dgB]; omega))
              obtain ⟨d, rfl⟩ : ∃ d, c = d + 48 := ⟨c - 48, by omega⟩
              have HS2 := hid (show numL (s.data.toList.take (k + 1)) = n * 10 + d from by rw [HST.out]; omega)
              have hd9 : d ≤ 9 := by omega
              have hcI : ((d + 48 : Nat) : Int) = (d : Int) + 48 := by omega
              rw [hcI] at hix a1i a2i
              have hw : IntKind.u8.wrap ((d : Int) + 48 - 48) = d := by rw [IntKind.wrap_u8]; omega
              have hd9I : (d : Int) ≤ 9 := by omega
              have hd0 : (0 : Int) ≤ (d : Int) := by omega
              have hn0 : (0 : Int) ≤ (n : Int) := by omega
              have hnI : (n : Int) < 100000000000000 := by omega
              clear HN HO a1 a2 HST hcI hnb hcb
              go_wp2
              go_round
              case rel => exact ⟨k + 1, by omega, by go_num, by rw [HS2.out]; go_num, HO2.out⟩
              case measure => simp [intOf]; omega
        · have hki : ¬ (k : Int) < (s.size : Int) := by omega
          have hke : k = s.size := by omega
          have HF := hid (show lenO s = (numL (s.data.toList.take k) : Int) from by rw [HV.out, okTo_end hok (by omega), hke, HL.out]; rfl)
          clear hok hke
          generalize numL (s.data.toList.take k) = n at *
          go_wp2
          go_ret
          exact ⟨by rw [HF.out]; rfl, rfl⟩
    · have hz1 : ¬ (s.size : Int) < 1 := by omega
      have hz15 : (15 : Int) < (s.size : Int) := by omega
      have HF := hid (show lenO s = -1 from by rw [hv, decide_eq_false h15, Bool.and_false]; rfl)
      clear hv h1 h15
      go_enter Tryd.func44, Tryd.ntmps44
      go_wp2
      go_ret
      exact ⟨by rw [HF.out]; rfl, rfl⟩
  · have hz1 : (s.size : Int) < 1 := by omega
    have HF := hid (show lenO s = -1 from by rw [hv, decide_eq_false h1]; rfl)
    clear hv h1
    go_enter Tryd.func44, Tryd.ntmps44
    go_wp2
    go_ret
    exact ⟨by rw [HF.out]; rfl, rfl⟩
end Go.Proofs.YtclapheglgiokaaDoor
