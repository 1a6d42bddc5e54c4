/-
  The document's Value and much: contracts that the statements' walks use.
-/
import Derived.Test.YthefijjdffafkaaDoorDoA
import Derived.Test.YthefijjdffafkaaDoorRnS
import Derived.Deep.RegionHeld3
namespace Go.Proofs.YthefijjdffafkaaDoor
open Go.RowKit
set_option linter.unusedVariables false
set_option maxRecDepth 20000

theorem fsS_at (s : ByteArray) (h0 : 0 < s.size) : fsS s = !blk1 (s[0]'h0).toNat := by
  unfold fsS
  have : s.data.toList = (s[0]'h0) :: s.data.toList.tail := by
    cases hl : s.data.toList with
    | nil =>
      have hq : s.data.toList.length = s.size := rfl
      rw [hl] at hq
      have : 0 = s.size := hq
      omega
    | cons b r =>
      have : s.data.toList[0]'(by rw [hl]; simp) = b := by simp [hl]
      rw [← this]; rfl
  rw [this]
set_option maxHeartbeats 8000000 in
theorem rvalue_any (s : ByteArray) (w : World) (hs : s.size ≤ 140737488355328) : Calls Tryd.prog 16 #[.string s] w fun e w' => e = .returned (.bool (vlS s)) ∧ w' = w := by
  have HS := hid hs
  clear hs
  go_enter Tryd.func16, Tryd.ntmps16
  go_wp2
  go_loop [3] (fun i => ∃ k : Nat, k ≤ s.size ∧ i = .int .i64 (k : Int) ∧ okTo insB s k) (fun i => s.size - (intOf i).toNat)
  case atStart => exact ⟨0, by omega, rfl, okTo_zero _ _⟩
  case round =>
    obtain ⟨k, hk, rfl, hok⟩ := hrel
    by_cases hlt : k < s.size
    · have hix := fun W => str_ix s k hlt W
      have hki : (k : Int) < (s.size : Int) := by omega
      have hk0 : (0 : Int) ≤ (k : Int) := by omega
      have hkb : (k : Int) < 140737488355328 := by have := HS.out; omega
      have hcb : (s[k]'hlt).toNat < 256 := UInt8.toNat_lt _
      have HN := hid (fun h => allB_no (p := insB) (s := s) hlt h)
      have HO := hid (fun h => okTo_succ (p := insB) (s := s) hok hlt h)
      clear hok
      generalize (s[k]'hlt).toNat = c at *
      by_cases h1 : c < 32
      · have a1 : (c : Int) < 32 := by omega
        by_cases h9 : c = 9
        · have a2 : ((c : Int) != 9) = false := by simp [h9]
          have a3 : ((c : Int) == 127) = false := by simp; omega
          have HO2 := hid (HO.out (by simp [insB, h9]))
          clear HN HO h9
          go_wp2
          go_round
          case rel => exact ⟨k + 1, by omega, by go_num, HO2.out⟩
          case measure => simp [intOf]; omega
        · have a2 : ((c : Int) != 9) = true := by simp; omega
          have HF := hid (show vlS s = false from by unfold vlS; rw [HN.out (by simp [insB, h9]; omega)]; rfl)
          clear HN HO h9
          go_wp2
          go_ret
          exact ⟨by rw [HF.out]; rfl, rfl⟩
      · have a1 : ¬ (c : Int) < 32 := by omega
        by_cases h7 : c = 127
        · have a3 : ((c : Int) == 127) = true := by simp [h7]
          have HF := hid (show vlS s = false from by unfold vlS; rw [HN.out (by simp [insB, h7])]; rfl)
          clear HN HO h7
          go_wp2
          go_ret
          exact ⟨by rw [HF.out]; rfl, rfl⟩
        · have a3 : ((c : Int) == 127) = false := by simp; omega
          have HO2 := hid (HO.out (by simp [insB, h7]; omega))
          clear HN HO h7
          go_wp2
          go_round
          case rel => exact ⟨k + 1, by omega, by go_num, HO2.out⟩
          case measure => simp [intOf]; omega
    · have hki : ¬ (k : Int) < (s.size : Int) := by omega
      have hv : vlS s = (fsS s && lsS s) := by unfold vlS; rw [okTo_end hok (by omega)]; rfl
      clear hok
      by_cases hz : s.size = 0
      · have hzI : (s.size : Int) = 0 := by omega
        have HF := hid (show vlS s = true from by
          have : s.data.toList = [] := List.eq_nil_of_length_eq_zero (by simpa using hz)
          rw [hv]; unfold fsS lsS; rw [this]; rfl)
        have hzb : ((s.size : Int) == 0) = true := by rw [beq_iff_eq]; omega
        clear hv hz hzI
        go_wp2
        go_ret
        exact ⟨by rw [HF.out]; rfl, rfl⟩
      · have hzb : ((s.size : Int) == 0) = false := by rw [beq_eq_false_iff_ne]; omega
        obtain ⟨m, hm⟩ : ∃ m, s.size = m + 1 := ⟨s.size - 1, by omega⟩
        have h0 : 0 < s.size := by omega
        have hml : m < s.size := by omega
        have i0 := fun W => str_ix s 0 h0 W
        have hz0 : ((0 : Nat) : Int) = 0 := rfl
        rw [hz0] at i0
        have i1 := fun W => str_ix s m hml W
        have hmI : (s.size : Int) - 1 = (m : Int) := by omega
        have hsI : (s.size : Int) ≤ 140737488355328 := by have := HS.out; omega
        have hm0 : (0 : Int) ≤ (m : Int) := by omega
        have hs0 : (0 : Int) < (s.size : Int) := by omega
        have hmL : (m : Int) < (s.size : Int) := by omega
        have hl : lsS s = !blk1 (s[m]'hml).toNat := by
          unfold lsS
          have hl : s.data.toList.length = m + 1 := by simpa using hm
          have : s.data.toList.getLast? = some (s[m]'hml) := by
            rw [List.getLast?_eq_getElem?, hl, Nat.add_sub_cancel, List.getElem?_eq_getElem (by omega)]; rfl
          rw [this]
        rw [fsS_at s h0, hl] at hv
        clear hl hm hz
        generalize (s[0]'h0).toNat = c at *
        generalize (s[m]'hml).toNat = d at *
        by_cases h1 : c = 32
        · have a1 : ((c : Int) != 32) = false := by simp [h1]
          have HF := hid (show vlS s = false from by rw [hv]; simp [blk1, h1])
          clear hv h1
          go_wp2
          go_ret
          exact ⟨by rw [HF.out]; rfl, rfl⟩
        · have a1 : ((c : Int) != 32) = true := by simp; omega
          by_cases h2 : c = 9
          · have a2 : ((c : Int) != 9) = false := by simp [h2]
            have HF := hid (show vlS s = false from by rw [hv]; simp [blk1, h2])
            clear hv h1 h2
            go_wp2
            go_ret
            exact ⟨by rw [HF.out]; rfl, rfl⟩
          · have a2 : ((c : Int) != 9) = true := by simp; omega
            by_cases h3 : d = 32
            · have a3 : ((d : Int) != 32) = false := by simp [h3]
              have HF := hid (show vlS s = false from by rw [hv]; simp [blk1, h3])
              clear hv h1 h2 h3
              go_wp2
              go_ret
              exact ⟨by rw [HF.out]; rfl, rfl⟩
            · have a3 : ((d : Int) != 32) = true := by simp; omega
              by_cases h4 : d = 9
              · have a4 : ((d : Int) != 9) = false := by simp [h4]
                have HF := hid (show vlS s = false from by rw [hv]; simp [blk1, h4])
                clear hv h1 h2 h3 h4
                go_wp2
                go_ret
                exact ⟨by rw [HF.out]; rfl, rfl⟩
              · have a4 : ((d : Int) != 9) = true := by simp; omega
                have HF := hid (show vlS s = true from by rw [hv]; simp [blk1, h1, h2, h3, h4])
                clear hv h1 h2 h3 h4
                go_wp2
                go_ret
                exact ⟨by rw [HF.out]; rfl, rfl⟩
end Go.Proofs.YthefijjdffafkaaDoor
