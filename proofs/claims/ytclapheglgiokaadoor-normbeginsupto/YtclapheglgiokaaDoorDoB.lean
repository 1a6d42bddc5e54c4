/-
  The document's Value and much: contracts that the statements' walks use.
-/
import Derived.Test.YtclapheglgiokaaDoorDoA
import Derived.Test.YtclapheglgiokaaDoorRnS
import Derived.Deep.RegionHeld3
namespace Go.Proofs.YtclapheglgiokaaDoor
open Go.RowKit
set_option linter.unusedVariables false
set_option maxRecDepth 20000

theorem fsS_at (s : ByteArray) (h0 : 0 < s.size) : fsS s = !blk1 (s[0]'h0).toNat := by
  unfold fsS
  have : s.data.toList = (s[0]'h0) :: s.data.toList.tail := by
    cases hl : s.data.toList with
    | nil =>
      have hq : s.data.toList.length = s.size := rfl
      rw [hl] at hq
      have : 0 = s.size := hq
      omega
    | cons b r =>
      have : s.data.toList[0]'(by rw [hl]; simp) = b := by simp [hl]
      rw [← this]; rfl
  rw [this]
set_option maxHeartbeats 8000000 in
theorem rvalue_any (s : ByteArray) (w : World) (hs : s.size ≤ 140737488355328) : Calls Tryd.prog 56 #[.string s] w fun e w' => e = .returned (.bool (vlS s)) ∧ w' = w := by
  have HS := hid hs
  clear hs
  go_enter Tryd.func56, Tryd.ntmps56
  go_wp2
  go_loop [3] (fun i => ∃ k : Nat, k ≤ s.size ∧ i = .int .i64 (k : Int) ∧ okTo insB s k) (fun i => s.size - (intOf i).toNat)
  case atStart => exact ⟨0, by omega, rfl, okTo_zero _ _⟩
  case round =>
    obtain ⟨k, hk, rfl, hok⟩ := hrel
    by_cases hlt : k < s.size
    · have hix := fun W => str_ix s k hlt W
      have hki : (k : Int) < (s.size : Int) := by omega
      have hk0 : (0 : Int) ≤ (k : Int) := by omega
      have hkb : (k : Int) < 140737488355328 := by have := HS.out; omega
      have hcb : (s[k]'hlt).toNat < 256 := UInt8.toNat_lt _
      have HN := hid (fun h => allB_no (p := insB) (s := s) hlt h)
      have HO := hid (fun h => okTo_succ (p := insB) (s := s) hok hlt h)
      clear hok
      generalize (s[k]'hlt).toNat = c at *
      by_cases h1 : c < 32
      · have a1 : (c : Int) < 32 := by omega
        by_cases h9 : c = 9
        · have a2 : ((c : Int) != 9) = false := by simp [h9]
          have a3 : ((c : Int) == 127) = false := by simp; omega
          have HO2 := hid (HO.out (by simp [insB, h9]))
          clear HN HO h9
          go_wp2
          go_round
          case rel => exact ⟨k + 1, by omega, by go_num, HO2.out⟩
          case measure => simp [intOf]; omega
        · have a2 : ((c : Int) != 9) = true := by simp; omega
          have HF := hid (show vlS s = false from by unfold vlS; rw [HN.out (by simp [insB, h9]; omega)]; rfl)
          clear HN HO h9
          go_wp2
          go_ret
          exact ⟨by rw [HF.out]; rfl, rfl⟩
      · have a1 : ¬ (c : Int) < 32 := by omega
        by_cases h7 : c = 127
        · have a3 : ((c : Int) == 127) = true := by simp [h7]
          have HF := hid (show vlS s = false from by unfold vlS; rw [HN.out (by simp [insB, h7])]; rfl)
          clear HN HO h7
          go_wp2
          go_ret
          exact ⟨by rw [HF.out]; rfl, rfl⟩
        · have a3 : ((c : Int) == 127) = false := by simp; omega
          have HO2 := hid (HO.out (by simp [insB, h7]; omega))
          clear HN HO h7
          go_wp2
          go_round
          case rel => exact ⟨k + 1, by omega, by go_num, HO2.out⟩
          case measure => simp [intOf]; omega
    · have hki : ¬ (k : Int) < (s.size : Int) := by omega
      have hv : vlS s = (fsS s && lsS s) := by unfold vlS; rw [okTo_end hok (by omega)]; rfl
      clear hok
      by_cases hz : s.size = 0
      · have hzI : (s.size : Int) = 0 := by omega
        have HF := hid (show vlS s = true from by
          have : s.data.toList = [] := List.eq_nil_of_length_eq_zero (by simpa using hz)
          rw [hv]; unfold fsS lsS; rw [this]; rfl)
        have hzb : ((s.size : Int) == 0) = true := by rw [beq_iff_eq]; omega
        clear hv hz hzI
        go_wp2
        go_ret
        exact ⟨by rw [HF.out]; rfl, rfl⟩
      · have hzb : ((s.size : Int) == 0) = false := by rw [beq_eq_false_iff_ne]; omega
        obtain ⟨m, hm⟩ : ∃ m, s.size = m + 1 := ⟨s.size - 1, by omega⟩
        have h0 : 0 < s.size := by omega
        have hml : m < s.size := by omega
        have i0 := fun W => str_ix s 0 h0 W
        have hz0 : ((0 : Nat) : Int) = 0 := rfl
        rw [hz0] at i0
        have i1 := fun W => str_ix s m hml W
        have hmI : (s.size : Int) - 1 = (m : Int) := by omega
        have hsI : (s.size : Int) ≤ 140737488355328 := by have := HS.out; omega
        have hm0 : (0 : Int) ≤ (m : Int) := by omega
        have hs0 : (0 : Int) < (s.size : Int) := by omega
        have hmL : (m : Int) < (s.size : Int) := by omega
        have hl : lsS s = !blk1 (s[m]'hml).toNat := by
          unfold lsS
          have hl : s.data.toList.length = m + 1 := by simpa using hm
          have : s.data.toList.getLast? = some (s[m]'hml) := by
            rw [List.getLast?_eq_getElem?, hl, Nat.add_sub_cancel, List.getElem?_eq_getElem (by omega)]; rfl
          rw [this]
        rw [fsS_at s h0, hl] at hv
        clear hl hm hz
        generalize (s[0]'h0).toNat = c at *
        generalize (s[m]'hml).toNat = d at *
        by_cases h1 : c = 32
        · have a1 : ((c : Int) != 32) = false := by simp [h1]
          have HF := hid (show vlS s = false from by rw [hv]; simp [blk1, h1])
          clear hv h1
          go_wp2
          go_ret
          exact ⟨by rw [HF.out]; rfl, rfl⟩
        · have a1 : ((c : Int) != 32) = true := by simp; omega
          by_cases h2 : c = 9
          · have a2 : ((c : Int) != 9) = false := by simp [h2]
            have HF := hid (show vlS s = false from by rw [hv]; simp [blk1, h2])
            clear hv h1 h2
            go_wp2
            go_ret
            exact ⟨by rw [HF.out]; rfl, rfl⟩
          · have a2 : ((c : Int) != 9) = true := by simp; omega
            by_cases h3 : d = 32
            · have a3 : ((d : Int) != 32) = false := by simp [h3]
              have HF := hid (show vlS s = false from by rw [hv]; simp [blk1, h3])
              clear hv h1 h2 h3
              go_wp2
              go_ret
              exact ⟨by rw [HF.out]; rfl, rfl⟩
            · have a3 : ((d : Int) != 32) = true := by simp; omega
              by_cases h4 : d = 9
              · have a4 : ((d : Int) != 9) = false := by simp [h4]
                have HF := hid (show vlS s = false from by rw [hv]; simp [blk1, h4])
                clear hv h1 h2 h3 h4
                go_wp2
                go_ret
                exact ⟨by rw [HF.out]; rfl, rfl⟩
              · have a4 : ((d : Int) != 9) = true := by simp; omega
                have HF := hid (show vlS s = true from by rw [hv]; simp [blk1, h1, h2, h3, h4])
                clear hv h1 h2 h3 h4
                go_wp2
                go_ret
                exact ⟨by rw [HF.out]; rfl, rfl⟩
set_option maxHeartbeats 8000000 in
theorem much_any (x : Sv) (l : List Fd) (c s : Int) (w : World) (h : Fin w x l) : Calls Tryd.prog 38 #[.slice x.a x.n x.c, .int .i64 c, .int .i64 s] w fun e w' => e = .returned (.bool (muc l c s)) ∧ Q w w' := by
  obtain ⟨xa, xn, xc⟩ := x
  have hl := h.len
  dsimp only at hl
  subst hl
  have HX := hid h
  clear h
  go_enter Tryd.func38, Tryd.ntmps38
  go_wp2
  go_loopw [7, 8] (fun n i wr => ∃ k : Nat, k ≤ l.length ∧ i = .int .i64 (k : Int) ∧ n = .int .i64 (sizS (l.take k)) ∧ Q w wr) (fun _ i _ => l.length - (intOf i).toNat)
  case atStart => exact ⟨0, by omega, rfl, rfl, Q.refl w⟩
  case round =>
    obtain ⟨k, hk, rfl, rfl, hq⟩ := hrel
    have HQ := hid hq
    by_cases hlt : k < l.length
    · obtain ⟨g, off, ⟨p1, p2⟩, ha, hp, c0, c1⟩ := (HX.out.q hq).s.at hlt
      dsimp only at ha
      subst ha
      dsimp only at c0 c1
      have hpm : (p1, p2) ∈ l := List.mem_of_getElem? hp
      obtain ⟨hs1, hs2⟩ := HX.out.d _ hpm
      have hs1I : (p1.size : Int) ≤ 140737488355328 := by dsimp only at hs1; omega
      have hs2I : (p2.size : Int) ≤ 140737488355328 := by dsimp only at hs2; omega
      have hw12 : IntKind.i64.wrap ((p1.size : Int) + (p2.size : Int)) = (p1.size : Int) + (p2.size : Int) := by rw [IntKind.wrap_i64]; omega
      have HS := hid (show sizS (l.take (k + 1)) = RowKit.wrap64 (sizS (l.take k) + ((p1.size : Int) + (p2.size : Int))) from by
        rw [List.take_add_one, hp]; exact sizS_snoc _ _)
      have hki : (k : Int) < (l.length : Int) := by omega
      have hk0 : (0 : Int) ≤ (k : Int) := by omega
      have hkb : (k : Int) < 8796093022208 := by have := HX.out.b; omega
      clear hq hp hpm hs1 hs2
      generalize sizS (l.take k) = n at *
      go_wp2_with fail
      go_region
      go_wp2
      go_roundw
      case rel => exact ⟨k + 1, by omega, by go_num, by rw [HS.out], by first | exact HQ.out.drew | exact HQ.out.drewN _⟩
      case measure => simp [intOf]; omega
    · have hki : ¬ (k : Int) < (l.length : Int) := by omega
      have HS := hid (show sizS (l.take k) = sizS l from by rw [List.take_of_length_le (by omega)])
      rw [HS.out]
      have hm : muc l c s = (decide (c < (l.length : Int)) || decide (s < sizS l)) := rfl
      have HM := hid hm
      clear hq hm
      generalize sizS l = n at *
      by_cases h1 : c < (l.length : Int)
      · have HF := hid (show muc l c s = true from by rw [HM.out, decide_eq_true h1]; rfl)
        go_wp2
        go_ret
        exact ⟨by rw [HF.out]; rfl, HQ.out⟩
      · by_cases h2 : s < n
        · have HF := hid (show muc l c s = true from by rw [HM.out, decide_eq_true h2, Bool.or_true])
          go_wp2
          go_ret
          exact ⟨by rw [HF.out]; rfl, HQ.out⟩
        · have HF := hid (show muc l c s = false from by rw [HM.out, decide_eq_false h1, decide_eq_false h2]; rfl)
          go_wp2
          go_ret
          exact ⟨by rw [HF.out]; rfl, HQ.out⟩
end Go.Proofs.YtclapheglgiokaaDoor
