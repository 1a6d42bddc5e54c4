/-
  The document's path, Length: contracts that the statements' walks use.
-/
import Derived.Test.YtclapheglgiokaaDoorDoD
namespace Go.Proofs.YtclapheglgiokaaDoor
open Go.RowKit
set_option linter.unusedVariables false
set_option maxRecDepth 20000

theorem neS_size' (s : ByteArray) : neS s = decide (1 ≤ s.size) := by
  unfold neS
  rw [Bool.eq_iff_iff]
  have hz : s.data.toList.length = s.size := rfl
  cases hl : s.data.toList with
  | nil =>
    rw [hl] at hz
    have h0 : 0 = s.size := hz
    rw [← h0]; decide
  | cons b r =>
    rw [hl] at hz
    have h0 : r.length + 1 = s.size := hz
    rw [← h0]; simp
theorem slS_at (s : ByteArray) (h0 : 0 < s.size) : slS s = decide ((s[0]'h0).toNat = 47) := by
  unfold slS
  have : s.data.toList = (s[0]'h0) :: s.data.toList.tail := by
    cases hl : s.data.toList with
    | nil =>
      have hq : s.data.toList.length = s.size := rfl
      rw [hl] at hq
      have : 0 = s.size := hq
      omega
    | cons b r =>
      have : s.data.toList[0]'(by rw [hl]; simp) = b := by simp [hl]
      rw [← this]; rfl
  rw [this]
theorem slS_nil (s : ByteArray) (h0 : ¬ 1 ≤ s.size) : slS s = false := by
  unfold slS
  have : s.data.toList = [] := List.eq_nil_of_length_eq_zero (by have : s.data.toList.length = s.size := rfl; omega)
  rw [this]
set_option maxHeartbeats 8000000 in
theorem rpath_any (m s : ByteArray) (w : World) (hs : s.size ≤ 140737488355328) : Calls Tryd.prog 42 #[.string m, .string s] w fun e w' => e = .returned (.bool (paS m s)) ∧ w' = w := by
  have HS := hid hs
  have h1 : (m.toList == [79, 80, 84, 73, 79, 78, 83]) = eqS m kOPT := beq_lit m _
  have h2 : (s.toList == [42]) = eqS s kStar := beq_lit s _
  have hp : paS m s = ((eqS m kOPT && eqS s kStar) || (slS s && allB ptB s)) := rfl
  clear hs
  generalize eqS m kOPT = b1 at *
  generalize eqS s kStar = b2 at *
  by_cases hb : (b1 && b2) = true
  · have HP := hid (show paS m s = true from by rw [hp, hb]; rfl)
    obtain ⟨rfl, rfl⟩ : b1 = true ∧ b2 = true := by cases b1 <;> cases b2 <;> simp at hb ⊢
    clear hp hb
    go_enter Tryd.func42, Tryd.ntmps42
    go_wp2
    go_ret
    exact ⟨by rw [HP.out]; rfl, rfl⟩
  · have HP := hid (show paS m s = (slS s && allB ptB s) from by rw [hp]; cases h : (b1 && b2) with
      | true => exact absurd h hb
      | false => rfl)
    have HB := hid hb
    clear hp hb
    by_cases hz : 1 ≤ s.size
    · have h0 : 0 < s.size := hz
      have i0 := fun W => str_ix s 0 h0 W
      have hz0 : ((0 : Nat) : Int) = 0 := rfl
      rw [hz0] at i0
      have hzi : ¬ (s.size : Int) < 1 := by omega
      have HL := hid (slS_at s h0)
      have HIx := hid (fun k (hk : k < s.size) W => str_ix s k hk W)
      generalize hcc : (s[0]'h0).toNat = d at *
      clear hcc
      by_cases hd : d = 47
      · have hdb : ((d : Int) != 47) = false := by simp [hd]
        have HP2 := hid (show paS m s = allB ptB s from by rw [HP.out, HL.out, decide_eq_true hd]; rfl)
        clear HP HL hd
        cases b1 <;> cases b2
        all_goals (first | (exact absurd rfl HB.out) | skip)
        all_goals
          go_enter Tryd.func42, Tryd.ntmps42
          go_wp2
          clear i0
          go_loop [5] (fun i => ∃ k : Nat, k ≤ s.size ∧ i = .int .i64 (k : Int) ∧ okTo ptB s k) (fun i => s.size - (intOf i).toNat)
          case atStart => exact ⟨0, by omega, rfl, okTo_zero _ _⟩
          case round =>
            obtain ⟨k, hk, rfl, hok⟩ := hrel
            by_cases hlt : k < s.size
            · have hix := HIx.out k hlt
              have hki : (k : Int) < (s.size : Int) := by omega
              have hk0 : (0 : Int) ≤ (k : Int) := by omega
              have hkb : (k : Int) < 140737488355328 := by have := HS.out; omega
              have hcb : (s[k]'hlt).toNat < 256 := UInt8.toNat_lt _
              have HN := hid (fun h => allB_no (p := ptB) (s := s) hlt h)
              have HO := hid (fun h => okTo_succ (p := ptB) (s := s) hok hlt h)
              clear hok
              generalize (s[k]'hlt).toNat = c at *
              by_cases a1 : c < 33
              · have a1i : (c : Int) < 33 := by omega
                have HF := hid (show paS m s = false from by rw [HP2.out]; exact HN.out (by simp [ptB]; omega))
                clear HN HO a1
                go_wp2
                go_ret
                exact ⟨by rw [HF.out]; rfl, rfl⟩
              · have a1i : ¬ (c : Int) < 33 := by omega
                by_cases a2 : 126 < c
                · have a2i : (126 : Int) < (c : Int) := by omega
                  have HF := hid (show paS m s = false from by rw [HP2.out]; exact HN.out (by simp [ptB]; omega))
                  clear HN HO a1 a2
                  go_wp2
                  go_ret
                  exact ⟨by rw [HF.out]; rfl, rfl⟩
                · have a2i : ¬ (126 : Int) < (c : Int) := by omega
                  by_cases a3 : c = 35
                  · have a3b : ((c : Int) == 35) = true := by simp [a3]
                    have HF := hid (show paS m s = false from by rw [HP2.out]; exact HN.out (by simp [ptB]; omega))
                    clear HN HO a1 a2 a3
                    go_wp2
                    go_ret
                    exact ⟨by rw [HF.out]; rfl, rfl⟩
                  · have a3b : ((c : Int) == 35) = false := by simp; omega
                    have HO2 := hid (HO.out (by simp [ptB]; omega))
                    clear HN HO a1 a2 a3
                    go_wp2
                    go_round
                    case rel => exact ⟨k + 1, by omega, by go_num, HO2.out⟩
                    case measure => simp [intOf]; omega
            · have hki : ¬ (k : Int) < (s.size : Int) := by omega
              have HE := hid (show paS m s = true from by rw [HP2.out]; exact okTo_end hok (by omega))
              clear hok
              go_wp2
              go_ret
              exact ⟨by rw [HE.out]; rfl, rfl⟩
      · have hdb : ((d : Int) != 47) = true := by simp; omega
        have HP2 := hid (show paS m s = false from by rw [HP.out, HL.out, decide_eq_false hd]; rfl)
        clear HP HL hd
        cases b1 <;> cases b2
        all_goals (first | (exact absurd rfl HB.out) | skip)
        all_goals
          go_enter Tryd.func42, Tryd.ntmps42
          go_wp2
          go_ret
          exact ⟨by rw [HP2.out]; rfl, rfl⟩
    · have hzi : (s.size : Int) < 1 := by omega
      have HP2 := hid (show paS m s = false from by rw [HP.out, slS_nil s hz]; rfl)
      clear HP hz
      cases b1 <;> cases b2
      all_goals (first | (exact absurd rfl HB.out) | skip)
      all_goals
        go_enter Tryd.func42, Tryd.ntmps42
        go_wp2
        go_ret
        exact ⟨by rw [HP2.out]; rfl, rfl⟩
end Go.Proofs.YtclapheglgiokaaDoor
