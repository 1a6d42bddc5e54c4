/-
  The document's own texts: alnum, in, Token, Name, Value, Hop, pseudo: contracts that the statements' walks use.
-/
import Derived.Test.YtclapheglgiokaaDoorRnL
namespace Go.Proofs.YtclapheglgiokaaDoor
open Go.RowKit
set_option linter.unusedVariables false
set_option maxRecDepth 20000

theorem alnum_any (c : Nat) (w : World) : Calls Tryd.prog 62 #[.int .u8 c] w fun e w' => e = .returned (.bool (alB c)) ∧ w' = w := by
  have hz : c < 48 ∨ (48 ≤ c ∧ c ≤ 57) ∨ (58 ≤ c ∧ c ≤ 64) ∨ (65 ≤ c ∧ c ≤ 90) ∨ (91 ≤ c ∧ c ≤ 96) ∨ (97 ≤ c ∧ c ≤ 122) ∨ 123 ≤ c := by omega
  go_enter Tryd.func62, Tryd.ntmps62
  rcases hz with h | h | h | h | h | h | h
  · have hv : alB c = false := by simp [alB, smB, cpB, dgB]; omega
    rw [hv]
    have : ¬ (97 : Int) ≤ (c : Int) := by omega
    have : (c : Int) ≤ 122 := by omega
    have : ¬ (65 : Int) ≤ (c : Int) := by omega
    have : (c : Int) ≤ 90 := by omega
    have : ¬ (48 : Int) ≤ (c : Int) := by omega
    have : (c : Int) ≤ 57 := by omega
    clear h hv
    go_wp2
    go_ret
    exact ⟨rfl, rfl⟩
  · have hv : alB c = true := by simp [alB, smB, cpB, dgB]; omega
    rw [hv]
    have : ¬ (97 : Int) ≤ (c : Int) := by omega
    have : (c : Int) ≤ 122 := by omega
    have : ¬ (65 : Int) ≤ (c : Int) := by omega
    have : (c : Int) ≤ 90 := by omega
    have : (48 : Int) ≤ (c : Int) := by omega
    have : (c : Int) ≤ 57 := by omega
    clear h hv
    go_wp2
    go_ret
    exact ⟨rfl, rfl⟩
  · have hv : alB c = false := by simp [alB, smB, cpB, dgB]; omega
    rw [hv]
    have : ¬ (97 : Int) ≤ (c : Int) := by omega
    have : (c : Int) ≤ 122 := by omega
    have : ¬ (65 : Int) ≤ (c : Int) := by omega
    have : (c : Int) ≤ 90 := by omega
    have : (48 : Int) ≤ (c : Int) := by omega
    have : ¬ (c : Int) ≤ 57 := by omega
    clear h hv
    go_wp2
    go_ret
    exact ⟨rfl, rfl⟩
  · have hv : alB c = true := by simp [alB, smB, cpB, dgB]; omega
    rw [hv]
    have : ¬ (97 : Int) ≤ (c : Int) := by omega
    have : (c : Int) ≤ 122 := by omega
    have : (65 : Int) ≤ (c : Int) := by omega
    have : (c : Int) ≤ 90 := by omega
    have : (48 : Int) ≤ (c : Int) := by omega
    have : ¬ (c : Int) ≤ 57 := by omega
    clear h hv
    go_wp2
    go_ret
    exact ⟨rfl, rfl⟩
  · have hv : alB c = false := by simp [alB, smB, cpB, dgB]; omega
    rw [hv]
    have : ¬ (97 : Int) ≤ (c : Int) := by omega
    have : (c : Int) ≤ 122 := by omega
    have : (65 : Int) ≤ (c : Int) := by omega
    have : ¬ (c : Int) ≤ 90 := by omega
    have : (48 : Int) ≤ (c : Int) := by omega
    have : ¬ (c : Int) ≤ 57 := by omega
    clear h hv
    go_wp2
    go_ret
    exact ⟨rfl, rfl⟩
  · have hv : alB c = true := by simp [alB, smB, cpB, dgB]; omega
    rw [hv]
    have : (97 : Int) ≤ (c : Int) := by omega
    have : (c : Int) ≤ 122 := by omega
    have : (65 : Int) ≤ (c : Int) := by omega
    have : ¬ (c : Int) ≤ 90 := by omega
    have : (48 : Int) ≤ (c : Int) := by omega
    have : ¬ (c : Int) ≤ 57 := by omega
    clear h hv
    go_wp2
    go_ret
    exact ⟨rfl, rfl⟩
  · have hv : alB c = false := by simp [alB, smB, cpB, dgB]; omega
    rw [hv]
    have : (97 : Int) ≤ (c : Int) := by omega
    have : ¬ (c : Int) ≤ 122 := by omega
    have : (65 : Int) ≤ (c : Int) := by omega
    have : ¬ (c : Int) ≤ 90 := by omega
    have : (48 : Int) ≤ (c : Int) := by omega
    have : ¬ (c : Int) ≤ 57 := by omega
    clear h hv
    go_wp2
    go_ret
    exact ⟨rfl, rfl⟩
theorem hasR_not (s : ByteArray) (c : Nat) : hasR s c = !allB (fun n => decide (n ≠ c)) s := by
  unfold hasR allB
  rw [List.not_all_eq_any_not]
  congr 1
  funext b
  simp
set_option maxHeartbeats 4000000 in
theorem in_any (s : ByteArray) (c0 : Nat) (w : World) (hs : s.size ≤ 140737488355328) : Calls Tryd.prog 63 #[.string s, .int .u8 c0] w fun e w' => e = .returned (.bool (hasR s c0)) ∧ w' = w := by
  have HS := hid hs
  clear hs
  go_enter Tryd.func63, Tryd.ntmps63
  go_wp2
  go_loop [5] (fun i => ∃ k : Nat, k ≤ s.size ∧ i = .int .i64 (k : Int) ∧ okTo (fun n => decide (n ≠ c0)) s k) (fun i => s.size - (intOf i).toNat)
  case atStart => exact ⟨0, by omega, rfl, okTo_zero _ _⟩
  case round =>
    obtain ⟨k, hk, rfl, hok⟩ := hrel
    by_cases hlt : k < s.size
    · have hix := fun W => str_ix s k hlt W
      have hki : (k : Int) < (s.size : Int) := by omega
      have hk0 : (0 : Int) ≤ (k : Int) := by omega
      have hkb : (k : Int) < 140737488355328 := by have := HS.out; omega
      have hcb : (s[k]'hlt).toNat < 256 := UInt8.toNat_lt _
      have HN := hid (fun h => allB_no (p := (fun n => decide (n ≠ c0))) (s := s) hlt h)
      have HO := hid (fun h => okTo_succ (p := (fun n => decide (n ≠ c0))) (s := s) hok hlt h)
      clear hok
      generalize (s[k]'hlt).toNat = c at *
      by_cases he : c = c0
      · subst he
        have HN2 := hid (HN.out (by simp))
        clear HN HO
        go_wp2
        go_ret
        exact ⟨by rw [hasR_not, HN2.out]; rfl, rfl⟩
      · have heb : ((c : Int) == (c0 : Int)) = false := by simp; omega
        have HO2 := hid (HO.out (by simp [he]))
        clear HN HO he
        go_wp2
        go_round
        case rel => exact ⟨k + 1, by omega, by go_num, HO2.out⟩
        case measure => simp [intOf]; omega
    · have hki : ¬ (k : Int) < (s.size : Int) := by omega
      have HE := hid (okTo_end hok (by omega))
      clear hok
      go_wp2
      go_ret
      exact ⟨by rw [hasR_not, HE.out]; rfl, rfl⟩

def m14 : ByteArray := ⟨#[33, 35, 36, 37, 38, 39, 42, 43, 45, 46, 94, 95, 124, 126]⟩
theorem tok_14 (c : Nat) : tokB c = (alB c || hasR m14 c || decide (c = 96)) := by
  have h : tokM.contains c = (hasR m14 c || decide (c = 96)) := by
    rw [Bool.eq_iff_iff]
    simp [tokM, hasR, m14]
    omega
  unfold tokB
  rw [h, Bool.or_assoc]
theorem tkS_size (s : ByteArray) : tkS s = (decide (1 ≤ s.size) && allB tokB s) := by
  unfold tkS
  have : neS s = decide (1 ≤ s.size) := by
    unfold neS
    rw [Bool.eq_iff_iff]
    have hz : s.data.toList.length = s.size := rfl
    cases hl : s.data.toList with
    | nil =>
      rw [hl] at hz
      have h0 : 0 = s.size := hz
      rw [← h0]; decide
    | cons b r =>
      rw [hl] at hz
      have h0 : r.length + 1 = s.size := hz
      rw [← h0]; simp
  rw [this]
set_option maxHeartbeats 4000000 in
theorem rtoken_any (s : ByteArray) (w : World) (hs : s.size ≤ 140737488355328) : Calls Tryd.prog 41 #[.string s] w fun e w' => e = .returned (.bool (tkS s)) ∧ w' = w := by
  have HS := hid hs
  clear hs
  go_enter Tryd.func41, Tryd.ntmps41
  go_wp2
  go_loop [3] (fun i => ∃ k : Nat, k ≤ s.size ∧ i = .int .i64 (k : Int) ∧ okTo tokB s k) (fun i => s.size - (intOf i).toNat)
  case atStart => exact ⟨0, by omega, rfl, okTo_zero _ _⟩
  case round =>
    obtain ⟨k, hk, rfl, hok⟩ := hrel
    by_cases hlt : k < s.size
    · have hix := fun W => str_ix s k hlt W
      have hki : (k : Int) < (s.size : Int) := by omega
      have hk0 : (0 : Int) ≤ (k : Int) := by omega
      have hkb : (k : Int) < 140737488355328 := by have := HS.out; omega
      have hcb : (s[k]'hlt).toNat < 256 := UInt8.toNat_lt _
      have HN := hid (fun h => allB_no (p := tokB) (s := s) hlt h)
      have HO := hid (fun h => okTo_succ (p := tokB) (s := s) hok hlt h)
      clear hok
      generalize (s[k]'hlt).toNat = c at *
      have ht := tok_14 c
      have HA := hid (fun W => alnum_any c W)
      have HI := hid (fun W => in_any m14 c W (by decide))
      unfold m14 at HI ht
      generalize alB c = b1 at *
      generalize hasR _ c = b2 at *
      by_cases h3 : c = 96
      · have HO2 := hid (HO.out (by rw [ht]; simp [h3]))
        have h3b : ((c : Int) != 96) = false := by simp [h3]
        clear HN HO ht h3
        cases b1 <;> cases b2
        all_goals
          go_wp2_with (first | (go_at_call 62; refine (HA.out _).mono ?_; rintro e w1 ⟨rfl, rfl⟩) | (go_at_call 63; refine (HI.out _).mono ?_; rintro e w2 ⟨rfl, rfl⟩))
          go_round
          case rel => exact ⟨k + 1, by omega, by go_num, HO2.out⟩
          case measure => simp [intOf]; omega
      · have h3b : ((c : Int) != 96) = true := by simp; omega
        rw [decide_eq_false h3, Bool.or_false] at ht
        clear h3
        by_cases hb : (b1 || b2) = true
        · have HO2 := hid (HO.out (by rw [ht]; exact hb))
          clear HN HO ht
          cases b1 <;> cases b2
          all_goals (first | (exact absurd hb (by decide)) | skip)
          all_goals
            clear hb
            go_wp2_with (first | (go_at_call 62; refine (HA.out _).mono ?_; rintro e w1 ⟨rfl, rfl⟩) | (go_at_call 63; refine (HI.out _).mono ?_; rintro e w2 ⟨rfl, rfl⟩))
            go_round
            case rel => exact ⟨k + 1, by omega, by go_num, HO2.out⟩
            case measure => simp [intOf]; omega
        · have HN2 := hid (HN.out (by rw [ht]; simpa using hb))
          obtain ⟨rfl, rfl⟩ : b1 = false ∧ b2 = false := by cases b1 <;> cases b2 <;> simp at hb ⊢
          clear HN HO ht hb
          go_wp2_with (first | (go_at_call 62; refine (HA.out _).mono ?_; rintro e w1 ⟨rfl, rfl⟩) | (go_at_call 63; refine (HI.out _).mono ?_; rintro e w2 ⟨rfl, rfl⟩))
          go_ret
          exact ⟨by rw [tkS_size, HN2.out, Bool.and_false]; rfl, rfl⟩
    · have hki : ¬ (k : Int) < (s.size : Int) := by omega
      have HE := hid (okTo_end hok (by omega))
      clear hok
      go_wp2
      go_ret
      exact ⟨by rw [tkS_size, HE.out, Bool.and_true]; rfl, rfl⟩

set_option maxHeartbeats 4000000 in
theorem rname_any (s : ByteArray) (w : World) (hs : s.size ≤ 140737488355328) : Calls Tryd.prog 55 #[.string s] w fun e w' => e = .returned (.bool (nmS s)) ∧ w' = w := by
  have HT := hid (fun W => rtoken_any s W hs)
  have HS := hid hs
  clear hs
  go_enter Tryd.func55, Tryd.ntmps55
  go_wp2
  go_loop [3] (fun i => ∃ k : Nat, k ≤ s.size ∧ i = .int .i64 (k : Int) ∧ okTo ncB s k) (fun i => s.size - (intOf i).toNat)
  case atStart => exact ⟨0, by omega, rfl, okTo_zero _ _⟩
  case round =>
    obtain ⟨k, hk, rfl, hok⟩ := hrel
    by_cases hlt : k < s.size
    · have hix := fun W => str_ix s k hlt W
      have hki : (k : Int) < (s.size : Int) := by omega
      have hk0 : (0 : Int) ≤ (k : Int) := by omega
      have hkb : (k : Int) < 140737488355328 := by have := HS.out; omega
      have hcb : (s[k]'hlt).toNat < 256 := UInt8.toNat_lt _
      have HN := hid (fun h => allB_no (p := ncB) (s := s) hlt h)
      have HO := hid (fun h => okTo_succ (p := ncB) (s := s) hok hlt h)
      clear hok
      generalize (s[k]'hlt).toNat = c at *
      by_cases h1 : 65 ≤ c
      · have a1 : (65 : Int) ≤ (c : Int) := by omega
        by_cases h2 : c ≤ 90
        · have a2 : (c : Int) ≤ 90 := by omega
          have HN2 := hid (HN.out (by simp [ncB, cpB, h1, h2]))
          clear HN HO
          go_wp2
          go_ret
          exact ⟨by unfold nmS; rw [HN2.out, Bool.and_false]; rfl, rfl⟩
        · have a2 : ¬ (c : Int) ≤ 90 := by omega
          have HO2 := hid (HO.out (by simp [ncB, cpB, h2]))
          clear HN HO
          go_wp2
          go_round
          case rel => exact ⟨k + 1, by omega, by go_num, HO2.out⟩
          case measure => simp [intOf]; omega
      · have a1 : ¬ (65 : Int) ≤ (c : Int) := by omega
        have HO2 := hid (HO.out (by simp [ncB, cpB, h1]))
        clear HN HO
        go_wp2
        go_round
        case rel => exact ⟨k + 1, by omega, by go_num, HO2.out⟩
        case measure => simp [intOf]; omega
    · have hki : ¬ (k : Int) < (s.size : Int) := by omega
      have HE := hid (okTo_end hok (by omega))
      clear hok
      go_wp2_with (go_at_call 41; refine (HT.out _).mono ?_; rintro e w1 ⟨rfl, rfl⟩)
      go_ret
      exact ⟨by unfold nmS; rw [HE.out, Bool.and_true]; rfl, rfl⟩

theorem rpseudo_any (s : ByteArray) (w : World) : Calls Tryd.prog 45 #[.string s] w fun e w' => e = .returned (.bool (psS s)) ∧ w' = w := by
  by_cases h1 : 1 ≤ s.size
  · have h1I : (0 : Int) < (s.size : Int) := by omega
    have h0 : 0 < s.size := h1
    have i0 := fun W => str_ix s 0 h0 W
    have hz : ((0 : Nat) : Int) = 0 := rfl
    rw [hz] at i0
    have hp : psS s = decide ((s[0]'h0).toNat = 58) := by
      unfold psS
      have : s.data.toList = (s[0]'h0) :: s.data.toList.tail := by
        cases hl : s.data.toList with
        | nil =>
          have hq : s.data.toList.length = s.size := rfl
          rw [hl] at hq
          have : 0 = s.size := hq
          omega
        | cons b r =>
          have : s.data.toList[0]'(by rw [hl]; simp) = b := by simp [hl]
          rw [← this]; rfl
      rw [this]
    rw [hp]
    clear hp h1
    generalize (s[0]'h0).toNat = c at *
    by_cases hc : c = 58
    · rw [decide_eq_true hc]
      subst hc
      go_enter Tryd.func45, Tryd.ntmps45
      go_wp2
      go_ret
      exact ⟨rfl, rfl⟩
    · rw [decide_eq_false hc]
      have hcb : ((c : Int) == 58) = false := by simp; omega
      clear hc
      go_enter Tryd.func45, Tryd.ntmps45
      go_wp2
      go_ret
      exact ⟨rfl, rfl⟩
  · have h1I : ¬ (0 : Int) < (s.size : Int) := by omega
    have hp : psS s = false := by
      unfold psS
      have hq : s.data.toList.length = s.size := rfl
      have : s.data.toList = [] := List.eq_nil_of_length_eq_zero (by omega)
      rw [this]
    rw [hp]
    clear hp h1
    go_enter Tryd.func45, Tryd.ntmps45
    go_wp2
    go_ret
    exact ⟨rfl, rfl⟩
set_option maxHeartbeats 4000000 in
theorem rhop_any (a b : ByteArray) (w : World) : Calls Tryd.prog 57 #[.agg #[.string a, .string b]] w fun e w' => e = .returned (.bool (hopS (a, b))) ∧ Q w w' := by
  have hd : hopS (a, b) = (eqS a kCon || eqS a kKee || eqS a kPro || eqS a kTra || eqS a kUpg || (eqS a kTe && !eqS b kTrl)) := rfl
  rw [hd]
  clear hd
  have h0 : (a.toList == [99, 111, 110, 110, 101, 99, 116, 105, 111, 110]) = eqS a kCon := beq_lit a _
  have h1 : (a.toList == [107, 101, 101, 112, 45, 97, 108, 105, 118, 101]) = eqS a kKee := beq_lit a _
  have h2 : (a.toList == [112, 114, 111, 120, 121, 45, 99, 111, 110, 110, 101, 99, 116, 105, 111, 110]) = eqS a kPro := beq_lit a _
  have h3 : (a.toList == [116, 114, 97, 110, 115, 102, 101, 114, 45, 101, 110, 99, 111, 100, 105, 110, 103]) = eqS a kTra := beq_lit a _
  have h4 : (a.toList == [117, 112, 103, 114, 97, 100, 101]) = eqS a kUpg := beq_lit a _
  have h5 : (a.toList == [116, 101]) = eqS a kTe := beq_lit a _
  have h6 : (b.toList == [116, 114, 97, 105, 108, 101, 114, 115]) = eqS b kTrl := beq_lit b _
  generalize eqS a kCon = c0 at *
  generalize eqS a kKee = c1 at *
  generalize eqS a kPro = c2 at *
  generalize eqS a kTra = c3 at *
  generalize eqS a kUpg = c4 at *
  generalize eqS a kTe = c5 at *
  generalize eqS b kTrl = c6 at *
  have HQ := hid ((Q.refl w).alloc (.cells #[.string a, .string b] 57))
  go_enter Tryd.func57, Tryd.ntmps57
  cases c0 with
  | true => go_wp2; go_ret; exact ⟨rfl, HQ.out⟩
  | false =>
    cases c1 with
    | true => go_wp2; go_ret; exact ⟨rfl, HQ.out⟩
    | false =>
      cases c2 with
      | true => go_wp2; go_ret; exact ⟨rfl, HQ.out⟩
      | false =>
        cases c3 with
        | true => go_wp2; go_ret; exact ⟨rfl, HQ.out⟩
        | false =>
          cases c4 with
          | true => go_wp2; go_ret; exact ⟨rfl, HQ.out⟩
          | false =>
            cases c5 with
            | false => go_wp2; go_ret; exact ⟨rfl, HQ.out⟩
            | true =>
              cases c6 <;> (go_wp2; go_ret; exact ⟨rfl, HQ.out⟩)
end Go.Proofs.YtclapheglgiokaaDoor
