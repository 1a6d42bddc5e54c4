/-
  The method, the target, the authority: contracts that the statements' walks use.
-/
import Derived.Test.YthefijjdffafkaaDoorRnR
namespace Go.Proofs.YthefijjdffafkaaDoor
open Go.RowKit
set_option linter.unusedVariables false
set_option maxRecDepth 20000

/-- How a part of the reading ends. -/
def endA (e : Int) (v : Value) : Ending := if e = 0 then .returned v else .panicked [refP e]
theorem endA_ok {e : Int} (v : Value) (h : e = 0) : endA e v = .returned v := by unfold endA; rw [if_pos h]
theorem endA_no {e : Int} (v : Value) (y : Int) (h : e = y) (hy : y ≠ 0) : endA e v = .panicked [refP y] := by subst h; unfold endA; rw [if_neg hy]
theorem vaA_none : vaA none = .tuple #[.string ⟨#[]⟩, .bool false] := rfl
theorem vaA_some (m : ByteArray) : vaA (some m) = .tuple #[.string m, .bool true] := rfl
structure Fin (w : World) (x : Sv) (l : List Fd) : Prop where
  s : SegF w x.a l
  len : l.length = x.n
  c : x.n ≤ x.c
  b : l.length ≤ 4398046511104
  d : BdF l
theorem Fin.q {w w' : World} {x : Sv} {l : List Fd} (h : Fin w x l) (k : Q w w') : Fin w' x l := ⟨h.s.q k, h.len, h.c, h.b, h.d⟩
theorem Fin.value {w W : World} {x : Sv} {l : List Fd} (h : Fin w x l) (n : ByteArray) (q : Q w W) : Calls Tryd.prog 39 #[.slice x.a x.n x.c, .string n] W fun e w' => e = .returned (vaA (fnd l n)) ∧ Q W w' := valueOf_any x n l W (h.s.q q) h.len (by have := h.b; omega)
set_option maxHeartbeats 2000000 in
theorem method_any (x : Sv) (l : List Fd) (w : World) (h : Fin w x l) : Calls Tryd.prog 26 #[.slice x.a x.n x.c] w fun e w' => e = endA (metE l) (.string (metO l)) ∧ Q w w' := by
  obtain ⟨xa, xn, xc⟩ := x
  have HV := hid (h.value kMet (Q.refl w))
  dsimp only at HV
  have HR := hid (fun x W => refuse_no x W)
  have HY := hid (fun x W => refuse_yes x W)
  clear h
  have hE : metE l = match fnd l kMet with | none => 183 | some m => if tkS m then 0 else 182 := rfl
  have hO : metO l = (fnd l kMet).getD ⟨#[]⟩ := rfl
  generalize metE l = E at *
  generalize metO l = O at *
  cases hf : fnd l kMet with
  | none =>
    rw [hf] at HV hE hO
    rw [vaA_none] at HV
    have HF := hid (endA_no (.string O) 183 hE (by decide))
    clear hE hO hf
    unfold kMet at HV
    go_enter Tryd.func26, Tryd.ntmps26
    go_wp2_with (first | (go_at_call 39; refine HV.out.mono ?_; rintro e w1 ⟨rfl, q1⟩; have Q1 := hid q1; clear q1) | (go_at_call_of 33 (Value.bool true); refine (HY.out _ _).mono ?_; rintro e w5 ⟨rfl, rfl⟩))
    exact ⟨rfl, HF.out.symm, Q1.out⟩
  | some m =>
    rw [hf] at HV hE hO
    rw [vaA_some] at HV
    have HT := hid (fun W => token_any m W)
    cases ht : tkS m with
    | true =>
      rw [ht] at HT
      have HF := hid (endA_ok (.string O) (show E = 0 by rw [hE]; dsimp only; rw [ht, if_pos rfl]))
      have hO2 : O = m := hO
      subst hO2
      clear hE hO hf ht
      unfold kMet at HV
      go_enter Tryd.func26, Tryd.ntmps26
      go_wp2_with (first | (go_at_call 39; refine HV.out.mono ?_; rintro e w1 ⟨rfl, q1⟩; have Q1 := hid q1; clear q1) | (go_at_call 40; refine (HT.out _).mono ?_; rintro e w2 ⟨rfl, q2⟩; have Q2 := hid q2; clear q2) | (go_at_call_of 33 (Value.bool false); refine (HR.out _ _).mono ?_; rintro e w5 ⟨rfl, rfl⟩))
      go_ret
      exact ⟨HF.out.symm, Q1.out.trans Q2.out⟩
    | false =>
      rw [ht] at HT
      have HF := hid (endA_no (.string O) 182 (show E = 182 by rw [hE]; dsimp only; rw [ht, if_neg (by decide)]) (by decide))
      clear hE hO hf ht
      unfold kMet at HV
      go_enter Tryd.func26, Tryd.ntmps26
      go_wp2_with (first | (go_at_call 39; refine HV.out.mono ?_; rintro e w1 ⟨rfl, q1⟩; have Q1 := hid q1; clear q1) | (go_at_call 40; refine (HT.out _).mono ?_; rintro e w2 ⟨rfl, q2⟩; have Q2 := hid q2; clear q2) | (go_at_call_of 33 (Value.bool false); refine (HR.out _ _).mono ?_; rintro e w5 ⟨rfl, rfl⟩) | (go_at_call_of 33 (Value.bool true); refine (HY.out _ _).mono ?_; rintro e w5 ⟨rfl, rfl⟩))
      exact ⟨rfl, HF.out.symm, Q1.out.trans Q2.out⟩
theorem fnd_some (l : List Fd) (n : ByteArray) : ∃ v, vaA (fnd l n) = .tuple #[.string v, .bool (fnd l n).isSome] ∧ v = (fnd l n).getD ⟨#[]⟩ := ⟨_, rfl, rfl⟩
set_option maxHeartbeats 4000000 in
theorem tunnel_any (x : Sv) (l : List Fd) (w : World) (h : Fin w x l) : Calls Tryd.prog 27 #[.slice x.a x.n x.c] w fun e w' => e = endA (tunE l) (.tuple #[]) ∧ Q w w' := by
  obtain ⟨xa, xn, xc⟩ := x
  have HS := hid (fun W q => h.value (W := W) kSch q)
  have HP := hid (fun W q => h.value (W := W) kPat q)
  have HA := hid (fun W q => h.value (W := W) kAut q)
  dsimp only at HS HP HA
  have HR := hid (fun x W => refuse_no x W)
  have HY := hid (fun x W => refuse_yes x W)
  clear h
  have hE : tunE l = if (fnd l kSch).isSome || (fnd l kPat).isSome then 182 else if (fnd l kAut).isSome then 0 else 183 := rfl
  obtain ⟨v1, e1, _⟩ := fnd_some l kSch
  obtain ⟨v2, e2, _⟩ := fnd_some l kPat
  obtain ⟨v3, e3, _⟩ := fnd_some l kAut
  rw [e1] at HS
  rw [e2] at HP
  rw [e3] at HA
  clear e1 e2 e3
  generalize tunE l = E at *
  generalize (fnd l kSch).isSome = b1 at *
  generalize (fnd l kPat).isSome = b2 at *
  generalize (fnd l kAut).isSome = b3 at *
  unfold kSch at HS
  unfold kPat at HP
  unfold kAut at HA
  have HF1 := hid (fun (h : (b1 || b2) = true) => endA_no (.tuple #[]) 182 (show E = 182 by rw [hE, if_pos h]) (by decide))
  have HF2 := hid (fun (h : (b1 || b2) = false) (h3 : b3 = false) => endA_no (.tuple #[]) 183 (show E = 183 by rw [hE, if_neg (by rw [h]; decide), if_neg (by rw [h3]; decide)]) (by decide))
  have HF3 := hid (fun (h : (b1 || b2) = false) (h3 : b3 = true) => endA_ok (.tuple #[]) (show E = 0 by rw [hE, if_neg (by rw [h]; decide), if_pos h3]))
  clear hE
  go_enter Tryd.func27, Tryd.ntmps27
  go_wp2_with (go_at_call 39; refine (HS.out _ (Q.refl _)).mono ?_; rintro e w1 ⟨rfl, q1⟩; have Q1 := hid q1; clear q1; refine Hid.out ?_)
  refine hid ?_
  go_wp2_with (go_at_call 39; refine (HP.out _ Q1.out).mono ?_; rintro e w2 ⟨rfl, q2⟩; have Q2 := hid (Q1.out.trans q2); clear q2; refine Hid.out ?_)
  refine hid ?_
  by_cases hb : (b1 || b2) = true
  · have HF := hid (HF1.out hb)
    clear HF1 HF2 HF3 HA
    cases b1 <;> cases b2
    all_goals (first | (exact absurd hb (by decide)) | skip)
    all_goals
      clear hb
      go_wp2_with (go_at_call_of 33 (Value.bool true); refine (HY.out _ _).mono ?_; rintro e w5 ⟨rfl, rfl⟩)
      exact ⟨rfl, HF.out.symm, Q2.out⟩
  · obtain ⟨rfl, rfl⟩ : b1 = false ∧ b2 = false := by cases b1 <;> cases b2 <;> simp at hb ⊢
    cases b3 with
    | false =>
      have HF := hid (HF2.out rfl rfl)
      clear HF1 HF2 HF3 hb
      go_wp2_with (first | (go_at_call_of 33 (Value.bool false); refine (HR.out _ _).mono ?_; rintro e w5 ⟨rfl, rfl⟩) | (go_at_call_of 33 (Value.bool true); refine (HY.out _ _).mono ?_; rintro e w5 ⟨rfl, rfl⟩) | (go_at_call 39; refine (HA.out _ Q2.out).mono ?_; rintro e w3 ⟨rfl, q3⟩; have Q3 := hid (Q2.out.trans q3); clear q3))
      exact ⟨rfl, HF.out.symm, Q3.out⟩
    | true =>
      have HF := hid (HF3.out rfl rfl)
      clear HF1 HF2 HF3 hb
      go_wp2_with (first | (go_at_call_of 33 (Value.bool false); refine (HR.out _ _).mono ?_; rintro e w5 ⟨rfl, rfl⟩) | (go_at_call 39; refine (HA.out _ Q2.out).mono ?_; rintro e w3 ⟨rfl, q3⟩; have Q3 := hid (Q2.out.trans q3); clear q3))
      go_end0
      exact ⟨HF.out.symm, Q3.out⟩
theorem pre47_any (s : ByteArray) (w : World) : Calls Tryd.prog 41 #[.string s, .string ⟨#[47]⟩] w fun e w' => e = .returned (.bool (slS s)) ∧ w' = w := pre_any s 47 w
theorem star_pt (p : ByteArray) (h : eqS p kStar = true) : allB ptB p = true := by
  have := (eqS_iff p kStar).1 h
  subst this
  decide
set_option maxHeartbeats 8000000 in
theorem target_any (x : Sv) (l : List Fd) (m : ByteArray) (w : World) (h : Fin w x l) (hm : m = metO l) : Calls Tryd.prog 28 #[.slice x.a x.n x.c, .string m] w fun e w' => e = endA (tarE l) (.tuple #[.string (schO l), .string (patO l)]) ∧ Q w w' := by
  obtain ⟨xa, xn, xc⟩ := x
  have HS := hid (fun W q => h.value (W := W) kSch q)
  have HP := hid (fun W q => h.value (W := W) kPat q)
  dsimp only at HS HP
  have HR := hid (fun x W => refuse_no x W)
  have HY := hid (fun x W => refuse_yes x W)
  clear h
  have hE : tarE l = if (fnd l kSch).isSome && (fnd l kPat).isSome then (if (eqS (schO l) kHttp || eqS (schO l) kHttps) && paS (metO l) (patO l) then 0 else 182) else 183 := rfl
  rw [← hm] at hE
  clear hm
  have e1 : vaA (fnd l kSch) = .tuple #[.string (schO l), .bool (fnd l kSch).isSome] := rfl
  have e2 : vaA (fnd l kPat) = .tuple #[.string (patO l), .bool (fnd l kPat).isSome] := rfl
  rw [e1] at HS
  rw [e2] at HP
  clear e1 e2
  generalize tarE l = E at *
  generalize (fnd l kSch).isSome = b1 at *
  generalize (fnd l kPat).isSome = b2 at *
  generalize schO l = v1 at *
  generalize patO l = v2 at *
  unfold kSch at HS
  unfold kPat at HP
  have HPR := hid (fun W => pre47_any v2 W)
  have HPT := hid (fun W => path_any v2 W)
  have HST := hid (star_pt v2)
  have hpa : paS m v2 = ((eqS m kOPT && eqS v2 kStar) || (slS v2 && allB ptB v2)) := rfl
  rw [hpa] at hE
  clear hpa
  have HF1 := hid (fun (h : (b1 && b2) = false) => endA_no (.tuple #[.string v1, .string v2]) 183 (show E = 183 by rw [hE, if_neg (by rw [h]; decide)]) (by decide))
  have HF2 := hid (fun (h : (b1 && b2) = true) (h3 : ((eqS v1 kHttp || eqS v1 kHttps) && ((eqS m kOPT && eqS v2 kStar) || (slS v2 && allB ptB v2))) = false) => endA_no (.tuple #[.string v1, .string v2]) 182 (show E = 182 by rw [hE, if_pos h, if_neg (by rw [h3]; decide)]) (by decide))
  have HF3 := hid (fun (h : (b1 && b2) = true) (h3 : ((eqS v1 kHttp || eqS v1 kHttps) && ((eqS m kOPT && eqS v2 kStar) || (slS v2 && allB ptB v2))) = true) => endA_ok (.tuple #[.string v1, .string v2]) (show E = 0 by rw [hE, if_pos h, if_pos h3]))
  clear hE
  go_enter Tryd.func28, Tryd.ntmps28
  go_wp2_with (go_at_call 39; refine (HS.out _ (Q.refl _)).mono ?_; rintro e w1 ⟨rfl, q1⟩; have Q1 := hid q1; clear q1; refine Hid.out ?_)
  refine hid ?_
  go_wp2_with (go_at_call 39; refine (HP.out _ Q1.out).mono ?_; rintro e w2 ⟨rfl, q2⟩; have Q2 := hid (Q1.out.trans q2); clear q2; refine Hid.out ?_)
  refine hid ?_
  by_cases hb : (b1 && b2) = true
  · obtain ⟨rfl, rfl⟩ : b1 = true ∧ b2 = true := by cases b1 <;> cases b2 <;> simp at hb ⊢
    replace HF2 := hid (HF2.out rfl)
    replace HF3 := hid (HF3.out rfl)
    clear HF1 hb HS HP
    have hS : (v1.toList == [104, 116, 116, 112]) = eqS v1 kHttp := beq_lit v1 _
    have hS2 : (v1.toList == [104, 116, 116, 112, 115]) = eqS v1 kHttps := beq_lit v1 _
    have hM : (m.toList == [79, 80, 84, 73, 79, 78, 83]) = eqS m kOPT := beq_lit m _
    have hT : (v2.toList == [42]) = eqS v2 kStar := beq_lit v2 _
    generalize eqS v1 kHttp = c1 at *
    generalize eqS v1 kHttps = c2 at *
    generalize eqS m kOPT = c3 at *
    generalize eqS v2 kStar = c4 at *
    generalize slS v2 = c5 at *
    generalize allB ptB v2 = c6 at *
    have hc6 : (c3 && c4) = true → c6 = true := fun h => HST.out (by rw [Bool.and_eq_true] at h; exact h.2)
    by_cases hsc : (c1 || c2) = true
    · by_cases hof : (c3 && c4) = true
      · obtain rfl := hc6 hof
        have HF := hid (HF3.out (by rw [hsc, hof]; rfl))
        obtain ⟨rfl, rfl⟩ : c3 = true ∧ c4 = true := by cases c3 <;> cases c4 <;> simp at hof ⊢
        clear HF2 HF3 hof hc6 HST HPR
        cases c1 <;> cases c2
        all_goals (first | (exact absurd hsc (by decide)) | skip)
        all_goals
          clear hsc
          go_wp2_with (first | (go_at_call_of 33 (Value.bool false); refine (HR.out _ _).mono ?_; rintro e w5 ⟨rfl, rfl⟩) | (go_at_call 42; refine (HPT.out _).mono ?_; rintro e w4 ⟨rfl, q4⟩; have Q4 := hid (Q2.out.trans q4); clear q4))
          go_ret2
          exact ⟨HF.out.symm, Q4.out⟩
      · cases hc5 : c5 with
        | false =>
          rw [hc5] at HPR
          have HF := hid (HF2.out (by rw [hc5]; cases c3 <;> cases c4 <;> simp at hof ⊢))
          clear HF2 HF3 hc6 HST hc5 HPT
          cases c1 <;> cases c2 <;> cases c3 <;> cases c4
          all_goals (first | (exact absurd hsc (by decide)) | (exact absurd rfl hof) | skip)
          all_goals
            clear hsc hof
            go_wp2_with (first | (go_at_call_of 33 (Value.bool false); refine (HR.out _ _).mono ?_; rintro e w5 ⟨rfl, rfl⟩) | (go_at_call_of 33 (Value.bool true); refine (HY.out _ _).mono ?_; rintro e w5 ⟨rfl, rfl⟩) | (go_at_call 41; refine (HPR.out _).mono ?_; rintro e w3 ⟨rfl, rfl⟩))
            exact ⟨rfl, HF.out.symm, Q2.out⟩
        | true =>
          rw [hc5] at HPR
          cases hc6' : c6 with
          | false =>
            rw [hc6'] at HPT
            have HF := hid (HF2.out (by rw [hc6', Bool.and_false]; cases c3 <;> cases c4 <;> simp at hof ⊢))
            clear HF2 HF3 hc6 HST hc5 hc6'
            cases c1 <;> cases c2 <;> cases c3 <;> cases c4
            all_goals (first | (exact absurd hsc (by decide)) | (exact absurd rfl hof) | skip)
            all_goals
              clear hsc hof
              go_wp2_with (first | (go_at_call_of 33 (Value.bool false); refine (HR.out _ _).mono ?_; rintro e w5 ⟨rfl, rfl⟩) | (go_at_call_of 33 (Value.bool true); refine (HY.out _ _).mono ?_; rintro e w5 ⟨rfl, rfl⟩) | (go_at_call 41; refine (HPR.out _).mono ?_; rintro e w3 ⟨rfl, rfl⟩) | (go_at_call 42; refine (HPT.out _).mono ?_; rintro e w4 ⟨rfl, q4⟩; have Q4 := hid (Q2.out.trans q4); clear q4))
              exact ⟨rfl, HF.out.symm, Q4.out⟩
          | true =>
            rw [hc6'] at HPT
            have HF := hid (HF3.out (by rw [hsc, hc5, hc6']; cases (c3 && c4) <;> rfl))
            clear HF2 HF3 hc6 HST hc5 hc6'
            cases c1 <;> cases c2 <;> cases c3 <;> cases c4
            all_goals (first | (exact absurd hsc (by decide)) | (exact absurd rfl hof) | skip)
            all_goals
              clear hsc hof
              go_wp2_with (first | (go_at_call_of 33 (Value.bool false); refine (HR.out _ _).mono ?_; rintro e w5 ⟨rfl, rfl⟩) | (go_at_call 41; refine (HPR.out _).mono ?_; rintro e w3 ⟨rfl, rfl⟩) | (go_at_call 42; refine (HPT.out _).mono ?_; rintro e w4 ⟨rfl, q4⟩; have Q4 := hid (Q2.out.trans q4); clear q4))
              go_ret2
              exact ⟨HF.out.symm, Q4.out⟩
    · obtain ⟨rfl, rfl⟩ : c1 = false ∧ c2 = false := by cases c1 <;> cases c2 <;> simp at hsc ⊢
      have HF := hid (HF2.out rfl)
      clear HF2 HF3 hc6 HST HPT HPR hsc
      go_wp2_with (first | (go_at_call_of 33 (Value.bool false); refine (HR.out _ _).mono ?_; rintro e w5 ⟨rfl, rfl⟩) | (go_at_call_of 33 (Value.bool true); refine (HY.out _ _).mono ?_; rintro e w5 ⟨rfl, rfl⟩))
      exact ⟨rfl, HF.out.symm, Q2.out⟩
  · have hb' : (b1 && b2) = false := by simpa using hb
    have HF := hid (HF1.out hb')
    clear HF1 HF2 HF3 HPR HPT HST hb
    cases b1 <;> cases b2
    all_goals (first | (exact absurd hb' (by decide)) | skip)
    all_goals
      clear hb'
      go_wp2_with (go_at_call_of 33 (Value.bool true); refine (HY.out _ _).mono ?_; rintro e w5 ⟨rfl, rfl⟩)
      exact ⟨rfl, HF.out.symm, Q2.out⟩
end Go.Proofs.YthefijjdffafkaaDoor
