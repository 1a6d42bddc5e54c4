/-
  The authority: a contract that the statements' walks use.
-/
import Derived.Test.YthefijjdffafkaaDoorRnS
namespace Go.Proofs.YthefijjdffafkaaDoor
open Go.RowKit
set_option linter.unusedVariables false
set_option maxRecDepth 20000

/-- A host field has another value. -/
def hoB (l : List Fd) (A : ByteArray) : Bool := l.any fun f => eqS f.1 kHos && !eqS f.2 A
theorem hoB_at {l : List Fd} {A : ByteArray} {k : Nat} {p : Fd} (h : l[k]? = some p) (h0 : hoB (l.take k) A = false) : ((eqS p.1 kHos && !eqS p.2 A) = true → hoB l A = true) ∧ ((eqS p.1 kHos && !eqS p.2 A) = false → hoB (l.take (k + 1)) A = false) := by
  constructor
  · intro e
    unfold hoB
    rw [List.any_eq_true]
    exact ⟨p, List.mem_of_getElem? h, e⟩
  · intro e
    rw [take_snoc h]
    unfold hoB at h0 ⊢
    rw [List.any_append, h0]
    simp only [List.any_cons, List.any_nil, Bool.or_false, Bool.false_or]
    exact e
set_option maxHeartbeats 8000000 in
theorem author_any (x : Sv) (l : List Fd) (w : World) (h : Fin w x l) : Calls Tryd.prog 29 #[.slice x.a x.n x.c] w fun e w' => e = endA (autE l) (.string (autO l)) ∧ Q w w' := by
  obtain ⟨xa, xn, xc⟩ := x
  have hl := h.len
  dsimp only at hl
  subst hl
  have HX := hid h
  have HA1 := hid (fun W q => h.value (W := W) kAut q)
  have HA2 := hid (fun W q => h.value (W := W) kHos q)
  dsimp only at HA1 HA2
  have HR := hid (fun x W => refuse_no x W)
  have HY := hid (fun x W => refuse_yes x W)
  clear h
  cases hf : fnd l kAut with
  | some v =>
    have hw : autW l = some v := by unfold autW; rw [hf]
    rw [hf, vaA_some] at HA1
    clear HA2 hf
    unfold kAut at HA1
    have HT := hid (fun W => auth_any v W)
    cases ht : auS v with
    | true =>
      rw [ht] at HT
      have HG := hid (fun (h : hoB l v = false) => endA_ok (.string (autO l)) (show autE l = 0 by unfold autE; rw [hw]; dsimp only; rw [ht]; unfold hoB at h; rw [h]; rfl))
      have HB := hid (fun (h : hoB l v = true) => endA_no (.string (autO l)) 182 (show autE l = 182 by unfold autE; rw [hw]; dsimp only; rw [ht]; unfold hoB at h; rw [h]; rfl) (by decide))
      have hO : autO l = v := by unfold autO; rw [hw]; rfl
      rw [hO] at HG HB ⊢
      generalize autE l = E at *
      clear hO ht hw
      go_enter Tryd.func29, Tryd.ntmps29
      go_wp2_with (go_at_call 39; refine (HA1.out _ (Q.refl _)).mono ?_; rintro e w1 ⟨rfl, q1⟩; have Q1 := hid q1; clear q1; refine Hid.out ?_)
      refine hid ?_
      go_wp2_with (first | (go_at_call_of 33 (Value.bool false); refine (HR.out _ _).mono ?_; rintro e w5 ⟨rfl, rfl⟩) | (go_at_call 43; refine (HT.out _).mono ?_; rintro e w4 ⟨rfl, q4⟩; have QZ := hid (Q1.out.trans q4); clear q4))
      go_loopw [6, 28] (fun b i wr => ∃ k : Nat, k ≤ l.length ∧ i = .int .i64 (k : Int) ∧ hoB (l.take k) v = false ∧ Q w wr) (fun _ i _ => l.length - (intOf i).toNat)
      case atStart => exact ⟨0, by omega, rfl, rfl, QZ.out⟩
      case round =>
        obtain ⟨k, hk, rfl, h0, hq⟩ := hrel
        have HQ := hid hq
        by_cases hlt : k < l.length
        · obtain ⟨g, off, ⟨p1, p2⟩, ha, hp, c0, c1⟩ := (HX.out.q hq).s.at hlt
          dsimp only at ha
          subst ha
          dsimp only at c0 c1
          have HA := hid (hq.alloc (.cells #[.string p1, .string p2] 37))
          have hki : (k : Int) < (l.length : Int) := by omega
          have hk0 : (0 : Int) ≤ (k : Int) := by omega
          have hkb : (k : Int) < 8796093022208 := by have := HX.out.b; omega
          have hh : (p1.toList == [104, 111, 115, 116]) = eqS p1 kHos := beq_lit p1 _
          have hv := beq_eqS p2 v
          have hst := hoB_at (A := v) hp h0
          have HST := hid hst
          clear hq h0 hp hst
          dsimp only at HST
          generalize eqS p1 kHos = c1b at *
          generalize eqS p2 v = c2b at *
          by_cases hbad : (c1b && !c2b) = true
          · have HF := hid (HB.out (HST.out.1 hbad))
            obtain ⟨rfl, rfl⟩ : c1b = true ∧ c2b = false := by cases c1b <;> cases c2b <;> simp at hbad ⊢
            clear HST hbad HG HB
            go_wp2_with (go_at_call_of 33 (Value.bool true); refine (HY.out _ _).mono ?_; rintro e w5 ⟨rfl, rfl⟩)
            exact ⟨rfl, HF.out.symm, HA.out⟩
          · have HN := hid (HST.out.2 (by simpa using hbad))
            clear HST
            cases c1b <;> cases c2b
            all_goals (first | (exact absurd rfl hbad) | skip)
            all_goals
              clear hbad
              go_wp2_with (go_at_call_of 33 (Value.bool false); refine (HR.out _ _).mono ?_; rintro e w5 ⟨rfl, rfl⟩)
              go_roundw
              case rel => exact ⟨k + 1, by omega, by go_num, HN.out, HA.out⟩
              case measure => simp [intOf]; omega
        · have hki : ¬ (k : Int) < (l.length : Int) := by omega
          have HF := hid (HG.out (by rw [List.take_of_length_le (by omega)] at h0; exact h0))
          clear hq h0 HG HB
          go_wp2
          go_ret
          exact ⟨HF.out.symm, HQ.out⟩
    | false =>
      rw [ht] at HT
      have HF := hid (endA_no (.string (autO l)) 182 (show autE l = 182 by unfold autE; rw [hw]; dsimp only; rw [ht]; rfl) (by decide))
      generalize autE l = E at *
      generalize autO l = O at *
      clear ht hw
      go_enter Tryd.func29, Tryd.ntmps29
      go_wp2_with (go_at_call 39; refine (HA1.out _ (Q.refl _)).mono ?_; rintro e w1 ⟨rfl, q1⟩; have Q1 := hid q1; clear q1; refine Hid.out ?_)
      refine hid ?_
      go_wp2_with (first | (go_at_call_of 33 (Value.bool false); refine (HR.out _ _).mono ?_; rintro e w5 ⟨rfl, rfl⟩) | (go_at_call_of 33 (Value.bool true); refine (HY.out _ _).mono ?_; rintro e w5 ⟨rfl, rfl⟩) | (go_at_call 43; refine (HT.out _).mono ?_; rintro e w4 ⟨rfl, q4⟩; have QZ := hid (Q1.out.trans q4); clear q4))
      exact ⟨rfl, HF.out.symm, QZ.out⟩
  | none =>
    rw [hf, vaA_none] at HA1
    unfold kAut at HA1
    cases hg : fnd l kHos with
    | none =>
      have hw : autW l = none := by unfold autW; rw [hf, hg]
      rw [hg, vaA_none] at HA2
      unfold kHos at HA2
      have HF := hid (endA_no (.string (autO l)) 183 (show autE l = 183 by unfold autE; rw [hw]) (by decide))
      generalize autE l = E at *
      generalize autO l = O at *
      clear hf hg hw
      go_enter Tryd.func29, Tryd.ntmps29
      go_wp2_with (go_at_call 39; refine (HA1.out _ (Q.refl _)).mono ?_; rintro e w1 ⟨rfl, q1⟩; have Q1 := hid q1; clear q1; refine Hid.out ?_)
      refine hid ?_
      go_wp2_with (go_at_call 39; refine (HA2.out _ Q1.out).mono ?_; rintro e w2 ⟨rfl, q2⟩; have Q2 := hid (Q1.out.trans q2); clear q2; refine Hid.out ?_)
      refine hid ?_
      go_wp2_with (go_at_call_of 33 (Value.bool true); refine (HY.out _ _).mono ?_; rintro e w5 ⟨rfl, rfl⟩)
      exact ⟨rfl, HF.out.symm, Q2.out⟩
    | some v =>
      have hw : autW l = some v := by unfold autW; rw [hf, hg]
      rw [hg, vaA_some] at HA2
      unfold kHos at HA2
      clear hf hg
      have HT := hid (fun W => auth_any v W)
      cases ht : auS v with
      | true =>
        rw [ht] at HT
        have HG := hid (fun (h : hoB l v = false) => endA_ok (.string (autO l)) (show autE l = 0 by unfold autE; rw [hw]; dsimp only; rw [ht]; unfold hoB at h; rw [h]; rfl))
        have HB := hid (fun (h : hoB l v = true) => endA_no (.string (autO l)) 182 (show autE l = 182 by unfold autE; rw [hw]; dsimp only; rw [ht]; unfold hoB at h; rw [h]; rfl) (by decide))
        have hO : autO l = v := by unfold autO; rw [hw]; rfl
        rw [hO] at HG HB ⊢
        generalize autE l = E at *
        clear hO ht hw
        go_enter Tryd.func29, Tryd.ntmps29
        go_wp2_with (go_at_call 39; refine (HA1.out _ (Q.refl _)).mono ?_; rintro e w1 ⟨rfl, q1⟩; have Q1 := hid q1; clear q1; refine Hid.out ?_)
        refine hid ?_
        go_wp2_with (go_at_call 39; refine (HA2.out _ Q1.out).mono ?_; rintro e w2 ⟨rfl, q2⟩; have Q2 := hid (Q1.out.trans q2); clear q2; refine Hid.out ?_)
        refine hid ?_
        go_wp2_with (first | (go_at_call_of 33 (Value.bool false); refine (HR.out _ _).mono ?_; rintro e w5 ⟨rfl, rfl⟩) | (go_at_call 43; refine (HT.out _).mono ?_; rintro e w4 ⟨rfl, q4⟩; have QZ := hid (Q2.out.trans q4); clear q4))
        go_loopw [6, 28] (fun b i wr => ∃ k : Nat, k ≤ l.length ∧ i = .int .i64 (k : Int) ∧ hoB (l.take k) v = false ∧ Q w wr) (fun _ i _ => l.length - (intOf i).toNat)
        case atStart => exact ⟨0, by omega, rfl, rfl, QZ.out⟩
        case round =>
          obtain ⟨k, hk, rfl, h0, hq⟩ := hrel
          have HQ := hid hq
          by_cases hlt : k < l.length
          · obtain ⟨g, off, ⟨p1, p2⟩, ha, hp, c0, c1⟩ := (HX.out.q hq).s.at hlt
            dsimp only at ha
            subst ha
            dsimp only at c0 c1
            have HA := hid (hq.alloc (.cells #[.string p1, .string p2] 37))
            have hki : (k : Int) < (l.length : Int) := by omega
            have hk0 : (0 : Int) ≤ (k : Int) := by omega
            have hkb : (k : Int) < 8796093022208 := by have := HX.out.b; omega
            have hh : (p1.toList == [104, 111, 115, 116]) = eqS p1 kHos := beq_lit p1 _
            have hv := beq_eqS p2 v
            have hst := hoB_at (A := v) hp h0
            have HST := hid hst
            clear hq h0 hp hst
            dsimp only at HST
            generalize eqS p1 kHos = c1b at *
            generalize eqS p2 v = c2b at *
            by_cases hbad : (c1b && !c2b) = true
            · have HF := hid (HB.out (HST.out.1 hbad))
              obtain ⟨rfl, rfl⟩ : c1b = true ∧ c2b = false := by cases c1b <;> cases c2b <;> simp at hbad ⊢
              clear HST hbad HG HB
              go_wp2_with (go_at_call_of 33 (Value.bool true); refine (HY.out _ _).mono ?_; rintro e w5 ⟨rfl, rfl⟩)
              exact ⟨rfl, HF.out.symm, HA.out⟩
            · have HN := hid (HST.out.2 (by simpa using hbad))
              clear HST
              cases c1b <;> cases c2b
              all_goals (first | (exact absurd rfl hbad) | skip)
              all_goals
                clear hbad
                go_wp2_with (go_at_call_of 33 (Value.bool false); refine (HR.out _ _).mono ?_; rintro e w5 ⟨rfl, rfl⟩)
                go_roundw
                case rel => exact ⟨k + 1, by omega, by go_num, HN.out, HA.out⟩
                case measure => simp [intOf]; omega
          · have hki : ¬ (k : Int) < (l.length : Int) := by omega
            have HF := hid (HG.out (by rw [List.take_of_length_le (by omega)] at h0; exact h0))
            clear hq h0 HG HB
            go_wp2
            go_ret
            exact ⟨HF.out.symm, HQ.out⟩
      | false =>
        rw [ht] at HT
        have HF := hid (endA_no (.string (autO l)) 182 (show autE l = 182 by unfold autE; rw [hw]; dsimp only; rw [ht]; rfl) (by decide))
        generalize autE l = E at *
        generalize autO l = O at *
        clear ht hw
        go_enter Tryd.func29, Tryd.ntmps29
        go_wp2_with (go_at_call 39; refine (HA1.out _ (Q.refl _)).mono ?_; rintro e w1 ⟨rfl, q1⟩; have Q1 := hid q1; clear q1; refine Hid.out ?_)
        refine hid ?_
        go_wp2_with (go_at_call 39; refine (HA2.out _ Q1.out).mono ?_; rintro e w2 ⟨rfl, q2⟩; have Q2 := hid (Q1.out.trans q2); clear q2; refine Hid.out ?_)
        refine hid ?_
        go_wp2_with (first | (go_at_call_of 33 (Value.bool false); refine (HR.out _ _).mono ?_; rintro e w5 ⟨rfl, rfl⟩) | (go_at_call_of 33 (Value.bool true); refine (HY.out _ _).mono ?_; rintro e w5 ⟨rfl, rfl⟩) | (go_at_call 43; refine (HT.out _).mono ?_; rintro e w4 ⟨rfl, q4⟩; have QZ := hid (Q2.out.trans q4); clear q4))
        exact ⟨rfl, HF.out.symm, QZ.out⟩

end Go.Proofs.YthefijjdffafkaaDoor
