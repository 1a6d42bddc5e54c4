/-
  The document's one: a contract that the statements' walks use.
-/
import Derived.Test.YtclapheglgiokaaDoorDoE
import Derived.Test.YtclapheglgiokaaDoorDoF
import Derived.Test.YtclapheglgiokaaDoorDoG
import Derived.Deep.RegionHeld3
import Derived.BigQuiet
import Derived.Deep.QuietTactic
namespace Go.Proofs.YtclapheglgiokaaDoor
open Go.RowKit
set_option linter.unusedVariables false
set_option maxRecDepth 20000

theorem any_at {l : List Fd} {f : Fd → Bool} {j k : Nat} {q : Fd} (h : l[j]? = some q) (h0 : (l.take j).any f = false) (hj : j < k) : (f q = true → (l.take k).any f = true) ∧ (f q = false → (l.take (j + 1)).any f = false) := by
  constructor
  · intro e
    rw [List.any_eq_true]
    refine ⟨q, ?_, e⟩
    apply List.mem_of_getElem? (i := j)
    rw [List.getElem?_take, if_pos hj]; exact h
  · intro e
    rw [take_snoc h, List.any_append, h0]
    simp [e]
theorem fnd_here {l : List Fd} {k : Nat} {p : Fd} (h : l[k]? = some p) {n : ByteArray} (he : eqS p.1 n = true) : ∃ v, fnd l n = some v ∧ fnd (l.take k ++ [p]) n = some v := by
  rw [← take_snoc h]
  have hs : (fnd (l.take (k + 1)) n).isSome = true := by
    rw [fnd_isSome, List.any_eq_true]
    refine ⟨p, ?_, he⟩
    rw [take_snoc h]; simp
  obtain ⟨v, hv⟩ := Option.isSome_iff_exists.1 hs
  refine ⟨v, ?_, hv⟩
  unfold fnd at hv ⊢
  rw [← List.take_append_drop (k + 1) l, List.find?_append]
  rw [Option.map_eq_some_iff] at hv
  obtain ⟨a, ha, hb⟩ := hv
  rw [ha]
  simp [hb]
set_option maxHeartbeats 16000000 in
theorem one_any (x : Sv) (l : List Fd) (k : Nat) (p1 p2 : ByteArray) (w : World) (h : Fin w x l) (hp : l[k]? = some (p1, p2)) : Calls Tryd.prog 39 #[.slice x.a x.n x.c, .int .i64 (k : Int)] w fun e w' => e = .returned (.int .i64 (oneE (l.take k) (p1, p2))) ∧ Q w w' := by
  obtain ⟨xa, xn, xc⟩ := x
  have hl := h.len
  dsimp only at hl
  subst hl
  have hlt : k < l.length := (List.getElem?_eq_some_iff.1 hp).1
  obtain ⟨g, off, p', ha, hp', c0, c1⟩ := h.s.at hlt
  rw [hp] at hp'
  cases hp'
  dsimp only at ha
  subst ha
  dsimp only at c0 c1
  have HX := hid h
  have HK := hid hlt
  have hpm : (p1, p2) ∈ l := List.mem_of_getElem? hp
  have hs1 : p1.size ≤ 140737488355328 := (h.d _ hpm).1
  have hs2 : p2.size ≤ 140737488355328 := (h.d _ hpm).2
  have HNM := hid (fun W => rname_any p1 W hs1)
  have HVL := hid (fun W => rvalue_any p2 W hs2)
  have HH := hid (fun W => rhop_any p1 p2 W)
  have HL2 := hid (fun W => rlen_any p2 W)
  have HFI := hid (fun W (q : Q w W) => find_any ⟨some ⟨g, off, none⟩, l.length, xc⟩ kLen l W (h.s.q q) rfl (by have := h.b; omega))
  dsimp only at HFI
  have hLN0 := hid (show eqS p1 kLen = false → lnE (l.take k) (p1, p2) = 0 from fun e => by unfold lnE; rw [show eqS (p1, p2).1 kLen = false from e]; rfl)
  have hLN1 := hid (show eqS p1 kLen = true → ∃ v0, fnd l kLen = some v0 ∧ lnE (l.take k) (p1, p2) = if decide (lenO p2 < 0) || decide (lenO p2 ≠ lenO v0) then 186 else 0 from fun e => by
    obtain ⟨v, hv, hv'⟩ := fnd_here hp (n := kLen) e
    refine ⟨v, hv, ?_⟩
    unfold lnE
    rw [show eqS (p1, p2).1 kLen = true from e, hv']; rfl)
  have HW0 := hid ((Q.refl w).alloc (.cells #[.string p1, .string p2] 57))
  have HBx := hid (heap_alloc_new w (.cells #[.string p1, .string p2] 57))
  have hki : (k : Int) < (l.length : Int) := by omega
  have hk0 : (0 : Int) ≤ (k : Int) := by omega
  have hkb : (k : Int) < 8796093022208 := by have := h.b; omega
  have hE : oneE (l.take k) (p1, p2) = orE (if psS p1 then plE (l.take k) p1 else 0) (orE (if !psS p1 && !nmS p1 then 180 else if !vlS p2 then 181 else 0) (orE (if hopS (p1, p2) then 184 else 0) (lnE (l.take k) (p1, p2)))) := rfl
  have hPE : plE (l.take k) p1 = if knS p1 && !((l.take k).any fun g => !psS g.1 || eqS g.1 p1) then 0 else 182 := rfl
  have hKN : knS p1 = (eqS p1 kMet || eqS p1 kSch || eqS p1 kAut || eqS p1 kPat) := rfl
  have h1 : (p1.toList == [99, 111, 110, 116, 101, 110, 116, 45, 108, 101, 110, 103, 116, 104]) = eqS p1 kLen := beq_lit p1 _
  have m1 : (p1.toList == [58, 109, 101, 116, 104, 111, 100]) = eqS p1 kMet := beq_lit p1 _
  have m2 : (p1.toList == [58, 115, 99, 104, 101, 109, 101]) = eqS p1 kSch := beq_lit p1 _
  have m3 : (p1.toList == [58, 97, 117, 116, 104, 111, 114, 105, 116, 121]) = eqS p1 kAut := beq_lit p1 _
  have m4 : (p1.toList == [58, 112, 97, 116, 104]) = eqS p1 kPat := beq_lit p1 _
  have HC := hid (fun W (q : Q (w.alloc (.cells #[.string p1, .string p2] 57)) W) => show W.cell? ⟨w.heap.size, 0, none⟩ = some (.string p1) ∧ W.cell? ⟨w.heap.size, 1, none⟩ = some (.string p2) from by
    have hb := (Below.block q _ (lt_of_block HBx.out)).trans HBx.out
    exact ⟨by rw [cell_of_row W _ 0 _ 57 (0, 0) hb]; rfl, by rw [cell_of_row W _ 1 _ 57 (0, 0) hb]; rfl⟩)
  have HP0 := hid (rpseudo_any p1)
  clear h hp hpm hs1 hs2 hlt
  go_enter Tryd.func39, Tryd.ntmps39
  go_wp2_with (go_at_call 45; refine (HP0.out _).mono ?_; rintro e w2 ⟨rfl, rfl⟩; refine Hid.out ?_)
  refine hid ?_
  generalize hW : World.alloc w _ = WA at *
  clear hW HBx c0 c1 HP0
  generalize w.heap.size = bx at *
  generalize psS p1 = b1 at *
  generalize nmS p1 = n1 at *
  generalize vlS p2 = v1 at *
  generalize hopS (p1, p2) = b2 at *
  generalize eqS p1 kLen = b3 at *
  generalize lnE (l.take k) (p1, p2) = LN at *
  generalize fnd l kLen = FO at *
  unfold kLen at HFI
  cases b1 with
  | false =>
    obtain ⟨c00, c01⟩ := HC.out WA (Q.refl _)
    have HQA := hid (Q.refl WA)
    have HWr := HW0
    clear hPE hKN m1 m2 m3 m4
    cases n1 with
    | false =>
      have HG := hid (show oneE (l.take k) (p1, p2) = 180 from by rw [hE]; rfl)
      clear hE hLN0 hLN1 HFI HL2 HH HVL
      go_wp2_with (go_at_call 55; refine (HNM.out _).mono ?_; rintro e w2 ⟨rfl, rfl⟩)
      go_ret
      exact ⟨by rw [HG.out]; rfl, HWr.out⟩
    | true =>
      have hE2 : oneE (l.take k) (p1, p2) = orE (if !v1 then 181 else 0) (orE (if b2 then 184 else 0) LN) := hE
      clear hE
      cases v1 with
      | false =>
        have HG := hid (show oneE (l.take k) (p1, p2) = 181 from by rw [hE2]; rfl)
        clear hE2 hLN0 hLN1 HFI HL2 HH
        go_wp2_with (first | (go_at_call 55; refine (HNM.out _).mono ?_; rintro e w2 ⟨rfl, rfl⟩) | (go_at_call 56; refine (HVL.out _).mono ?_; rintro e w3 ⟨rfl, rfl⟩))
        go_ret
        exact ⟨by rw [HG.out]; rfl, HWr.out⟩
      | true =>
        cases b2 with
        | true =>
          have HG := hid (show oneE (l.take k) (p1, p2) = 184 from by rw [hE2]; rfl)
          clear hE2 hLN0 hLN1 HFI HL2
          go_wp2_with (first | (go_at_call 55; refine (HNM.out _).mono ?_; rintro e w2 ⟨rfl, rfl⟩) | (go_at_call 56; refine (HVL.out _).mono ?_; rintro e w3 ⟨rfl, rfl⟩) | (go_at_call 57; refine (HH.out _).mono ?_; rintro e w4 ⟨rfl, q4⟩; have d4 := HC.out _ (HQA.out.trans q4); have QF := hid (HWr.out.trans q4); clear q4 c00 c01; obtain ⟨d40, d41⟩ := d4))
          go_ret
          exact ⟨by rw [HG.out]; rfl, QF.out⟩
        | false =>
          cases b3 with
          | false =>
            have HG := hid (show oneE (l.take k) (p1, p2) = 0 from by rw [hE2, hLN0.out rfl]; rfl)
            clear hE2 hLN0 hLN1 HFI HL2
            go_wp2_with (first | (go_at_call 55; refine (HNM.out _).mono ?_; rintro e w2 ⟨rfl, rfl⟩) | (go_at_call 56; refine (HVL.out _).mono ?_; rintro e w3 ⟨rfl, rfl⟩) | (go_at_call 57; refine (HH.out _).mono ?_; rintro e w4 ⟨rfl, q4⟩; have d4 := HC.out _ (HQA.out.trans q4); have QF := hid (HWr.out.trans q4); clear q4 c00 c01; obtain ⟨d40, d41⟩ := d4))
            go_ret
            exact ⟨by rw [HG.out]; rfl, QF.out⟩
          | true =>
            obtain ⟨v0, hv0, hln⟩ := hLN1.out rfl
            have hE3 : oneE (l.take k) (p1, p2) = if decide (lenO p2 < 0) || decide (lenO p2 ≠ lenO v0) then 186 else 0 := by rw [hE2, hln]; rfl
            rw [hv0, vaA_some] at HFI
            have HL0 := hid (fun W => rlen_any v0 W)
            clear hE2 hLN0 hLN1 hln hv0
            generalize lenO p2 = L at *
            generalize lenO v0 = M at *
            by_cases hL : L < 0
            · have HG := hid (show oneE (l.take k) (p1, p2) = 186 from by rw [hE3, decide_eq_true hL]; rfl)
              clear hE3
              go_wp2_with (first | (go_at_call 55; refine (HNM.out _).mono ?_; rintro e w2 ⟨rfl, rfl⟩) | (go_at_call 56; refine (HVL.out _).mono ?_; rintro e w3 ⟨rfl, rfl⟩) | (go_at_call 57; refine (HH.out _).mono ?_; rintro e w4 ⟨rfl, q4⟩; have d4 := HC.out _ (HQA.out.trans q4); have QF := hid (HWr.out.trans q4); clear q4 c00 c01; obtain ⟨d40, d41⟩ := d4) | (go_at_call_of 44 (Value.string p2); refine (HL2.out _).mono ?_; rintro e w5 ⟨rfl, rfl⟩) | (go_at_call 40; refine (HFI.out _ QF.out).mono ?_; rintro e w7 ⟨rfl, q7⟩; have Q7 := hid (QF.out.trans q7); clear q7) | (go_at_call_of 44 (Value.string v0); refine (HL0.out _).mono ?_; rintro e w6 ⟨rfl, rfl⟩))
              go_ret
              exact ⟨by rw [HG.out]; rfl, Q7.out⟩
            · by_cases hM : L = M
              · have HG := hid (show oneE (l.take k) (p1, p2) = 0 from by rw [hE3, decide_eq_false hL, decide_eq_false (by simp [hM])]; rfl)
                have hL0 : (0 : Int) ≤ L := by omega
                obtain ⟨m, rfl⟩ : ∃ m : Nat, L = (m : Int) := ⟨L.toNat, by omega⟩
                subst hM
                clear hE3 hL hL0
                have hmm : ¬ ((m : Int) < 0) := by omega
                have hne : ((m : Int) != (m : Int)) = false := by simp
                go_wp2_with (first | (go_at_call 55; refine (HNM.out _).mono ?_; rintro e w2 ⟨rfl, rfl⟩) | (go_at_call 56; refine (HVL.out _).mono ?_; rintro e w3 ⟨rfl, rfl⟩) | (go_at_call 57; refine (HH.out _).mono ?_; rintro e w4 ⟨rfl, q4⟩; have d4 := HC.out _ (HQA.out.trans q4); have QF := hid (HWr.out.trans q4); clear q4 c00 c01; obtain ⟨d40, d41⟩ := d4) | (go_at_call_of 44 (Value.string p2); refine (HL2.out _).mono ?_; rintro e w5 ⟨rfl, rfl⟩) | (go_at_call 40; refine (HFI.out _ QF.out).mono ?_; rintro e w7 ⟨rfl, q7⟩; have Q7 := hid (QF.out.trans q7); clear q7))
                go_at_call_of 44 (Value.string v0)
                refine (HL0.out _).mono ?_
                rintro e w6 ⟨rfl, rfl⟩
                clear HL0 HL2 HFI HH HC d40 d41 HX HK hki hk0 hkb QF
                go_wp2_with fail
                go_ret
                exact ⟨by rw [HG.out]; rfl, Q7.out⟩
              · have HG := hid (show oneE (l.take k) (p1, p2) = 186 from by rw [hE3, decide_eq_true (show L ≠ M from hM), Bool.or_true]; rfl)
                have hMb : (L != M) = true := by simp [hM]
                clear hE3 hM
                go_wp2_with (first | (go_at_call 55; refine (HNM.out _).mono ?_; rintro e w2 ⟨rfl, rfl⟩) | (go_at_call 56; refine (HVL.out _).mono ?_; rintro e w3 ⟨rfl, rfl⟩) | (go_at_call 57; refine (HH.out _).mono ?_; rintro e w4 ⟨rfl, q4⟩; have d4 := HC.out _ (HQA.out.trans q4); have QF := hid (HWr.out.trans q4); clear q4 c00 c01; obtain ⟨d40, d41⟩ := d4) | (go_at_call_of 44 (Value.string p2); refine (HL2.out _).mono ?_; rintro e w5 ⟨rfl, rfl⟩) | (go_at_call 40; refine (HFI.out _ QF.out).mono ?_; rintro e w7 ⟨rfl, q7⟩; have Q7 := hid (QF.out.trans q7); clear q7) | (go_at_call_of 44 (Value.string v0); refine (HL0.out _).mono ?_; rintro e w6 ⟨rfl, rfl⟩))
                go_ret
                exact ⟨by rw [HG.out]; rfl, Q7.out⟩
  | true =>
    have HPL := hid (show knS p1 = true → (((l.take k).any fun g => !psS g.1 || eqS g.1 p1) = false → oneE (l.take k) (p1, p2) = orE (if !v1 then 181 else 0) (orE (if b2 then 184 else 0) LN)) ∧ (((l.take k).any fun g => !psS g.1 || eqS g.1 p1) = true → oneE (l.take k) (p1, p2) = 182) from fun hk =>
      ⟨fun e => by rw [hE, if_pos rfl, hPE, e, hk]; rfl, fun e => by rw [hE, if_pos rfl, hPE, e, hk]; rfl⟩)
    have HUN := hid (show knS p1 = false → oneE (l.take k) (p1, p2) = 182 from fun hk => by rw [hE, if_pos rfl, hPE, hk]; rfl)
    obtain ⟨c00, c01⟩ := HC.out WA (Q.refl _)
    have HWr := HW0
    rw [hKN] at HPL HUN
    clear hE hPE hKN
    generalize eqS p1 kMet = d1 at *
    generalize eqS p1 kSch = d2 at *
    generalize eqS p1 kAut = d3 at *
    generalize eqS p1 kPat = d4 at *
    cases d1
    · cases d2
      · cases d3
        · cases d4
          · have HG := hid (HUN.out rfl)
            clear HPL HUN hLN0 hLN1 HFI HL2 HH HVL
            go_wp2
            go_ret
            exact ⟨by rw [HG.out]; rfl, HWr.out⟩
          · replace HPL := hid (HPL.out (by first | rfl | simp))
            clear HUN HWr HNM
            go_wp2
            clear c00 c01
            go_loopw [6] (fun i wr => ∃ j : Nat, j ≤ k ∧ i = .int .i64 (j : Int) ∧ ((l.take j).any fun g => !psS g.1 || eqS g.1 p1) = false ∧ Q WA wr) (fun i _ => k - (intOf i).toNat)
            case atStart => exact ⟨0, by omega, rfl, rfl, Q.refl _⟩
            case round =>
              obtain ⟨j, hj, rfl, h0, hq⟩ := hrel
              have HQA := hid hq
              have HWr := hid (HW0.out.trans hq)
              have hcc := HC.out _ hq
              obtain ⟨c00, c01⟩ := hcc
              by_cases hlt : j < k
              · obtain ⟨g2, off2, ⟨q1, q2⟩, ha2, hp2, e0, e1⟩ := (HX.out.q HWr.out).s.at (show j < l.length by have := HK.out; omega)
                cases ha2
                dsimp only at e0 e1
                have hji : (j : Int) < (k : Int) := by omega
                have hj0 : (0 : Int) ≤ (j : Int) := by omega
                have hjl : (j : Int) < (l.length : Int) := by have := HK.out; omega
                have hjb : (j : Int) < 8796093022208 := by have := HX.out.b; have := HK.out; omega
                have hAT := any_at (f := fun g : Fd => !psS g.1 || eqS g.1 p1) hp2 h0 hlt
                dsimp only at hAT
                have HAT := hid hAT
                have HPQ := hid (fun W => rpseudo_any q1 W)
                have hqq := beq_eqS q1 p1
                clear hq h0 hAT hp2
                generalize psS q1 = x1 at *
                generalize eqS q1 p1 = x2 at *
                by_cases hbad : (!x1 || x2) = true
                · have HG := hid (show oneE (l.take k) (p1, p2) = 182 from HPL.out.2 (HAT.out.1 hbad))
                  clear HAT HPL hLN0 hLN1
                  cases x1 <;> cases x2
                  all_goals (first | (exact absurd hbad (by decide)) | skip)
                  all_goals
                    clear hbad
                    go_wp2_with fail
                    go_quiet ((go_at_call 45; exact Calls.quiet_of_same (HPQ.out _)))
                    go_wp2
                    go_ret
                    exact ⟨by rw [HG.out]; rfl, by first | exact HWr.out | exact HWr.out.drew | exact HWr.out.drewN _⟩
                · obtain ⟨rfl, rfl⟩ : x1 = true ∧ x2 = false := by cases x1 <;> cases x2 <;> simp at hbad ⊢
                  have HN := hid (HAT.out.2 rfl)
                  clear HAT HPL hLN0 hLN1 hbad
                  go_wp2_with fail
                  go_quiet ((go_at_call 45; exact Calls.quiet_of_same (HPQ.out _)))
                  go_wp2
                  go_roundw
                  case rel => exact ⟨j + 1, by omega, by go_num, HN.out, by first | exact HQA.out | exact HQA.out.drew | exact HQA.out.drewN _⟩
                  case measure => simp [intOf]; omega
              · have hji : ¬ (j : Int) < (k : Int) := by omega
                have hjk : j = k := by omega
                have hE2 := HPL.out.1 (by rw [← hjk]; exact h0)
                clear hq h0 hjk HPL
                cases v1 with
                | false =>
                  have HG := hid (show oneE (l.take k) (p1, p2) = 181 from by rw [hE2]; rfl)
                  clear hE2 hLN0 hLN1 HFI HL2 HH
                  go_wp2_with (first | (go_at_call 55; refine (HNM.out _).mono ?_; rintro e w2 ⟨rfl, rfl⟩) | (go_at_call 56; refine (HVL.out _).mono ?_; rintro e w3 ⟨rfl, rfl⟩))
                  go_ret
                  exact ⟨by rw [HG.out]; rfl, HWr.out⟩
                | true =>
                  cases b2 with
                  | true =>
                    have HG := hid (show oneE (l.take k) (p1, p2) = 184 from by rw [hE2]; rfl)
                    clear hE2 hLN0 hLN1 HFI HL2
                    go_wp2_with (first | (go_at_call 55; refine (HNM.out _).mono ?_; rintro e w2 ⟨rfl, rfl⟩) | (go_at_call 56; refine (HVL.out _).mono ?_; rintro e w3 ⟨rfl, rfl⟩) | (go_at_call 57; refine (HH.out _).mono ?_; rintro e w4 ⟨rfl, q4⟩; have d4 := HC.out _ (HQA.out.trans q4); have QF := hid (HWr.out.trans q4); clear q4 c00 c01; obtain ⟨d40, d41⟩ := d4))
                    go_ret
                    exact ⟨by rw [HG.out]; rfl, QF.out⟩
                  | false =>
                    cases b3 with
                    | false =>
                      have HG := hid (show oneE (l.take k) (p1, p2) = 0 from by rw [hE2, hLN0.out rfl]; rfl)
                      clear hE2 hLN0 hLN1 HFI HL2
                      go_wp2_with (first | (go_at_call 55; refine (HNM.out _).mono ?_; rintro e w2 ⟨rfl, rfl⟩) | (go_at_call 56; refine (HVL.out _).mono ?_; rintro e w3 ⟨rfl, rfl⟩) | (go_at_call 57; refine (HH.out _).mono ?_; rintro e w4 ⟨rfl, q4⟩; have d4 := HC.out _ (HQA.out.trans q4); have QF := hid (HWr.out.trans q4); clear q4 c00 c01; obtain ⟨d40, d41⟩ := d4))
                      go_ret
                      exact ⟨by rw [HG.out]; rfl, QF.out⟩
                    | true =>
                      obtain ⟨v0, hv0, hln⟩ := hLN1.out rfl
                      have hE3 : oneE (l.take k) (p1, p2) = if decide (lenO p2 < 0) || decide (lenO p2 ≠ lenO v0) then 186 else 0 := by rw [hE2, hln]; rfl
                      rw [hv0, vaA_some] at HFI
                      have HL0 := hid (fun W => rlen_any v0 W)
                      clear hE2 hLN0 hLN1 hln hv0
                      generalize lenO p2 = L at *
                      generalize lenO v0 = M at *
                      by_cases hL : L < 0
                      · have HG := hid (show oneE (l.take k) (p1, p2) = 186 from by rw [hE3, decide_eq_true hL]; rfl)
                        clear hE3
                        go_wp2_with (first | (go_at_call 55; refine (HNM.out _).mono ?_; rintro e w2 ⟨rfl, rfl⟩) | (go_at_call 56; refine (HVL.out _).mono ?_; rintro e w3 ⟨rfl, rfl⟩) | (go_at_call 57; refine (HH.out _).mono ?_; rintro e w4 ⟨rfl, q4⟩; have d4 := HC.out _ (HQA.out.trans q4); have QF := hid (HWr.out.trans q4); clear q4 c00 c01; obtain ⟨d40, d41⟩ := d4) | (go_at_call_of 44 (Value.string p2); refine (HL2.out _).mono ?_; rintro e w5 ⟨rfl, rfl⟩) | (go_at_call 40; refine (HFI.out _ QF.out).mono ?_; rintro e w7 ⟨rfl, q7⟩; have Q7 := hid (QF.out.trans q7); clear q7) | (go_at_call_of 44 (Value.string v0); refine (HL0.out _).mono ?_; rintro e w6 ⟨rfl, rfl⟩))
                        go_ret
                        exact ⟨by rw [HG.out]; rfl, Q7.out⟩
                      · by_cases hM : L = M
                        · have HG := hid (show oneE (l.take k) (p1, p2) = 0 from by rw [hE3, decide_eq_false hL, decide_eq_false (by simp [hM])]; rfl)
                          have hL0 : (0 : Int) ≤ L := by omega
                          obtain ⟨m, rfl⟩ : ∃ m : Nat, L = (m : Int) := ⟨L.toNat, by omega⟩
                          subst hM
                          clear hE3 hL hL0
                          have hmm : ¬ ((m : Int) < 0) := by omega
                          have hne : ((m : Int) != (m : Int)) = false := by simp
                          go_wp2_with (first | (go_at_call 55; refine (HNM.out _).mono ?_; rintro e w2 ⟨rfl, rfl⟩) | (go_at_call 56; refine (HVL.out _).mono ?_; rintro e w3 ⟨rfl, rfl⟩) | (go_at_call 57; refine (HH.out _).mono ?_; rintro e w4 ⟨rfl, q4⟩; have d4 := HC.out _ (HQA.out.trans q4); have QF := hid (HWr.out.trans q4); clear q4 c00 c01; obtain ⟨d40, d41⟩ := d4) | (go_at_call_of 44 (Value.string p2); refine (HL2.out _).mono ?_; rintro e w5 ⟨rfl, rfl⟩) | (go_at_call 40; refine (HFI.out _ QF.out).mono ?_; rintro e w7 ⟨rfl, q7⟩; have Q7 := hid (QF.out.trans q7); clear q7))
                          go_at_call_of 44 (Value.string v0)
                          refine (HL0.out _).mono ?_
                          rintro e w6 ⟨rfl, rfl⟩
                          clear HL0 HL2 HFI HH HC d40 d41 HX HK hki hk0 hkb QF
                          go_wp2_with fail
                          go_ret
                          exact ⟨by rw [HG.out]; rfl, Q7.out⟩
                        · have HG := hid (show oneE (l.take k) (p1, p2) = 186 from by rw [hE3, decide_eq_true (show L ≠ M from hM), Bool.or_true]; rfl)
                          have hMb : (L != M) = true := by simp [hM]
                          clear hE3 hM
                          go_wp2_with (first | (go_at_call 55; refine (HNM.out _).mono ?_; rintro e w2 ⟨rfl, rfl⟩) | (go_at_call 56; refine (HVL.out _).mono ?_; rintro e w3 ⟨rfl, rfl⟩) | (go_at_call 57; refine (HH.out _).mono ?_; rintro e w4 ⟨rfl, q4⟩; have d4 := HC.out _ (HQA.out.trans q4); have QF := hid (HWr.out.trans q4); clear q4 c00 c01; obtain ⟨d40, d41⟩ := d4) | (go_at_call_of 44 (Value.string p2); refine (HL2.out _).mono ?_; rintro e w5 ⟨rfl, rfl⟩) | (go_at_call 40; refine (HFI.out _ QF.out).mono ?_; rintro e w7 ⟨rfl, q7⟩; have Q7 := hid (QF.out.trans q7); clear q7) | (go_at_call_of 44 (Value.string v0); refine (HL0.out _).mono ?_; rintro e w6 ⟨rfl, rfl⟩))
                          go_ret
                          exact ⟨by rw [HG.out]; rfl, Q7.out⟩
        · replace HPL := hid (HPL.out (by first | rfl | simp))
          clear HUN HWr HNM
          go_wp2
          clear c00 c01
          go_loopw [6] (fun i wr => ∃ j : Nat, j ≤ k ∧ i = .int .i64 (j : Int) ∧ ((l.take j).any fun g => !psS g.1 || eqS g.1 p1) = false ∧ Q WA wr) (fun i _ => k - (intOf i).toNat)
          case atStart => exact ⟨0, by omega, rfl, rfl, Q.refl _⟩
          case round =>
            obtain ⟨j, hj, rfl, h0, hq⟩ := hrel
            have HQA := hid hq
            have HWr := hid (HW0.out.trans hq)
            have hcc := HC.out _ hq
            obtain ⟨c00, c01⟩ := hcc
            by_cases hlt : j < k
            · obtain ⟨g2, off2, ⟨q1, q2⟩, ha2, hp2, e0, e1⟩ := (HX.out.q HWr.out).s.at (show j < l.length by have := HK.out; omega)
              cases ha2
              dsimp only at e0 e1
              have hji : (j : Int) < (k : Int) := by omega
              have hj0 : (0 : Int) ≤ (j : Int) := by omega
              have hjl : (j : Int) < (l.length : Int) := by have := HK.out; omega
              have hjb : (j : Int) < 8796093022208 := by have := HX.out.b; have := HK.out; omega
              have hAT := any_at (f := fun g : Fd => !psS g.1 || eqS g.1 p1) hp2 h0 hlt
              dsimp only at hAT
              have HAT := hid hAT
              have HPQ := hid (fun W => rpseudo_any q1 W)
              have hqq := beq_eqS q1 p1
              clear hq h0 hAT hp2
              generalize psS q1 = x1 at *
              generalize eqS q1 p1 = x2 at *
              by_cases hbad : (!x1 || x2) = true
              · have HG := hid (show oneE (l.take k) (p1, p2) = 182 from HPL.out.2 (HAT.out.1 hbad))
                clear HAT HPL hLN0 hLN1
                cases x1 <;> cases x2
                all_goals (first | (exact absurd hbad (by decide)) | skip)
                all_goals
                  clear hbad
                  go_wp2_with fail
                  go_quiet ((go_at_call 45; exact Calls.quiet_of_same (HPQ.out _)))
                  go_wp2
                  go_ret
                  exact ⟨by rw [HG.out]; rfl, by first | exact HWr.out | exact HWr.out.drew | exact HWr.out.drewN _⟩
              · obtain ⟨rfl, rfl⟩ : x1 = true ∧ x2 = false := by cases x1 <;> cases x2 <;> simp at hbad ⊢
                have HN := hid (HAT.out.2 rfl)
                clear HAT HPL hLN0 hLN1 hbad
                go_wp2_with fail
                go_quiet ((go_at_call 45; exact Calls.quiet_of_same (HPQ.out _)))
                go_wp2
                go_roundw
                case rel => exact ⟨j + 1, by omega, by go_num, HN.out, by first | exact HQA.out | exact HQA.out.drew | exact HQA.out.drewN _⟩
                case measure => simp [intOf]; omega
            · have hji : ¬ (j : Int) < (k : Int) := by omega
              have hjk : j = k := by omega
              have hE2 := HPL.out.1 (by rw [← hjk]; exact h0)
              clear hq h0 hjk HPL
              cases v1 with
              | false =>
                have HG := hid (show oneE (l.take k) (p1, p2) = 181 from by rw [hE2]; rfl)
                clear hE2 hLN0 hLN1 HFI HL2 HH
                go_wp2_with (first | (go_at_call 55; refine (HNM.out _).mono ?_; rintro e w2 ⟨rfl, rfl⟩) | (go_at_call 56; refine (HVL.out _).mono ?_; rintro e w3 ⟨rfl, rfl⟩))
                go_ret
                exact ⟨by rw [HG.out]; rfl, HWr.out⟩
              | true =>
                cases b2 with
                | true =>
                  have HG := hid (show oneE (l.take k) (p1, p2) = 184 from by rw [hE2]; rfl)
                  clear hE2 hLN0 hLN1 HFI HL2
                  go_wp2_with (first | (go_at_call 55; refine (HNM.out _).mono ?_; rintro e w2 ⟨rfl, rfl⟩) | (go_at_call 56; refine (HVL.out _).mono ?_; rintro e w3 ⟨rfl, rfl⟩) | (go_at_call 57; refine (HH.out _).mono ?_; rintro e w4 ⟨rfl, q4⟩; have d4 := HC.out _ (HQA.out.trans q4); have QF := hid (HWr.out.trans q4); clear q4 c00 c01; obtain ⟨d40, d41⟩ := d4))
                  go_ret
                  exact ⟨by rw [HG.out]; rfl, QF.out⟩
                | false =>
                  cases b3 with
                  | false =>
                    have HG := hid (show oneE (l.take k) (p1, p2) = 0 from by rw [hE2, hLN0.out rfl]; rfl)
                    clear hE2 hLN0 hLN1 HFI HL2
                    go_wp2_with (first | (go_at_call 55; refine (HNM.out _).mono ?_; rintro e w2 ⟨rfl, rfl⟩) | (go_at_call 56; refine (HVL.out _).mono ?_; rintro e w3 ⟨rfl, rfl⟩) | (go_at_call 57; refine (HH.out _).mono ?_; rintro e w4 ⟨rfl, q4⟩; have d4 := HC.out _ (HQA.out.trans q4); have QF := hid (HWr.out.trans q4); clear q4 c00 c01; obtain ⟨d40, d41⟩ := d4))
                    go_ret
                    exact ⟨by rw [HG.out]; rfl, QF.out⟩
                  | true =>
                    obtain ⟨v0, hv0, hln⟩ := hLN1.out rfl
                    have hE3 : oneE (l.take k) (p1, p2) = if decide (lenO p2 < 0) || decide (lenO p2 ≠ lenO v0) then 186 else 0 := by rw [hE2, hln]; rfl
                    rw [hv0, vaA_some] at HFI
                    have HL0 := hid (fun W => rlen_any v0 W)
                    clear hE2 hLN0 hLN1 hln hv0
                    generalize lenO p2 = L at *
                    generalize lenO v0 = M at *
                    by_cases hL : L < 0
                    · have HG := hid (show oneE (l.take k) (p1, p2) = 186 from by rw [hE3, decide_eq_true hL]; rfl)
                      clear hE3
                      go_wp2_with (first | (go_at_call 55; refine (HNM.out _).mono ?_; rintro e w2 ⟨rfl, rfl⟩) | (go_at_call 56; refine (HVL.out _).mono ?_; rintro e w3 ⟨rfl, rfl⟩) | (go_at_call 57; refine (HH.out _).mono ?_; rintro e w4 ⟨rfl, q4⟩; have d4 := HC.out _ (HQA.out.trans q4); have QF := hid (HWr.out.trans q4); clear q4 c00 c01; obtain ⟨d40, d41⟩ := d4) | (go_at_call_of 44 (Value.string p2); refine (HL2.out _).mono ?_; rintro e w5 ⟨rfl, rfl⟩) | (go_at_call 40; refine (HFI.out _ QF.out).mono ?_; rintro e w7 ⟨rfl, q7⟩; have Q7 := hid (QF.out.trans q7); clear q7) | (go_at_call_of 44 (Value.string v0); refine (HL0.out _).mono ?_; rintro e w6 ⟨rfl, rfl⟩))
                      go_ret
                      exact ⟨by rw [HG.out]; rfl, Q7.out⟩
                    · by_cases hM : L = M
                      · have HG := hid (show oneE (l.take k) (p1, p2) = 0 from by rw [hE3, decide_eq_false hL, decide_eq_false (by simp [hM])]; rfl)
                        have hL0 : (0 : Int) ≤ L := by omega
                        obtain ⟨m, rfl⟩ : ∃ m : Nat, L = (m : Int) := ⟨L.toNat, by omega⟩
                        subst hM
                        clear hE3 hL hL0
                        have hmm : ¬ ((m : Int) < 0) := by omega
                        have hne : ((m : Int) != (m : Int)) = false := by simp
                        go_wp2_with (first | (go_at_call 55; refine (HNM.out _).mono ?_; rintro e w2 ⟨rfl, rfl⟩) | (go_at_call 56; refine (HVL.out _).mono ?_; rintro e w3 ⟨rfl, rfl⟩) | (go_at_call 57; refine (HH.out _).mono ?_; rintro e w4 ⟨rfl, q4⟩; have d4 := HC.out _ (HQA.out.trans q4); have QF := hid (HWr.out.trans q4); clear q4 c00 c01; obtain ⟨d40, d41⟩ := d4) | (go_at_call_of 44 (Value.string p2); refine (HL2.out _).mono ?_; rintro e w5 ⟨rfl, rfl⟩) | (go_at_call 40; refine (HFI.out _ QF.out).mono ?_; rintro e w7 ⟨rfl, q7⟩; have Q7 := hid (QF.out.trans q7); clear q7))
                        go_at_call_of 44 (Value.string v0)
                        refine (HL0.out _).mono ?_
                        rintro e w6 ⟨rfl, rfl⟩
                        clear HL0 HL2 HFI HH HC d40 d41 HX HK hki hk0 hkb QF
                        go_wp2_with fail
                        go_ret
                        exact ⟨by rw [HG.out]; rfl, Q7.out⟩
                      · have HG := hid (show oneE (l.take k) (p1, p2) = 186 from by rw [hE3, decide_eq_true (show L ≠ M from hM), Bool.or_true]; rfl)
                        have hMb : (L != M) = true := by simp [hM]
                        clear hE3 hM
                        go_wp2_with (first | (go_at_call 55; refine (HNM.out _).mono ?_; rintro e w2 ⟨rfl, rfl⟩) | (go_at_call 56; refine (HVL.out _).mono ?_; rintro e w3 ⟨rfl, rfl⟩) | (go_at_call 57; refine (HH.out _).mono ?_; rintro e w4 ⟨rfl, q4⟩; have d4 := HC.out _ (HQA.out.trans q4); have QF := hid (HWr.out.trans q4); clear q4 c00 c01; obtain ⟨d40, d41⟩ := d4) | (go_at_call_of 44 (Value.string p2); refine (HL2.out _).mono ?_; rintro e w5 ⟨rfl, rfl⟩) | (go_at_call 40; refine (HFI.out _ QF.out).mono ?_; rintro e w7 ⟨rfl, q7⟩; have Q7 := hid (QF.out.trans q7); clear q7) | (go_at_call_of 44 (Value.string v0); refine (HL0.out _).mono ?_; rintro e w6 ⟨rfl, rfl⟩))
                        go_ret
                        exact ⟨by rw [HG.out]; rfl, Q7.out⟩
      · replace HPL := hid (HPL.out (by first | rfl | simp))
        clear HUN HWr HNM
        go_wp2
        clear c00 c01
        go_loopw [6] (fun i wr => ∃ j : Nat, j ≤ k ∧ i = .int .i64 (j : Int) ∧ ((l.take j).any fun g => !psS g.1 || eqS g.1 p1) = false ∧ Q WA wr) (fun i _ => k - (intOf i).toNat)
        case atStart => exact ⟨0, by omega, rfl, rfl, Q.refl _⟩
        case round =>
          obtain ⟨j, hj, rfl, h0, hq⟩ := hrel
          have HQA := hid hq
          have HWr := hid (HW0.out.trans hq)
          have hcc := HC.out _ hq
          obtain ⟨c00, c01⟩ := hcc
          by_cases hlt : j < k
          · obtain ⟨g2, off2, ⟨q1, q2⟩, ha2, hp2, e0, e1⟩ := (HX.out.q HWr.out).s.at (show j < l.length by have := HK.out; omega)
            cases ha2
            dsimp only at e0 e1
            have hji : (j : Int) < (k : Int) := by omega
            have hj0 : (0 : Int) ≤ (j : Int) := by omega
            have hjl : (j : Int) < (l.length : Int) := by have := HK.out; omega
            have hjb : (j : Int) < 8796093022208 := by have := HX.out.b; have := HK.out; omega
            have hAT := any_at (f := fun g : Fd => !psS g.1 || eqS g.1 p1) hp2 h0 hlt
            dsimp only at hAT
            have HAT := hid hAT
            have HPQ := hid (fun W => rpseudo_any q1 W)
            have hqq := beq_eqS q1 p1
            clear hq h0 hAT hp2
            generalize psS q1 = x1 at *
            generalize eqS q1 p1 = x2 at *
            by_cases hbad : (!x1 || x2) = true
            · have HG := hid (show oneE (l.take k) (p1, p2) = 182 from HPL.out.2 (HAT.out.1 hbad))
              clear HAT HPL hLN0 hLN1
              cases x1 <;> cases x2
              all_goals (first | (exact absurd hbad (by decide)) | skip)
              all_goals
                clear hbad
                go_wp2_with fail
                go_quiet ((go_at_call 45; exact Calls.quiet_of_same (HPQ.out _)))
                go_wp2
                go_ret
                exact ⟨by rw [HG.out]; rfl, by first | exact HWr.out | exact HWr.out.drew | exact HWr.out.drewN _⟩
            · obtain ⟨rfl, rfl⟩ : x1 = true ∧ x2 = false := by cases x1 <;> cases x2 <;> simp at hbad ⊢
              have HN := hid (HAT.out.2 rfl)
              clear HAT HPL hLN0 hLN1 hbad
              go_wp2_with fail
              go_quiet ((go_at_call 45; exact Calls.quiet_of_same (HPQ.out _)))
              go_wp2
              go_roundw
              case rel => exact ⟨j + 1, by omega, by go_num, HN.out, by first | exact HQA.out | exact HQA.out.drew | exact HQA.out.drewN _⟩
              case measure => simp [intOf]; omega
          · have hji : ¬ (j : Int) < (k : Int) := by omega
            have hjk : j = k := by omega
            have hE2 := HPL.out.1 (by rw [← hjk]; exact h0)
            clear hq h0 hjk HPL
            cases v1 with
            | false =>
              have HG := hid (show oneE (l.take k) (p1, p2) = 181 from by rw [hE2]; rfl)
              clear hE2 hLN0 hLN1 HFI HL2 HH
              go_wp2_with (first | (go_at_call 55; refine (HNM.out _).mono ?_; rintro e w2 ⟨rfl, rfl⟩) | (go_at_call 56; refine (HVL.out _).mono ?_; rintro e w3 ⟨rfl, rfl⟩))
              go_ret
              exact ⟨by rw [HG.out]; rfl, HWr.out⟩
            | true =>
              cases b2 with
              | true =>
                have HG := hid (show oneE (l.take k) (p1, p2) = 184 from by rw [hE2]; rfl)
                clear hE2 hLN0 hLN1 HFI HL2
                go_wp2_with (first | (go_at_call 55; refine (HNM.out _).mono ?_; rintro e w2 ⟨rfl, rfl⟩) | (go_at_call 56; refine (HVL.out _).mono ?_; rintro e w3 ⟨rfl, rfl⟩) | (go_at_call 57; refine (HH.out _).mono ?_; rintro e w4 ⟨rfl, q4⟩; have d4 := HC.out _ (HQA.out.trans q4); have QF := hid (HWr.out.trans q4); clear q4 c00 c01; obtain ⟨d40, d41⟩ := d4))
                go_ret
                exact ⟨by rw [HG.out]; rfl, QF.out⟩
              | false =>
                cases b3 with
                | false =>
                  have HG := hid (show oneE (l.take k) (p1, p2) = 0 from by rw [hE2, hLN0.out rfl]; rfl)
                  clear hE2 hLN0 hLN1 HFI HL2
                  go_wp2_with (first | (go_at_call 55; refine (HNM.out _).mono ?_; rintro e w2 ⟨rfl, rfl⟩) | (go_at_call 56; refine (HVL.out _).mono ?_; rintro e w3 ⟨rfl, rfl⟩) | (go_at_call 57; refine (HH.out _).mono ?_; rintro e w4 ⟨rfl, q4⟩; have d4 := HC.out _ (HQA.out.trans q4); have QF := hid (HWr.out.trans q4); clear q4 c00 c01; obtain ⟨d40, d41⟩ := d4))
                  go_ret
                  exact ⟨by rw [HG.out]; rfl, QF.out⟩
                | true =>
                  obtain ⟨v0, hv0, hln⟩ := hLN1.out rfl
                  have hE3 : oneE (l.take k) (p1, p2) = if decide (lenO p2 < 0) || decide (lenO p2 ≠ lenO v0) then 186 else 0 := by rw [hE2, hln]; rfl
                  rw [hv0, vaA_some] at HFI
                  have HL0 := hid (fun W => rlen_any v0 W)
                  clear hE2 hLN0 hLN1 hln hv0
                  generalize lenO p2 = L at *
                  generalize lenO v0 = M at *
                  by_cases hL : L < 0
                  · have HG := hid (show oneE (l.take k) (p1, p2) = 186 from by rw [hE3, decide_eq_true hL]; rfl)
                    clear hE3
                    go_wp2_with (first | (go_at_call 55; refine (HNM.out _).mono ?_; rintro e w2 ⟨rfl, rfl⟩) | (go_at_call 56; refine (HVL.out _).mono ?_; rintro e w3 ⟨rfl, rfl⟩) | (go_at_call 57; refine (HH.out _).mono ?_; rintro e w4 ⟨rfl, q4⟩; have d4 := HC.out _ (HQA.out.trans q4); have QF := hid (HWr.out.trans q4); clear q4 c00 c01; obtain ⟨d40, d41⟩ := d4) | (go_at_call_of 44 (Value.string p2); refine (HL2.out _).mono ?_; rintro e w5 ⟨rfl, rfl⟩) | (go_at_call 40; refine (HFI.out _ QF.out).mono ?_; rintro e w7 ⟨rfl, q7⟩; have Q7 := hid (QF.out.trans q7); clear q7) | (go_at_call_of 44 (Value.string v0); refine (HL0.out _).mono ?_; rintro e w6 ⟨rfl, rfl⟩))
                    go_ret
                    exact ⟨by rw [HG.out]; rfl, Q7.out⟩
                  · by_cases hM : L = M
                    · have HG := hid (show oneE (l.take k) (p1, p2) = 0 from by rw [hE3, decide_eq_false hL, decide_eq_false (by simp [hM])]; rfl)
                      have hL0 : (0 : Int) ≤ L := by omega
                      obtain ⟨m, rfl⟩ : ∃ m : Nat, L = (m : Int) := ⟨L.toNat, by omega⟩
                      subst hM
                      clear hE3 hL hL0
                      have hmm : ¬ ((m : Int) < 0) := by omega
                      have hne : ((m : Int) != (m : Int)) = false := by simp
                      go_wp2_with (first | (go_at_call 55; refine (HNM.out _).mono ?_; rintro e w2 ⟨rfl, rfl⟩) | (go_at_call 56; refine (HVL.out _).mono ?_; rintro e w3 ⟨rfl, rfl⟩) | (go_at_call 57; refine (HH.out _).mono ?_; rintro e w4 ⟨rfl, q4⟩; have d4 := HC.out _ (HQA.out.trans q4); have QF := hid (HWr.out.trans q4); clear q4 c00 c01; obtain ⟨d40, d41⟩ := d4) | (go_at_call_of 44 (Value.string p2); refine (HL2.out _).mono ?_; rintro e w5 ⟨rfl, rfl⟩) | (go_at_call 40; refine (HFI.out _ QF.out).mono ?_; rintro e w7 ⟨rfl, q7⟩; have Q7 := hid (QF.out.trans q7); clear q7))
                      go_at_call_of 44 (Value.string v0)
                      refine (HL0.out _).mono ?_
                      rintro e w6 ⟨rfl, rfl⟩
                      clear HL0 HL2 HFI HH HC d40 d41 HX HK hki hk0 hkb QF
                      go_wp2_with fail
                      go_ret
                      exact ⟨by rw [HG.out]; rfl, Q7.out⟩
                    · have HG := hid (show oneE (l.take k) (p1, p2) = 186 from by rw [hE3, decide_eq_true (show L ≠ M from hM), Bool.or_true]; rfl)
                      have hMb : (L != M) = true := by simp [hM]
                      clear hE3 hM
                      go_wp2_with (first | (go_at_call 55; refine (HNM.out _).mono ?_; rintro e w2 ⟨rfl, rfl⟩) | (go_at_call 56; refine (HVL.out _).mono ?_; rintro e w3 ⟨rfl, rfl⟩) | (go_at_call 57; refine (HH.out _).mono ?_; rintro e w4 ⟨rfl, q4⟩; have d4 := HC.out _ (HQA.out.trans q4); have QF := hid (HWr.out.trans q4); clear q4 c00 c01; obtain ⟨d40, d41⟩ := d4) | (go_at_call_of 44 (Value.string p2); refine (HL2.out _).mono ?_; rintro e w5 ⟨rfl, rfl⟩) | (go_at_call 40; refine (HFI.out _ QF.out).mono ?_; rintro e w7 ⟨rfl, q7⟩; have Q7 := hid (QF.out.trans q7); clear q7) | (go_at_call_of 44 (Value.string v0); refine (HL0.out _).mono ?_; rintro e w6 ⟨rfl, rfl⟩))
                      go_ret
                      exact ⟨by rw [HG.out]; rfl, Q7.out⟩
    · replace HPL := hid (HPL.out (by first | rfl | simp))
      clear HUN HWr HNM
      go_wp2
      clear c00 c01
      go_loopw [6] (fun i wr => ∃ j : Nat, j ≤ k ∧ i = .int .i64 (j : Int) ∧ ((l.take j).any fun g => !psS g.1 || eqS g.1 p1) = false ∧ Q WA wr) (fun i _ => k - (intOf i).toNat)
      case atStart => exact ⟨0, by omega, rfl, rfl, Q.refl _⟩
      case round =>
        obtain ⟨j, hj, rfl, h0, hq⟩ := hrel
        have HQA := hid hq
        have HWr := hid (HW0.out.trans hq)
        have hcc := HC.out _ hq
        obtain ⟨c00, c01⟩ := hcc
        by_cases hlt : j < k
        · obtain ⟨g2, off2, ⟨q1, q2⟩, ha2, hp2, e0, e1⟩ := (HX.out.q HWr.out).s.at (show j < l.length by have := HK.out; omega)
          cases ha2
          dsimp only at e0 e1
          have hji : (j : Int) < (k : Int) := by omega
          have hj0 : (0 : Int) ≤ (j : Int) := by omega
          have hjl : (j : Int) < (l.length : Int) := by have := HK.out; omega
          have hjb : (j : Int) < 8796093022208 := by have := HX.out.b; have := HK.out; omega
          have hAT := any_at (f := fun g : Fd => !psS g.1 || eqS g.1 p1) hp2 h0 hlt
          dsimp only at hAT
          have HAT := hid hAT
          have HPQ := hid (fun W => rpseudo_any q1 W)
          have hqq := beq_eqS q1 p1
          clear hq h0 hAT hp2
          generalize psS q1 = x1 at *
          generalize eqS q1 p1 = x2 at *
          by_cases hbad : (!x1 || x2) = true
          · have HG := hid (show oneE (l.take k) (p1, p2) = 182 from HPL.out.2 (HAT.out.1 hbad))
            clear HAT HPL hLN0 hLN1
            cases x1 <;> cases x2
            all_goals (first | (exact absurd hbad (by decide)) | skip)
            all_goals
              clear hbad
              go_wp2_with fail
              go_quiet ((go_at_call 45; exact Calls.quiet_of_same (HPQ.out _)))
              go_wp2
              go_ret
              exact ⟨by rw [HG.out]; rfl, by first | exact HWr.out | exact HWr.out.drew | exact HWr.out.drewN _⟩
          · obtain ⟨rfl, rfl⟩ : x1 = true ∧ x2 = false := by cases x1 <;> cases x2 <;> simp at hbad ⊢
            have HN := hid (HAT.out.2 rfl)
            clear HAT HPL hLN0 hLN1 hbad
            go_wp2_with fail
            go_quiet ((go_at_call 45; exact Calls.quiet_of_same (HPQ.out _)))
            go_wp2
            go_roundw
            case rel => exact ⟨j + 1, by omega, by go_num, HN.out, by first | exact HQA.out | exact HQA.out.drew | exact HQA.out.drewN _⟩
            case measure => simp [intOf]; omega
        · have hji : ¬ (j : Int) < (k : Int) := by omega
          have hjk : j = k := by omega
          have hE2 := HPL.out.1 (by rw [← hjk]; exact h0)
          clear hq h0 hjk HPL
          cases v1 with
          | false =>
            have HG := hid (show oneE (l.take k) (p1, p2) = 181 from by rw [hE2]; rfl)
            clear hE2 hLN0 hLN1 HFI HL2 HH
            go_wp2_with (first | (go_at_call 55; refine (HNM.out _).mono ?_; rintro e w2 ⟨rfl, rfl⟩) | (go_at_call 56; refine (HVL.out _).mono ?_; rintro e w3 ⟨rfl, rfl⟩))
            go_ret
            exact ⟨by rw [HG.out]; rfl, HWr.out⟩
          | true =>
            cases b2 with
            | true =>
              have HG := hid (show oneE (l.take k) (p1, p2) = 184 from by rw [hE2]; rfl)
              clear hE2 hLN0 hLN1 HFI HL2
              go_wp2_with (first | (go_at_call 55; refine (HNM.out _).mono ?_; rintro e w2 ⟨rfl, rfl⟩) | (go_at_call 56; refine (HVL.out _).mono ?_; rintro e w3 ⟨rfl, rfl⟩) | (go_at_call 57; refine (HH.out _).mono ?_; rintro e w4 ⟨rfl, q4⟩; have d4 := HC.out _ (HQA.out.trans q4); have QF := hid (HWr.out.trans q4); clear q4 c00 c01; obtain ⟨d40, d41⟩ := d4))
              go_ret
              exact ⟨by rw [HG.out]; rfl, QF.out⟩
            | false =>
              cases b3 with
              | false =>
                have HG := hid (show oneE (l.take k) (p1, p2) = 0 from by rw [hE2, hLN0.out rfl]; rfl)
                clear hE2 hLN0 hLN1 HFI HL2
                go_wp2_with (first | (go_at_call 55; refine (HNM.out _).mono ?_; rintro e w2 ⟨rfl, rfl⟩) | (go_at_call 56; refine (HVL.out _).mono ?_; rintro e w3 ⟨rfl, rfl⟩) | (go_at_call 57; refine (HH.out _).mono ?_; rintro e w4 ⟨rfl, q4⟩; have d4 := HC.out _ (HQA.out.trans q4); have QF := hid (HWr.out.trans q4); clear q4 c00 c01; obtain ⟨d40, d41⟩ := d4))
                go_ret
                exact ⟨by rw [HG.out]; rfl, QF.out⟩
              | true =>
                obtain ⟨v0, hv0, hln⟩ := hLN1.out rfl
                have hE3 : oneE (l.take k) (p1, p2) = if decide (lenO p2 < 0) || decide (lenO p2 ≠ lenO v0) then 186 else 0 := by rw [hE2, hln]; rfl
                rw [hv0, vaA_some] at HFI
                have HL0 := hid (fun W => rlen_any v0 W)
                clear hE2 hLN0 hLN1 hln hv0
                generalize lenO p2 = L at *
                generalize lenO v0 = M at *
                by_cases hL : L < 0
                · have HG := hid (show oneE (l.take k) (p1, p2) = 186 from by rw [hE3, decide_eq_true hL]; rfl)
                  clear hE3
                  go_wp2_with (first | (go_at_call 55; refine (HNM.out _).mono ?_; rintro e w2 ⟨rfl, rfl⟩) | (go_at_call 56; refine (HVL.out _).mono ?_; rintro e w3 ⟨rfl, rfl⟩) | (go_at_call 57; refine (HH.out _).mono ?_; rintro e w4 ⟨rfl, q4⟩; have d4 := HC.out _ (HQA.out.trans q4); have QF := hid (HWr.out.trans q4); clear q4 c00 c01; obtain ⟨d40, d41⟩ := d4) | (go_at_call_of 44 (Value.string p2); refine (HL2.out _).mono ?_; rintro e w5 ⟨rfl, rfl⟩) | (go_at_call 40; refine (HFI.out _ QF.out).mono ?_; rintro e w7 ⟨rfl, q7⟩; have Q7 := hid (QF.out.trans q7); clear q7) | (go_at_call_of 44 (Value.string v0); refine (HL0.out _).mono ?_; rintro e w6 ⟨rfl, rfl⟩))
                  go_ret
                  exact ⟨by rw [HG.out]; rfl, Q7.out⟩
                · by_cases hM : L = M
                  · have HG := hid (show oneE (l.take k) (p1, p2) = 0 from by rw [hE3, decide_eq_false hL, decide_eq_false (by simp [hM])]; rfl)
                    have hL0 : (0 : Int) ≤ L := by omega
                    obtain ⟨m, rfl⟩ : ∃ m : Nat, L = (m : Int) := ⟨L.toNat, by omega⟩
                    subst hM
                    clear hE3 hL hL0
                    have hmm : ¬ ((m : Int) < 0) := by omega
                    have hne : ((m : Int) != (m : Int)) = false := by simp
                    go_wp2_with (first | (go_at_call 55; refine (HNM.out _).mono ?_; rintro e w2 ⟨rfl, rfl⟩) | (go_at_call 56; refine (HVL.out _).mono ?_; rintro e w3 ⟨rfl, rfl⟩) | (go_at_call 57; refine (HH.out _).mono ?_; rintro e w4 ⟨rfl, q4⟩; have d4 := HC.out _ (HQA.out.trans q4); have QF := hid (HWr.out.trans q4); clear q4 c00 c01; obtain ⟨d40, d41⟩ := d4) | (go_at_call_of 44 (Value.string p2); refine (HL2.out _).mono ?_; rintro e w5 ⟨rfl, rfl⟩) | (go_at_call 40; refine (HFI.out _ QF.out).mono ?_; rintro e w7 ⟨rfl, q7⟩; have Q7 := hid (QF.out.trans q7); clear q7))
                    go_at_call_of 44 (Value.string v0)
                    refine (HL0.out _).mono ?_
                    rintro e w6 ⟨rfl, rfl⟩
                    clear HL0 HL2 HFI HH HC d40 d41 HX HK hki hk0 hkb QF
                    go_wp2_with fail
                    go_ret
                    exact ⟨by rw [HG.out]; rfl, Q7.out⟩
                  · have HG := hid (show oneE (l.take k) (p1, p2) = 186 from by rw [hE3, decide_eq_true (show L ≠ M from hM), Bool.or_true]; rfl)
                    have hMb : (L != M) = true := by simp [hM]
                    clear hE3 hM
                    go_wp2_with (first | (go_at_call 55; refine (HNM.out _).mono ?_; rintro e w2 ⟨rfl, rfl⟩) | (go_at_call 56; refine (HVL.out _).mono ?_; rintro e w3 ⟨rfl, rfl⟩) | (go_at_call 57; refine (HH.out _).mono ?_; rintro e w4 ⟨rfl, q4⟩; have d4 := HC.out _ (HQA.out.trans q4); have QF := hid (HWr.out.trans q4); clear q4 c00 c01; obtain ⟨d40, d41⟩ := d4) | (go_at_call_of 44 (Value.string p2); refine (HL2.out _).mono ?_; rintro e w5 ⟨rfl, rfl⟩) | (go_at_call 40; refine (HFI.out _ QF.out).mono ?_; rintro e w7 ⟨rfl, q7⟩; have Q7 := hid (QF.out.trans q7); clear q7) | (go_at_call_of 44 (Value.string v0); refine (HL0.out _).mono ?_; rintro e w6 ⟨rfl, rfl⟩))
                    go_ret
                    exact ⟨by rw [HG.out]; rfl, Q7.out⟩
end Go.Proofs.YtclapheglgiokaaDoor
