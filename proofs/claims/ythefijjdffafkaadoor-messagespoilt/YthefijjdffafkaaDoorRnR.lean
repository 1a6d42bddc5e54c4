/-
  checkFields: a contract that the statements' walks use.
-/
import Derived.Test.YthefijjdffafkaaDoorRnQ
import Derived.Deep.RegionHeld2
import Derived.Deep.RegionHeld3
namespace Go.Proofs.YthefijjdffafkaaDoor
open Go.RowKit
set_option linter.unusedVariables false
set_option maxRecDepth 100000

theorem or_no (B : Ending → World → Prop) (e : Ending) (w : World) (h : B e w) : (e = .returned (.tuple #[]) ∧ Hid False) ∨ B e w := .inr h
def flA (l : List Fd) : Ending := if fstE l = 0 then .returned (.int .i64 (lenL l)) else .panicked [refP (fstE l)]
set_option maxHeartbeats 8000000 in
theorem flds_any (x : Sv) (l : List Fd) (w : World) (hx : SegF w x.a l) (hl : l.length = x.n) (hc : x.n ≤ x.c) (hb : l.length ≤ 8796093022208) (hd : BdF l) : Calls Tryd.prog 25 #[.slice x.a x.n x.c] w fun e w' => e = flA l ∧ Q w w' := by
  obtain ⟨xa, xn, xc⟩ := x
  dsimp only at *
  subst hl
  have HX := hid hx
  have HB := hid hb
  have HD := hid hd
  have HXC := hid hc
  have HR := hid (fun x W => refuse_no x W)
  have HY := hid (fun x W => refuse_yes x W)
  clear hx hb hd hc
  go_enter Tryd.func25, Tryd.ntmps25
  go_wp2
  go_loopw [3, 4, 5, 6, 9] (fun n j b m i wr => ∃ k : Nat, k ≤ l.length ∧ i = .int .i64 (k : Int) ∧ n = .int .i64 (lenL (l.take k)) ∧ fstE (l.take k) = 0 ∧ Q w wr) (fun _ _ _ _ i _ => l.length - (intOf i).toNat)
  case atStart => exact ⟨0, by omega, rfl, rfl, rfl, Q.refl _⟩
  case round =>
    obtain ⟨k, hk, rfl, rfl, h0, hq⟩ := hrel
    have HQ := hid hq
    by_cases hlt : k < l.length
    · obtain ⟨g, off, ⟨p1, p2⟩, ha, hp, c0, c1⟩ := (HX.out.q hq).at hlt
      subst ha
      have hpm : (p1, p2) ∈ l := List.mem_of_getElem? hp
      obtain ⟨hs1, hs2⟩ := HD.out _ hpm
      have hFine := fine_of l k hk h0
      dsimp only at c0 c1
      have HA := hid (hq.alloc (.cells #[.string p1, .string p2] 37))
      have HBx := hid (heap_alloc_new wr (.cells #[.string p1, .string p2] 37))
      have hki : (k : Int) < (l.length : Int) := by omega
      have hk0 : (0 : Int) ≤ (k : Int) := by omega
      have hkb : (k : Int) < 8796093022208 := by have := HB.out; omega
      have hkc : (k : Int) ≤ (xc : Int) := by have := HXC.out; omega
      have HNX := hid (fstE_next hp h0)
      have HAT := hid (fstE_at hp h0)
      have HTS := hid (take_snoc hp)
      have HSG := hid (fun W (q : Q wr W) => show SegF W (some ⟨g, off, none⟩) (l.take k) from ((HX.out.q hq).q q).take k)
      have HLT := hid (show (l.take k).length = k from by rw [List.length_take]; omega)
      have HON := hid (show oneE (l.take k) (p1, p2) = orE (if psS p1 then plE (l.take k) p1 else 0) (orE (txE (p1, p2)) (orE (if hopS (p1, p2) then 184 else 0) (lnE (l.take k) (p1, p2)))) from rfl)
      have HPL := hid (plE_P (l.take k) p1 hFine.o)
      have HFI := hid hFine
      have hLN := fun h => lnE_P (l.take k) (p1, p2) hFine h
      dsimp only at hLN
      have HLE := hid hLN
      have hLN0 : eqS p1 kLen = false → lnE (l.take k) (p1, p2) = 0 := fun h => by unfold lnE; rw [if_neg (by rw [h]; decide)]
      have HL0 := hid hLN0
      have HLS := hid (lenL_snoc_no (l.take k) (p1, p2))
      have HLY := hid (fun h => lenL_snoc_yes (l.take k) (p1, p2) h hFine)
      have HS1 := hid hs1
      have HS2 := hid hs2
      have hkl : (p1.toList == [99, 111, 110, 116, 101, 110, 116, 45, 108, 101, 110, 103, 116, 104]) = eqS p1 kLen := beq_lit p1 _
      have HC0 := hid (fun W (q : Q (wr.alloc (.cells #[.string p1, .string p2] 37)) W) => show W.cell? ⟨wr.heap.size, 0, none⟩ = some (.string p1) ∧ W.cell? ⟨wr.heap.size, 1, none⟩ = some (.string p2) from by
        have hb := (Below.block q _ (lt_of_block HBx.out)).trans HBx.out
        exact ⟨by rw [cell_of_row W _ 0 _ 37 (0, 0) hb]; rfl, by rw [cell_of_row W _ 1 _ 37 (0, 0) hb]; rfl⟩)
      clear hq h0 hp hpm hs1 hs2 hFine hLN hLN0
      generalize hpre : l.take k = pre at *
      have HP0 := hid (pseudo_any p1)
      go_wp2_with (go_at_call 34; refine (HP0.out _).mono ?_; rintro e w1 ⟨rfl, rfl⟩; refine Hid.out ?_)
      refine hid ?_
      have HW0 := hid (HQ.out.trans ((Q.refl wr).alloc (.cells #[.string p1, .string p2] 37)))
      have HWR := hid ((Q.refl wr).alloc (.cells #[.string p1, .string p2] 37))
      generalize hW : World.alloc wr _ = W0 at *
      clear hW HA HBx c0 c1
      generalize wr.heap.size = bx at *
      obtain ⟨c00, c01⟩ := HC0.out W0 (Q.refl _)
      have HPK := hid (fun (h : plP pre p1 = 0) W (q : Q W0 W) => place_ok ⟨some ⟨g, off, none⟩, k, xc⟩ p1 pre W (HSG.out W (HWR.out.trans q)) HLT.out (by rw [HLT.out]; have := HB.out; omega) h)
      have HPN := hid (fun (h : plP pre p1 ≠ 0) W (q : Q W0 W) => place_bad ⟨some ⟨g, off, none⟩, k, xc⟩ p1 pre W (HSG.out W (HWR.out.trans q)) HLT.out (by rw [HLT.out]; have := HB.out; omega) h)
      dsimp only at HPK HPN
      cases hps : psS p1 with
      | true =>
        by_cases hpl : plP pre p1 = 0
        · have HPKK := hid (HPK.out hpl)
          clear HPK HPN
          go_wp2_with fail
          go_region_with (go_at_call 35; refine (HPKK.out _ (by repeat (first | (with_reducible exact Q.refl _) | (with_reducible apply Q.drew) | (with_reducible apply Q.drewN)))).mono ?_; rintro e w2 ⟨rfl, q2⟩)
          have QP := hid ((Q.refl W0).drew.trans q2)
          obtain ⟨d0, d1⟩ := HC0.out w2 QP.out
          clear c00 c01 q2
          have HC := hid (fun W (q : Q w2 W) => HC0.out W (QP.out.trans q))
          have QA := hid (Q.refl w2)
          have hON : oneE pre (p1, p2) = orE (txE (p1, p2)) (orE (if hopS (p1, p2) then 184 else 0) (lnE pre (p1, p2))) := by
            rw [HON.out, hps]; rw [if_pos rfl, HPL.out, hpl, orE_ok rfl]
          have HO := hid hON
          clear hON HON HPL HC0 HSG
          have hfe : ∀ y, oneE pre (p1, p2) = y → y ≠ 0 → flA l = .panicked [refP y] := by
            intro y h1 hy
            have h2 := HAT.out (by rw [h1]; exact hy)
            unfold flA
            rw [h2, h1, if_neg hy]
          have HFY := hid hfe
          clear hfe HAT
          have HP := hid (fun W => pseudo_any p1 W)
          by_cases htx : txE (p1, p2) = 0
          · have HT := hid (fun W => texts_ok p1 p2 W HS2.out htx)
            have HH := hid (fun W => hop_any p1 p2 W)
            have hO2 := HO.out
            rw [orE_ok htx] at hO2
            clear HO htx
            cases hhop : hopS (p1, p2) with
            | true =>
              have HFE := hid (HFY.out 184 (by rw [hO2, hhop, if_pos rfl]; rfl) (by decide))
              rw [hhop] at HH
              clear hO2 HFY HNX HLE HL0 HLS HLY HTS hkl HFI hhop
              go_wp2_with (first | (go_at_call 36; refine (HT.out _).mono ?_; rintro e w3 ⟨rfl, q3⟩; have Q3 := hid q3; have d3 := HC.out _ q3; clear q3; obtain ⟨d30, d31⟩ := d3) | (go_at_call 37; refine (HH.out _).mono ?_; rintro e w4 ⟨rfl, q4⟩; have Q4 := hid q4; have d4 := HC.out _ (Q3.out.trans q4); clear q4 d30 d31; obtain ⟨d40, d41⟩ := d4) | (go_at_call_of 33 (Value.bool true); refine (HY.out _ _).mono ?_; rintro e w5 ⟨rfl, rfl⟩))
              exact ⟨rfl, HFE.out.symm, ((HW0.out.trans QP.out).trans Q3.out).trans Q4.out⟩
            | false =>
              rw [hhop] at HH
              rw [hhop, if_neg (by decide), orE_ok rfl] at hO2
              cases hlen : eqS p1 kLen with
              | false =>
                rw [hlen] at hkl
                have HN1 := hid (HNX.out (by rw [hO2]; exact HL0.out hlen))
                have HN2 := hid (show lenL (l.take (k + 1)) = lenL pre from by rw [HTS.out]; exact HLS.out hlen)
                clear hO2 HFY HNX HLE HL0 HLS HLY HTS HFI hhop hlen
                go_wp2_with (first | (go_at_call 36; refine (HT.out _).mono ?_; rintro e w3 ⟨rfl, q3⟩; have Q3 := hid q3; have d3 := HC.out _ q3; clear q3; obtain ⟨d30, d31⟩ := d3) | (go_at_call 37; refine (HH.out _).mono ?_; rintro e w4 ⟨rfl, q4⟩; have Q4 := hid q4; have d4 := HC.out _ (Q3.out.trans q4); clear q4 d30 d31; obtain ⟨d40, d41⟩ := d4) | (go_at_call_of 33 (Value.bool false); refine (HR.out _ _).mono ?_; rintro e w5 ⟨rfl, rfl⟩) | (go_at_call_of 33 (Value.bool true); refine (HY.out _ _).mono ?_; rintro e w5 ⟨rfl, rfl⟩) | (go_at_call 38; refine (HLN.out _).mono ?_; rintro e w6 ⟨rfl, q6⟩; have Q6 := hid q6; clear q6))
                go_roundw
                case rel => exact ⟨k + 1, by omega, by go_num, by rw [HN2.out], HN1.out, ((HW0.out.trans QP.out).trans Q3.out).trans Q4.out⟩
                case measure => simp [intOf]; omega
              | true =>
                rw [hlen] at hkl
                have hO3 := HLE.out hlen
                rw [← hO2] at hO3
                have HLYY := hid (HLY.out hlen)
                by_cases hneg : lenO p2 < 0
                · have HFE := hid (HFY.out 186 (by rw [hO3]; unfold lnP; rw [if_pos hneg]) (by decide))
                  have HLN := hid (fun W => len_bad p2 W hneg)
                  clear hO2 hO3 HFY HNX HLE HL0 HLS HLY HLYY HTS HFI hhop hlen hneg
                  go_wp2_with (first | (go_at_call 36; refine (HT.out _).mono ?_; rintro e w3 ⟨rfl, q3⟩; have Q3 := hid q3; have d3 := HC.out _ q3; clear q3; obtain ⟨d30, d31⟩ := d3) | (go_at_call 37; refine (HH.out _).mono ?_; rintro e w4 ⟨rfl, q4⟩; have Q4 := hid q4; have d4 := HC.out _ (Q3.out.trans q4); clear q4 d30 d31; obtain ⟨d40, d41⟩ := d4) | (go_at_call_of 33 (Value.bool false); refine (HR.out _ _).mono ?_; rintro e w5 ⟨rfl, rfl⟩) | (go_at_call 38; refine (HLN.out _).mono ?_; rintro e w6 ⟨rfl, q6⟩; have Q6 := hid q6; clear q6))
                  exact ⟨rfl, HFE.out.symm, (((HW0.out.trans QP.out).trans Q3.out).trans Q4.out).trans Q6.out⟩
                · have HLN := hid (fun W => len_ok p2 W (by omega))
                  have hO4 : oneE pre (p1, p2) = if lenL pre ≠ -1 ∧ lenO p2 ≠ lenL pre then 186 else 0 := by rw [hO3]; unfold lnP; rw [if_neg hneg]
                  have HLZ := hid (fun (h : lnP pre p2 = 0) => HLYY.out h)
                  have HLQ := hid (show lnP pre p2 = if lenL pre ≠ -1 ∧ lenO p2 ≠ lenL pre then 186 else 0 from by unfold lnP; rw [if_neg hneg])
                  clear hO2 hO3 HLE HL0 HLS HLY HLYY HFI hhop hlen hneg
                  have HTT := hid (show lenL (l.take (k + 1)) = lenL (pre ++ [(p1, p2)]) from by rw [HTS.out])
                  generalize lenL pre = n at *
                  generalize lenO p2 = v at *
                  by_cases hn : n = -1
                  · have hnb : (n != -1) = false := by simp [hn]
                    have hcnd : ¬ (n ≠ -1 ∧ v ≠ n) := fun h => h.1 hn
                    have HN1 := hid (HNX.out (by rw [hO4, if_neg hcnd]))
                    have HN2 := hid (HTT.out.trans (HLZ.out (by rw [HLQ.out, if_neg hcnd])))
                    clear hO4 HLZ HLQ HTT HTS HFY HNX hcnd hn
                    go_wp2_with (first | (go_at_call 36; refine (HT.out _).mono ?_; rintro e w3 ⟨rfl, q3⟩; have Q3 := hid q3; have d3 := HC.out _ q3; clear q3; obtain ⟨d30, d31⟩ := d3) | (go_at_call 37; refine (HH.out _).mono ?_; rintro e w4 ⟨rfl, q4⟩; have Q4 := hid q4; have d4 := HC.out _ (Q3.out.trans q4); clear q4 d30 d31; obtain ⟨d40, d41⟩ := d4) | (go_at_call_of 33 (Value.bool false); refine (HR.out _ _).mono ?_; rintro e w5 ⟨rfl, rfl⟩) | (go_at_call_of 33 (Value.bool true); refine (HY.out _ _).mono ?_; rintro e w5 ⟨rfl, rfl⟩) | (go_at_call 38; refine (HLN.out _).mono ?_; rintro e w6 ⟨rfl, q6⟩; have Q6 := hid q6; clear q6))
                    go_roundw
                    case rel => exact ⟨k + 1, by omega, by go_num, by rw [HN2.out], HN1.out, (((HW0.out.trans QP.out).trans Q3.out).trans Q4.out).trans Q6.out⟩
                    case measure => simp [intOf]; omega
                  · have hnb : (n != -1) = true := by simp [hn]
                    by_cases hv : v = n
                    · have hvb : (v != n) = false := by simp [hv]
                      have hcnd : ¬ (n ≠ -1 ∧ v ≠ n) := fun h => h.2 hv
                      have HN1 := hid (HNX.out (by rw [hO4, if_neg hcnd]))
                      have HN2 := hid (HTT.out.trans (HLZ.out (by rw [HLQ.out, if_neg hcnd])))
                      clear hO4 HLZ HLQ HTT HTS HFY HNX hcnd hn hv
                      go_wp2_with (first | (go_at_call 36; refine (HT.out _).mono ?_; rintro e w3 ⟨rfl, q3⟩; have Q3 := hid q3; have d3 := HC.out _ q3; clear q3; obtain ⟨d30, d31⟩ := d3) | (go_at_call 37; refine (HH.out _).mono ?_; rintro e w4 ⟨rfl, q4⟩; have Q4 := hid q4; have d4 := HC.out _ (Q3.out.trans q4); clear q4 d30 d31; obtain ⟨d40, d41⟩ := d4) | (go_at_call_of 33 (Value.bool false); refine (HR.out _ _).mono ?_; rintro e w5 ⟨rfl, rfl⟩) | (go_at_call_of 33 (Value.bool true); refine (HY.out _ _).mono ?_; rintro e w5 ⟨rfl, rfl⟩) | (go_at_call 38; refine (HLN.out _).mono ?_; rintro e w6 ⟨rfl, q6⟩; have Q6 := hid q6; clear q6))
                      go_roundw
                      case rel => exact ⟨k + 1, by omega, by go_num, by rw [HN2.out], HN1.out, (((HW0.out.trans QP.out).trans Q3.out).trans Q4.out).trans Q6.out⟩
                      case measure => simp [intOf]; omega
                    · have hvb : (v != n) = true := by simp [hv]
                      have HFE := hid (HFY.out 186 (by rw [hO4, if_pos ⟨hn, hv⟩]) (by decide))
                      clear hO4 HLZ HLQ HTT HTS HFY HNX hn hv
                      go_wp2_with (first | (go_at_call 36; refine (HT.out _).mono ?_; rintro e w3 ⟨rfl, q3⟩; have Q3 := hid q3; have d3 := HC.out _ q3; clear q3; obtain ⟨d30, d31⟩ := d3) | (go_at_call 37; refine (HH.out _).mono ?_; rintro e w4 ⟨rfl, q4⟩; have Q4 := hid q4; have d4 := HC.out _ (Q3.out.trans q4); clear q4 d30 d31; obtain ⟨d40, d41⟩ := d4) | (go_at_call_of 33 (Value.bool false); refine (HR.out _ _).mono ?_; rintro e w5 ⟨rfl, rfl⟩) | (go_at_call_of 33 (Value.bool true); refine (HY.out _ _).mono ?_; rintro e w5 ⟨rfl, rfl⟩) | (go_at_call 38; refine (HLN.out _).mono ?_; rintro e w6 ⟨rfl, q6⟩; have Q6 := hid q6; clear q6))
                      exact ⟨rfl, HFE.out.symm, (((HW0.out.trans QP.out).trans Q3.out).trans Q4.out).trans Q6.out⟩
          · have HT := hid (fun W => texts_bad p1 p2 W HS2.out _ rfl htx)
            have HFE := hid (HFY.out (txE (p1, p2)) (by rw [HO.out, orE_no htx]) htx)
            clear HO htx HFY HNX HLE HL0 HLS HLY HTS hkl HFI
            generalize txE (p1, p2) = y at *
            go_wp2_with (go_at_call 36; refine (HT.out _).mono ?_; rintro e w3 ⟨rfl, q3⟩; have Q3 := hid q3; clear q3)
            exact ⟨rfl, HFE.out.symm, (HW0.out.trans QP.out).trans Q3.out⟩
        · have HPNN := hid (HPN.out hpl)
          have HFE := hid (show flA l = .panicked [refP 182] from by
            have h1 : oneE pre (p1, p2) = 182 := by
              rw [HON.out, hps, if_pos rfl, HPL.out]
              rcases plP_cases pre p1 with h | h
              · exact absurd h hpl
              · rw [h]; rfl
            have h2 := HAT.out (by rw [h1]; decide)
            unfold flA
            rw [h2, h1, if_neg (by decide)])
          clear HPK HPN
          go_wp2_with fail
          go_region_with (go_at_call 35; refine ((HPNN.out _ (by repeat (first | (with_reducible exact Q.refl _) | (with_reducible apply Q.drew) | (with_reducible apply Q.drewN)))).mono (or_no _)).mono ?_; rintro e w2 (⟨rfl, hF⟩ | ⟨rfl, q2⟩); rotate_left; (refine ⟨rfl, HFE.out.symm, HW0.out.trans (Q.trans ?_ q2)⟩; exact (Q.refl _).drew))
          exact hF.out.elim
      | false =>
        have QP := hid (Q.refl W0)
        clear HPK HPN
        have HC := hid (fun W (q : Q W0 W) => HC0.out W (QP.out.trans q))
        have QA := hid (Q.refl W0)
        have hON : oneE pre (p1, p2) = orE (txE (p1, p2)) (orE (if hopS (p1, p2) then 184 else 0) (lnE pre (p1, p2))) := by
          rw [HON.out, hps]; rw [if_neg (by decide), orE_ok rfl]
        have HO := hid hON
        clear hON HON HPL HC0 HSG
        have hfe : ∀ y, oneE pre (p1, p2) = y → y ≠ 0 → flA l = .panicked [refP y] := by
          intro y h1 hy
          have h2 := HAT.out (by rw [h1]; exact hy)
          unfold flA
          rw [h2, h1, if_neg hy]
        have HFY := hid hfe
        clear hfe HAT
        have HP := hid (fun W => pseudo_any p1 W)
        by_cases htx : txE (p1, p2) = 0
        · have HT := hid (fun W => texts_ok p1 p2 W HS2.out htx)
          have HH := hid (fun W => hop_any p1 p2 W)
          have hO2 := HO.out
          rw [orE_ok htx] at hO2
          clear HO htx
          cases hhop : hopS (p1, p2) with
          | true =>
            have HFE := hid (HFY.out 184 (by rw [hO2, hhop, if_pos rfl]; rfl) (by decide))
            rw [hhop] at HH
            clear hO2 HFY HNX HLE HL0 HLS HLY HTS hkl HFI hhop
            go_wp2_with (first | (go_at_call 36; refine (HT.out _).mono ?_; rintro e w3 ⟨rfl, q3⟩; have Q3 := hid q3; have d3 := HC.out _ q3; clear q3; obtain ⟨d30, d31⟩ := d3) | (go_at_call 37; refine (HH.out _).mono ?_; rintro e w4 ⟨rfl, q4⟩; have Q4 := hid q4; have d4 := HC.out _ (Q3.out.trans q4); clear q4 d30 d31; obtain ⟨d40, d41⟩ := d4) | (go_at_call_of 33 (Value.bool true); refine (HY.out _ _).mono ?_; rintro e w5 ⟨rfl, rfl⟩))
            exact ⟨rfl, HFE.out.symm, ((HW0.out.trans QP.out).trans Q3.out).trans Q4.out⟩
          | false =>
            rw [hhop] at HH
            rw [hhop, if_neg (by decide), orE_ok rfl] at hO2
            cases hlen : eqS p1 kLen with
            | false =>
              rw [hlen] at hkl
              have HN1 := hid (HNX.out (by rw [hO2]; exact HL0.out hlen))
              have HN2 := hid (show lenL (l.take (k + 1)) = lenL pre from by rw [HTS.out]; exact HLS.out hlen)
              clear hO2 HFY HNX HLE HL0 HLS HLY HTS HFI hhop hlen
              go_wp2_with (first | (go_at_call 36; refine (HT.out _).mono ?_; rintro e w3 ⟨rfl, q3⟩; have Q3 := hid q3; have d3 := HC.out _ q3; clear q3; obtain ⟨d30, d31⟩ := d3) | (go_at_call 37; refine (HH.out _).mono ?_; rintro e w4 ⟨rfl, q4⟩; have Q4 := hid q4; have d4 := HC.out _ (Q3.out.trans q4); clear q4 d30 d31; obtain ⟨d40, d41⟩ := d4) | (go_at_call_of 33 (Value.bool false); refine (HR.out _ _).mono ?_; rintro e w5 ⟨rfl, rfl⟩) | (go_at_call_of 33 (Value.bool true); refine (HY.out _ _).mono ?_; rintro e w5 ⟨rfl, rfl⟩) | (go_at_call 38; refine (HLN.out _).mono ?_; rintro e w6 ⟨rfl, q6⟩; have Q6 := hid q6; clear q6))
              go_roundw
              case rel => exact ⟨k + 1, by omega, by go_num, by rw [HN2.out], HN1.out, ((HW0.out.trans QP.out).trans Q3.out).trans Q4.out⟩
              case measure => simp [intOf]; omega
            | true =>
              rw [hlen] at hkl
              have hO3 := HLE.out hlen
              rw [← hO2] at hO3
              have HLYY := hid (HLY.out hlen)
              by_cases hneg : lenO p2 < 0
              · have HFE := hid (HFY.out 186 (by rw [hO3]; unfold lnP; rw [if_pos hneg]) (by decide))
                have HLN := hid (fun W => len_bad p2 W hneg)
                clear hO2 hO3 HFY HNX HLE HL0 HLS HLY HLYY HTS HFI hhop hlen hneg
                go_wp2_with (first | (go_at_call 36; refine (HT.out _).mono ?_; rintro e w3 ⟨rfl, q3⟩; have Q3 := hid q3; have d3 := HC.out _ q3; clear q3; obtain ⟨d30, d31⟩ := d3) | (go_at_call 37; refine (HH.out _).mono ?_; rintro e w4 ⟨rfl, q4⟩; have Q4 := hid q4; have d4 := HC.out _ (Q3.out.trans q4); clear q4 d30 d31; obtain ⟨d40, d41⟩ := d4) | (go_at_call_of 33 (Value.bool false); refine (HR.out _ _).mono ?_; rintro e w5 ⟨rfl, rfl⟩) | (go_at_call 38; refine (HLN.out _).mono ?_; rintro e w6 ⟨rfl, q6⟩; have Q6 := hid q6; clear q6))
                exact ⟨rfl, HFE.out.symm, (((HW0.out.trans QP.out).trans Q3.out).trans Q4.out).trans Q6.out⟩
              · have HLN := hid (fun W => len_ok p2 W (by omega))
                have hO4 : oneE pre (p1, p2) = if lenL pre ≠ -1 ∧ lenO p2 ≠ lenL pre then 186 else 0 := by rw [hO3]; unfold lnP; rw [if_neg hneg]
                have HLZ := hid (fun (h : lnP pre p2 = 0) => HLYY.out h)
                have HLQ := hid (show lnP pre p2 = if lenL pre ≠ -1 ∧ lenO p2 ≠ lenL pre then 186 else 0 from by unfold lnP; rw [if_neg hneg])
                clear hO2 hO3 HLE HL0 HLS HLY HLYY HFI hhop hlen hneg
                have HTT := hid (show lenL (l.take (k + 1)) = lenL (pre ++ [(p1, p2)]) from by rw [HTS.out])
                generalize lenL pre = n at *
                generalize lenO p2 = v at *
                by_cases hn : n = -1
                · have hnb : (n != -1) = false := by simp [hn]
                  have hcnd : ¬ (n ≠ -1 ∧ v ≠ n) := fun h => h.1 hn
                  have HN1 := hid (HNX.out (by rw [hO4, if_neg hcnd]))
                  have HN2 := hid (HTT.out.trans (HLZ.out (by rw [HLQ.out, if_neg hcnd])))
                  clear hO4 HLZ HLQ HTT HTS HFY HNX hcnd hn
                  go_wp2_with (first | (go_at_call 36; refine (HT.out _).mono ?_; rintro e w3 ⟨rfl, q3⟩; have Q3 := hid q3; have d3 := HC.out _ q3; clear q3; obtain ⟨d30, d31⟩ := d3) | (go_at_call 37; refine (HH.out _).mono ?_; rintro e w4 ⟨rfl, q4⟩; have Q4 := hid q4; have d4 := HC.out _ (Q3.out.trans q4); clear q4 d30 d31; obtain ⟨d40, d41⟩ := d4) | (go_at_call_of 33 (Value.bool false); refine (HR.out _ _).mono ?_; rintro e w5 ⟨rfl, rfl⟩) | (go_at_call_of 33 (Value.bool true); refine (HY.out _ _).mono ?_; rintro e w5 ⟨rfl, rfl⟩) | (go_at_call 38; refine (HLN.out _).mono ?_; rintro e w6 ⟨rfl, q6⟩; have Q6 := hid q6; clear q6))
                  go_roundw
                  case rel => exact ⟨k + 1, by omega, by go_num, by rw [HN2.out], HN1.out, (((HW0.out.trans QP.out).trans Q3.out).trans Q4.out).trans Q6.out⟩
                  case measure => simp [intOf]; omega
                · have hnb : (n != -1) = true := by simp [hn]
                  by_cases hv : v = n
                  · have hvb : (v != n) = false := by simp [hv]
                    have hcnd : ¬ (n ≠ -1 ∧ v ≠ n) := fun h => h.2 hv
                    have HN1 := hid (HNX.out (by rw [hO4, if_neg hcnd]))
                    have HN2 := hid (HTT.out.trans (HLZ.out (by rw [HLQ.out, if_neg hcnd])))
                    clear hO4 HLZ HLQ HTT HTS HFY HNX hcnd hn hv
                    go_wp2_with (first | (go_at_call 36; refine (HT.out _).mono ?_; rintro e w3 ⟨rfl, q3⟩; have Q3 := hid q3; have d3 := HC.out _ q3; clear q3; obtain ⟨d30, d31⟩ := d3) | (go_at_call 37; refine (HH.out _).mono ?_; rintro e w4 ⟨rfl, q4⟩; have Q4 := hid q4; have d4 := HC.out _ (Q3.out.trans q4); clear q4 d30 d31; obtain ⟨d40, d41⟩ := d4) | (go_at_call_of 33 (Value.bool false); refine (HR.out _ _).mono ?_; rintro e w5 ⟨rfl, rfl⟩) | (go_at_call_of 33 (Value.bool true); refine (HY.out _ _).mono ?_; rintro e w5 ⟨rfl, rfl⟩) | (go_at_call 38; refine (HLN.out _).mono ?_; rintro e w6 ⟨rfl, q6⟩; have Q6 := hid q6; clear q6))
                    go_roundw
                    case rel => exact ⟨k + 1, by omega, by go_num, by rw [HN2.out], HN1.out, (((HW0.out.trans QP.out).trans Q3.out).trans Q4.out).trans Q6.out⟩
                    case measure => simp [intOf]; omega
                  · have hvb : (v != n) = true := by simp [hv]
                    have HFE := hid (HFY.out 186 (by rw [hO4, if_pos ⟨hn, hv⟩]) (by decide))
                    clear hO4 HLZ HLQ HTT HTS HFY HNX hn hv
                    go_wp2_with (first | (go_at_call 36; refine (HT.out _).mono ?_; rintro e w3 ⟨rfl, q3⟩; have Q3 := hid q3; have d3 := HC.out _ q3; clear q3; obtain ⟨d30, d31⟩ := d3) | (go_at_call 37; refine (HH.out _).mono ?_; rintro e w4 ⟨rfl, q4⟩; have Q4 := hid q4; have d4 := HC.out _ (Q3.out.trans q4); clear q4 d30 d31; obtain ⟨d40, d41⟩ := d4) | (go_at_call_of 33 (Value.bool false); refine (HR.out _ _).mono ?_; rintro e w5 ⟨rfl, rfl⟩) | (go_at_call_of 33 (Value.bool true); refine (HY.out _ _).mono ?_; rintro e w5 ⟨rfl, rfl⟩) | (go_at_call 38; refine (HLN.out _).mono ?_; rintro e w6 ⟨rfl, q6⟩; have Q6 := hid q6; clear q6))
                    exact ⟨rfl, HFE.out.symm, (((HW0.out.trans QP.out).trans Q3.out).trans Q4.out).trans Q6.out⟩
        · have HT := hid (fun W => texts_bad p1 p2 W HS2.out _ rfl htx)
          have HFE := hid (HFY.out (txE (p1, p2)) (by rw [HO.out, orE_no htx]) htx)
          clear HO htx HFY HNX HLE HL0 HLS HLY HTS hkl HFI
          generalize txE (p1, p2) = y at *
          go_wp2_with (go_at_call 36; refine (HT.out _).mono ?_; rintro e w3 ⟨rfl, q3⟩; have Q3 := hid q3; clear q3)
          exact ⟨rfl, HFE.out.symm, (HW0.out.trans QP.out).trans Q3.out⟩
    · have hki : ¬ (k : Int) < (l.length : Int) := by omega
      have hfin : flA l = .returned (.int .i64 (lenL (l.take k))) := by
        rw [List.take_of_length_le (by omega)] at h0 ⊢
        unfold flA; rw [if_pos h0]
      have HF := hid hfin
      generalize lenL (l.take k) = v at *
      clear hq h0 hfin
      go_wp2
      go_ret
      exact ⟨by rw [HF.out]; rfl, HQ.out⟩
end Go.Proofs.YthefijjdffafkaaDoor
