/-
  The law on clean requests, walked whole.
-/
import Derived.Test.YthefijjdffafkaaDoorClM
import Derived.Test.YthefijjdffafkaaDoorDoD
import Derived.Test.YthefijjdffafkaaDoorSmF
import Derived.Test.YthefijjdffafkaaDoorTrW
import Derived.Deep.Cut
namespace Go.Proofs.YthefijjdffafkaaDoor
open Go.RowKit
set_option linter.unusedVariables false
set_option maxRecDepth 100000

theorem rows_texts {W : World} {g : Nat} {ps : List ByteArray} (h : Blk W g 9 (ps.map Value.string).toArray) {k : Nat} {s : ByteArray} (hk : ps[k]? = some s) : W.cell? ⟨g, k, none⟩ = some (.string s) := by rw [h.cell]; simp [hk]
set_option maxHeartbeats 16000000 in
theorem clean_walk (x : Sv) (l : List Fd) (w : World) (h : Fin w x l) : Calls Tryd.prog 3 #[.slice x.a x.n x.c] w fun e w' => e = .returned (.bool true) ∧ Q w w' := by
  obtain ⟨xa, xn, xc⟩ := x
  have hl := h.len
  dsimp only at hl
  subst hl
  have HB4 := hid h.b
  have HCP := hid (copy_any ⟨xa, l.length, xc⟩ l w h)
  have HWD := hid wide_any
  have HCK := hid (fun a W (f : Fin W ⟨a, l.length, l.length⟩ l) => (by have := check_any ⟨a, l.length, l.length⟩ l 1048576 1073741824 W f; unfold chV rqV at this; exact this : Calls Tryd.prog 6 #[.slice a l.length l.length, .agg #[.int .i64 1048576, .int .i64 1073741824]] W fun e w' => ∃ y : Sv, e = .returned (.tuple #[.agg (rqC (chR l 1048576 1073741824).m (chR l 1048576 1073741824).s (chR l 1048576 1073741824).a (chR l 1048576 1073741824).p y (chR l 1048576 1073741824).len), .int .i64 (chE l 1048576 1073741824)]) ∧ Q W w' ∧ RowG w' y (chR l 1048576 1073741824).fs ∧ New W.heap.size y))
  have HAW := hid awake_any
  have HFN := hid (fun W a (r : RowG W ⟨a, l.length, l.length⟩ l) => r.fin (Nat.le_refl _) h.b h.d)
  have HD := hid h.d
  dsimp only at HCP HCK
  clear h
  go_enter Tryd.func3, Tryd.ntmps3
  go_wp2_with fail
  refine HCP.out.mono ?_
  rintro e w1 ⟨g, rfl, q1, r1, n1⟩
  have Q1 := hid q1
  have R1 := hid r1
  clear q1 r1 n1 HCP
  go_wp2_with fail
  refine (HWD.out _).mono ?_
  rintro e w2 ⟨rfl, q2⟩
  have Q2 := hid (Q1.out.trans q2)
  have F2 := hid (HFN.out _ _ (R1.out.q q2))
  clear q2 Q1 R1 HFN HWD
  go_wp2_with fail
  refine (HCK.out _ _ F2.out).mono ?_
  rintro e w3 ⟨⟨ya, yn, yc⟩, rfl, q3, ry, ny⟩
  have Q3 := hid (Q2.out.trans q3)
  have RY := hid ry
  clear q3 ny ry F2 HCK Q2
  by_cases hE : chE l 1048576 1073741824 = 0
  · obtain ⟨hcr, hf⟩ := clr_of hE
    have hR : chR l 1048576 1073741824 = ⟨metO l, schO l, autO l, patO l, plnL l, lenL l⟩ := by unfold chR; rw [if_pos hE]; rfl
    rw [hR] at RY ⊢
    rw [hE]
    have HCF := hid (fun p (hp : p ∈ plnL l) => clf_of hf hp)
    have HPL := hid (pln_len l)
    have HSF := hid (fun p (hp : p ∈ plnL l) => HD.out p (by unfold plnL at hp; exact (List.mem_filter.1 hp).1))
    have HSM := hid (fnd_size HD.out kMet)
    have HSS := hid (fnd_size HD.out kSch)
    have HSP := hid (fnd_size HD.out kPat)
    have HSA := hid (show (autO l).size ≤ 140737488355328 from by
      show ((autW l).getD ⟨#[]⟩).size ≤ _
      unfold autW
      cases hb : fnd l kAut with
      | none => exact fnd_size HD.out kHos
      | some v => have := fnd_size HD.out kAut; rw [hb] at this; exact this)
    dsimp only at RY
    dsimp only
    change Hid ((metO l).size ≤ _) at HSM
    change Hid ((schO l).size ≤ _) at HSS
    change Hid ((patO l).size ≤ _) at HSP
    clear hR hE hf
    generalize metO l = m at *
    generalize schO l = sc at *
    generalize autO l = au at *
    generalize patO l = pa at *
    generalize lenL l = ln at *
    generalize plnL l = fs at *
    have HCR := hid hcr
    have q4 : Q w3 (w3.alloc (.cells #[.string m, .string sc, .string au, .string pa, .slice ya yn yc, .int .i64 ln] 24)) := (Q.refl w3).alloc _
    have Q4 := hid (Q3.out.trans q4)
    have Y4 := hid (RY.out.q q4)
    have B4 := hid (show Blk (w3.alloc (.cells #[.string m, .string sc, .string au, .string pa, .slice ya yn yc, .int .i64 ln] 24)) w3.heap.size 24 (rqC m sc au pa ⟨ya, yn, yc⟩ ln) from blk_new w3 _ 24)
    clear q4 RY Q3 hcr
    go_upto_region 2 with fail
    generalize hW : World.alloc w3 _ = W4 at *
    clear hW
    generalize w3.heap.size = b3 at *
    have c0 : W4.cell? ⟨b3, 0, none⟩ = some (.string m) := B4.out.cell 0
    have c1 : W4.cell? ⟨b3, 1, none⟩ = some (.string sc) := B4.out.cell 1
    have c2 : W4.cell? ⟨b3, 2, none⟩ = some (.string au) := B4.out.cell 2
    have c3 : W4.cell? ⟨b3, 3, none⟩ = some (.string pa) := B4.out.cell 3
    have q5 : Q W4 (W4.alloc (.cells #[.string m, .string sc, .string au, .string pa] 9)) := (Q.refl W4).alloc _
    have Q5 := hid (Q4.out.trans q5)
    have Y5 := hid (Y4.out.q q5)
    have B5 := hid (B4.out.q q5)
    have T5 := hid (show Blk (W4.alloc (.cells #[.string m, .string sc, .string au, .string pa] 9)) W4.heap.size 9 ([m, sc, au, pa].map Value.string).toArray from blk_new W4 _ 9)
    have HTX := hid (show ∀ k s, [m, sc, au, pa][k]? = some s → allB visB s = true ∧ s.size ≤ 140737488355328 from fun k s hk => by
      have hm := List.mem_of_getElem? hk
      simp only [List.mem_cons, List.not_mem_nil, or_false] at hm
      rcases hm with rfl | rfl | rfl | rfl
      · exact ⟨HCR.out.vm, HSM.out⟩
      · exact ⟨HCR.out.vs, HSS.out⟩
      · exact ⟨HCR.out.va, HSA.out⟩
      · exact ⟨HCR.out.vp, HSP.out⟩)
    clear q5 Q4 Y4 B4
    go_wp2_with fail
    generalize hW : World.alloc W4 _ = W5 at *
    clear hW
    generalize W4.heap.size = b5 at *
    clear c0 c1 c2 c3
    go_loop [37] (fun i => ∃ k : Nat, k ≤ 4 ∧ i = .int .i64 (k : Int)) (fun i => 4 - (intOf i).toNat)
    case atStart => exact ⟨0, by omega, rfl⟩
    case round =>
      obtain ⟨k, hk, rfl⟩ := hrel
      by_cases hlt : k < 4
      · have hps : [m, sc, au, pa][k]? = some ([m, sc, au, pa][k]'hlt) := List.getElem?_eq_getElem hlt
        generalize [m, sc, au, pa][k]'hlt = s at hps
        have cs : W5.cell? ⟨b5, k, none⟩ = some (.string s) := rows_texts T5.out hps
        obtain ⟨hv, hsz⟩ := HTX.out k s hps
        have hki : (k : Int) < 4 := by omega
        have hk0 : (0 : Int) ≤ (k : Int) := by omega
        have HV := hid ((allB_iff visB s).1 hv)
        have HSZ := hid hsz
        clear hv hsz hps
        go_wp2_with fail
        go_loop [43] (fun i => ∃ j : Nat, j ≤ s.size ∧ i = .int .i64 (j : Int)) (fun i => s.size - (intOf i).toNat)
        case atStart => exact ⟨0, by omega, rfl⟩
        case round =>
          obtain ⟨j, hj, rfl⟩ := hrel
          by_cases hjt : j < s.size
          · have hix := fun W => str_ix s j hjt W
            have hji : (j : Int) < (s.size : Int) := by omega
            have hj0 : (0 : Int) ≤ (j : Int) := by omega
            have hjb : (j : Int) < 140737488355328 := by have := HSZ.out; omega
            have hcb : (s[j]'hjt).toNat < 256 := UInt8.toNat_lt _
            have hn := HV.out j hjt
            generalize (s[j]'hjt).toNat = cc at *
            simp only [visB, Bool.not_eq_true', Bool.or_eq_false_iff, decide_eq_false_iff_not] at hn
            obtain ⟨h32, h127⟩ := hn
            have e0 : ¬ (cc : Int) ≤ 32 := by omega
            have e1 : ¬ (127 : Int) ≤ (cc : Int) := by omega
            go_wp2_with fail
            go_round
            case rel => exact ⟨j + 1, by omega, by go_num⟩
            case measure => simp [intOf]; omega
          · have hji : ¬ (j : Int) < (s.size : Int) := by omega
            go_wp2_with fail
            go_round
            case rel => exact ⟨k + 1, by omega, by go_num⟩
            case measure => simp [intOf]; omega
      · have hki : ¬ (k : Int) < 4 := by omega
        have c4 : W5.cell? ⟨b3, 4, none⟩ = some (.slice ya yn yc) := B5.out.cell 4
        have YL := hid Y5.out.len
        clear HTX HSM HSS HSP HSA T5
        go_wp2_with fail
        clear c4
        go_loopw [61] (fun i wr => ∃ k : Nat, k ≤ yn ∧ i = .int .i64 (k : Int) ∧ Q W5 wr) (fun i _ => yn - (intOf i).toNat)
        case atStart => exact ⟨0, by omega, rfl, Q.refl _⟩
        case round =>
          obtain ⟨k, hk, rfl, hq⟩ := hrel
          have HQ := hid hq
          by_cases hlt : k < yn
          · have hlf : k < fs.length := by have := YL.out; omega
            have hp : fs[k]? = some (fs[k]'hlf) := List.getElem?_eq_getElem hlf
            generalize fs[k]'hlf = p at hp
            obtain ⟨p1, p2⟩ := p
            obtain ⟨g2, off, ha, d0, d1⟩ := (Y5.out.q hq).get hp
            dsimp only at ha d0 d1
            subst ha
            have hpm : (p1, p2) ∈ fs := List.mem_of_getElem? hp
            have hcf := HCF.out _ hpm
            have hsf := HSF.out _ hpm
            have hki : (k : Int) < (yn : Int) := by omega
            have hk0 : (0 : Int) ≤ (k : Int) := by omega
            have hkb : (k : Int) < 8796093022208 := by have h1 := YL.out; have h2 := HPL.out; have h3 := HB4.out; omega
            have HB1 := hid (fun W => bad_no p1 W hsf.1 hcf.nb)
            have HB2 := hid (fun W => bad_no p2 W hsf.2 hcf.vb)
            have HHP := hid (fun W => rhop_any p1 p2 W)
            rw [hcf.hp] at HHP
            have hh : (p1.toList == [104, 111, 115, 116]) = false := (beq_lit p1 _).trans hcf.ho
            have hn0 : (p1.toList == []) = false := (beq_lit p1 _).trans hcf.ne
            have HNF := hid ((allB_iff nfB p1).1 hcf.nf)
            have HS1 := hid hsf.1
            have HW0 := hid (hq.alloc (.cells #[.string p1, .string p2] 37))
            have HBx := hid (heap_alloc_new wr (.cells #[.string p1, .string p2] 37))
            have HC := hid (fun W (q : Q (wr.alloc (.cells #[.string p1, .string p2] 37)) W) => show W.cell? ⟨wr.heap.size, 0, none⟩ = some (.string p1) ∧ W.cell? ⟨wr.heap.size, 1, none⟩ = some (.string p2) from by
              have hb := (Below.block q _ (lt_of_block HBx.out)).trans HBx.out
              exact ⟨by rw [cell_of_row W _ 0 _ 37 (0, 0) hb]; rfl, by rw [cell_of_row W _ 1 _ 37 (0, 0) hb]; rfl⟩)
            clear hq hp hpm hcf hsf hlf
            go_upto_region 17 with fail
            generalize hW : World.alloc wr _ = WA at *
            clear hW HBx d0 d1
            generalize wr.heap.size = bx at *
            obtain ⟨c00, c01⟩ := HC.out WA (Q.refl _)
            go_wp2_with fail
            refine (HB1.out _).mono ?_
            rintro e w6 ⟨rfl, h6⟩
            replace h6 := h6.symm
            subst h6
            go_wp2_with fail
            refine (HB2.out _).mono ?_
            rintro e w6 ⟨rfl, h6⟩
            replace h6 := h6.symm
            subst h6
            go_wp2_with fail
            refine (HHP.out _).mono ?_
            rintro e w7 ⟨rfl, q7⟩
            have Q7 := hid (HW0.out.trans q7)
            have d4 := HC.out _ q7
            clear q7 c00 c01 HC HW0
            obtain ⟨d40, d41⟩ := d4
            go_wp2_with fail
            go_loop [90] (fun i => ∃ j : Nat, j ≤ p1.size ∧ i = .int .i64 (j : Int)) (fun i => p1.size - (intOf i).toNat)
            case atStart => exact ⟨0, by omega, rfl⟩
            case round =>
              obtain ⟨j, hj, rfl⟩ := hrel
              by_cases hjt : j < p1.size
              · have hix := fun W => str_ix p1 j hjt W
                have hji : (j : Int) < (p1.size : Int) := by omega
                have hj0 : (0 : Int) ≤ (j : Int) := by omega
                have hjb : (j : Int) < 140737488355328 := by have := HS1.out; omega
                have hcb : (p1[j]'hjt).toNat < 256 := UInt8.toNat_lt _
                have hn := HNF.out j hjt
                generalize (p1[j]'hjt).toNat = cc at *
                simp only [nfB, Bool.not_eq_true', Bool.or_eq_false_iff, decide_eq_false_iff_not, Bool.and_eq_false_iff] at hn
                obtain ⟨⟨⟨h32, h127⟩, h58⟩, hcap⟩ := hn
                have e0 : ¬ (cc : Int) ≤ 32 := by omega
                have e1 : ¬ (127 : Int) ≤ (cc : Int) := by omega
                have e2 : ((cc : Int) == 58) = false := by simp; omega
                by_cases h65 : 65 ≤ cc
                · have e3 : (65 : Int) ≤ (cc : Int) := by omega
                  have e4 : ¬ (cc : Int) ≤ 90 := by rcases hcap with h | h <;> omega
                  clear hcap
                  go_wp2_with fail
                  go_round
                  case rel => exact ⟨j + 1, by omega, by go_num⟩
                  case measure => simp [intOf]; omega
                · have e3 : ¬ (65 : Int) ≤ (cc : Int) := by omega
                  clear hcap
                  go_wp2_with fail
                  go_round
                  case rel => exact ⟨j + 1, by omega, by go_num⟩
                  case measure => simp [intOf]; omega
              · have hji : ¬ (j : Int) < (p1.size : Int) := by omega
                go_wp2_with fail
                go_roundw
                case rel => exact ⟨k + 1, by omega, by go_num, Q7.out⟩
                case measure => simp [intOf]; omega
          · have hki : ¬ (k : Int) < (yn : Int) := by omega
            have B6 := hid (B5.out.q hq)
            have c0 : wr.cell? ⟨b3, 0, none⟩ = some (.string m) := B6.out.cell 0
            have c2 : wr.cell? ⟨b3, 2, none⟩ = some (.string au) := B6.out.cell 2
            have c3 : wr.cell? ⟨b3, 3, none⟩ = some (.string pa) := B6.out.cell 3
            have hm0 : (m.toList == []) = false := (beq_lit m _).trans HCR.out.nm
            have ha0 : (au.toList == []) = false := (beq_lit au _).trans HCR.out.na
            have hmc : (m.toList == [67, 79, 78, 78, 69, 67, 84]) = eqS m kCNT := beq_lit m _
            have hpc : (pa.toList == []) = eqS m kCNT := (beq_lit pa _).trans HCR.out.c.symm
            have Q6 := hid (Q5.out.trans hq)
            clear hq HCF HSF HCR
            generalize eqS m kCNT = cn at *
            cases cn
            all_goals
              go_wp2_with (go_at_call 10; refine (HAW.out _).mono ?_; rintro e w9 ⟨rfl, q9⟩; have Q9 := hid (Q6.out.trans q9); clear q9)
              go_ret
              exact ⟨rfl, Q9.out⟩
  · have hR : chR l 1048576 1073741824 = rq0 := by unfold chR; rw [if_neg hE]
    rw [hR] at RY ⊢
    dsimp only [rq0] at RY ⊢
    have hEb : (chE l 1048576 1073741824 != 0) = true := by simp [hE]
    have HSA := hid (fun W (q : Q w3 W) => (by have := req_same rq0 ⟨ya, yn, yc⟩ ⟨none, 0, 0⟩ W (RY.out.q q) (sub_nil _ _ _) (by decide); unfold rqV at this; exact this : Calls Tryd.prog 9 #[.agg (rqC ⟨#[]⟩ ⟨#[]⟩ ⟨#[]⟩ ⟨#[]⟩ ⟨ya, yn, yc⟩ 0), .agg (rqC ⟨#[]⟩ ⟨#[]⟩ ⟨#[]⟩ ⟨#[]⟩ ⟨none, 0, 0⟩ 0)] W fun e w' => e = .returned (.bool true) ∧ Q W w'))
    generalize chE l 1048576 1073741824 = E at *
    have q4 : Q w3 (w3.alloc (.cells (rqC ⟨#[]⟩ ⟨#[]⟩ ⟨#[]⟩ ⟨#[]⟩ ⟨ya, yn, yc⟩ 0) 24)) := (Q.refl w3).alloc _
    have Q4 := hid (Q3.out.trans q4)
    have B4 := hid (show Blk (w3.alloc (.cells (rqC ⟨#[]⟩ ⟨#[]⟩ ⟨#[]⟩ ⟨#[]⟩ ⟨ya, yn, yc⟩ 0) 24)) w3.heap.size 24 (rqC ⟨#[]⟩ ⟨#[]⟩ ⟨#[]⟩ ⟨#[]⟩ ⟨ya, yn, yc⟩ 0) from blk_new w3 _ 24)
    have HS4 := hid (HSA.out _ q4)
    clear q4 hR RY HSA
    go_upto_region 3 with fail
    generalize hW : World.alloc w3 _ = W4 at *
    clear hW
    generalize w3.heap.size = b3 at *
    go_wp2_with (first
      | (refine wpList_load_row rfl 24 _ rfl b3 rfl 24 _ (0, 0) _ B4.out Tryd.underlying24 rfl (info27 ⟨#[]⟩ ⟨#[]⟩ ⟨#[]⟩ ⟨#[]⟩ ⟨ya, yn, yc⟩ 0) ?_)
      | (go_at_call 9; refine HS4.out.mono ?_; rintro e w8 ⟨rfl, q8⟩; have Q8 := hid (Q4.out.trans q8); clear q8)
      | (go_at_call 10; refine (HAW.out _).mono ?_; rintro e w9 ⟨rfl, q9⟩; have Q9 := hid (Q8.out.trans q9); clear q9))
    go_ret
    exact ⟨rfl, Q9.out⟩
end Go.Proofs.YthefijjdffafkaaDoor
