/-
  What send does: a contract that the statements' walks use.
-/
import Derived.Test.YtjhihcmemnhbbaaApp
import Derived.Deep.Cut
import Derived.Deep.CutRange
import Derived.StillTailTactics
namespace Go.Proofs.Ytjhihcmemnhbbaa
open Go.RowKit
set_option linter.unusedVariables false
set_option maxRecDepth 20000

theorem put_put (S : Lo) (k : Nat) (x y : Sc) : (S.put k x).put k y = S.put k y := by
  unfold Lo.put; simp only [upd_twice]
theorem put_sp (S : Lo) (k : Nat) (x : Sc) : (S.put k x).sp k = x := upd_same _ _ _

set_option maxHeartbeats 4000000 in
theorem send_any {w : World} {rb : Nat} {r : Nat → Sv} {S : Lo} (h : La w rb r S) {k : Nat} (hk : k < 3) (p : Pk) (hf : (S.sp k).out.length ≤ 4096) (hm : (S.sp k).sent.length ≤ 4398046511103) (hg0 : -1 ≤ gs (S.sp k).sent) (hg1 : gs (S.sp k).sent ≤ 4611686018427387903) :
    Calls Try.prog 24 #[.pointer (some ⟨rb, 2 + k * 5, none⟩), .agg #[.int .i64 p.n, .int .i64 p.s, .int .i64 p.a, .bool p.e]] w fun e w' => e = .returned (.tuple #[]) ∧ ∃ r', Wr w w' rb r r' (S.put k (sendS (S.sp k) p)) := by
  have hlt := h.hd.lt
  obtain ⟨pn, ps, pa, pe⟩ := p
  obtain ⟨s', hs'⟩ : ∃ s', s' = (sendP ⟨pn, ps, pa, pe⟩).s := ⟨_, rfl⟩
  obtain ⟨C0, hC0⟩ : ∃ C0, C0 = S.put k { S.sp k with last := if pe then pa else (S.sp k).last } := ⟨_, rfl⟩
  obtain ⟨C1, hC1⟩ : ∃ C1, C1 = C0.put k { C0.sp k with out := (C0.sp k).out ++ [⟨pn, s', pa, pe⟩] } := ⟨_, rfl⟩
  have HT := hid (show (C1.sp k).sent = (S.sp k).sent by rw [hC1, put_sp, hC0, put_sp])
  have HO := hid (show (C0.sp k).out = (S.sp k).out by rw [hC0, put_sp])
  have HF := hid (show ∀ l : List Spn, l = sentL (S.sp k).sent pn → C1.put k { C1.sp k with sent := l } = S.put k (sendS (S.sp k) ⟨pn, ps, pa, pe⟩) by
    intro l hl; subst hl; rw [hC1, put_sp, put_put, hC0, put_sp, put_put]
    have : (⟨pn, s', pa, pe⟩ : Pk) = sendP ⟨pn, ps, pa, pe⟩ := by rw [hs']; cases pe <;> rfl
    rw [this]; rfl)
  have HC0 := hid hC0
  have HC1 := hid hC1
  have HS := hid hs'
  have H := hid h
  have HLT := hid hlt
  have HM := hid hm
  have HFW := hid hf
  have G0 := hid hg0
  have G1 := hid hg1
  clear h hlt hs' hC0 hC1 hm hf hg0 hg1
  go_enter Try.func24, Try.ntmps24
  go_upto_if 6 with fail
  go_cut [] from 4 (fun wc => Wr w wc rb r r C0 ∧ wc.heap[w.heap.size]? = some (.cells #[.int .i64 pn, .int .i64 s', .int .i64 pa, .bool pe] 73 (0, 0)))
  case first =>
    cases pe
    · obtain rfl : s' = 0 := HS.out
      go_wp2_with fail
      go_meet
      case rel =>
        have e0 : C0 = S := by rw [HC0.out]; show S.put k (S.sp k) = S; unfold Lo.put; rw [upd_self]
        rw [e0]
        exact ⟨Wr.ofQ H.out ((Q.refl w).alloc _), heap_alloc_new w _⟩
    · obtain rfl : s' = ps := HS.out
      have hA := H.out.q ((Q.refl w).alloc (.cells #[.int .i64 pn, .int .i64 s', .int .i64 pa, .bool true] 73))
      have cl := hA.hd.last hk
      have fl := hA.hd.free (2 + k * 5 + 3)
      have HA := hid hA
      clear hA
      go_wp2_with fail
      go_meet
      case rel =>
        refine ⟨?_, ?_⟩
        · rw [HC0.out]
          refine Wr.ql ((Q.refl w).alloc _) H.out (HA.out.setHd _ _ (HA.out.hd.last_ hk pa) (fun i hi => ?_))
          by_cases e1 : i = k
          · subst e1; rw [put_sp]; exact ⟨rfl, rfl⟩
          · simp [Lo.put, upd_other S.sp _ e1]
        · rw [heap_setCell_other _ _ _ _ (by have := HLT.out; simp; omega)]; exact heap_alloc_new w _
  case rest =>
    obtain ⟨W0, hb0⟩ := hcut
    have hB := W0.la
    have hdr := (Q.refl wc).drew
    obtain ⟨d2, w2, hr2, hrow2, hk2, hb2⟩ := rowP_one ⟨pn, s', pa, pe⟩ ((hB.q hdr).rs.o k hk) (by have := ((hB.q hdr).rs.o k hk).len; have h1 := HO.out; have h2 := HFW.out; rw [h1] at this; omega)
    have W2 := W0.trans (Wr.ql hdr hB ((hB.q hdr).newOut hk hk2 hrow2 hb2))
    rw [← HC1.out] at W2
    have b0 : wc.cell? ⟨w.heap.size, 0, none⟩ = some (.int .i64 pn) := by rw [cell_of_row _ _ _ _ 73 (0, 0) hb0]; rfl
    have b1 : wc.cell? ⟨w.heap.size, 1, none⟩ = some (.int .i64 s') := by rw [cell_of_row _ _ _ _ 73 (0, 0) hb0]; rfl
    have b2 : wc.cell? ⟨w.heap.size, 2, none⟩ = some (.int .i64 pa) := by rw [cell_of_row _ _ _ _ 73 (0, 0) hb0]; rfl
    have b3 : wc.cell? ⟨w.heap.size, 3, none⟩ = some (.bool pe) := by rw [cell_of_row _ _ _ _ 73 (0, 0) hb0]; rfl
    have c0 := hB.hd.out hk
    have qa := (Q.refl wc).alloc (.cells #[.int .i64 pn, .int .i64 s', .int .i64 pa, .bool pe] 73)
    have c0a := (hB.q qa).hd.out hk
    have hkh := (hB.q hdr).hd.keep hk2 (fun e => hB.rs.far _ (by omega) e)
    have c0' := hkh.out hk
    have f0' := hkh.free (2 + k * 5)
    have HR2 := hid hr2
    have hb3 : (w2.setCell ⟨rb, 2 + k * 5, none⟩ (.slice d2.a d2.n d2.c)).heap[w.heap.size]? = some (.cells #[.int .i64 pn, .int .i64 s', .int .i64 pa, .bool pe] 73 (0, 0)) := by
      rw [heap_setCell_other _ _ _ _ (by have := HLT.out; simp; omega), hk2.block _ (lt_of_block hb0) (fun e => by have := H.out.rs.lt (i := 2 * k) (by omega) _ e; omega)]; exact hb0
    have W2h := hid W2
    have HB3 := hid hb3
    clear W0 hb0 hB hdr hr2 hrow2 hk2 hb2 W2 qa hkh hb3
    go_upto_region 4 with fail
    go_cut [] from 4 (fun wc => ∃ r', Wr w wc rb r r' C1 ∧ wc.heap[w.heap.size]? = some (.cells #[.int .i64 pn, .int .i64 s', .int .i64 pa, .bool pe] 73 (0, 0)))
    case first =>
      go_region_law (refine step_append rfl _ _ _ _ rfl (by simp [Act.eval]) (by simp [Act.eval]) HR2.out ?_)
      all_goals
        go_wp2_with fail
        go_meet
        case rel => exact ⟨_, W2h.out, HB3.out⟩
    case rest =>
      obtain ⟨r1, W3, hb3⟩ := hcut
      clear W2h HB3 HR2 b0 b1 b2 b3 c0 c0a c0' f0'
      have c1 := W3.la.hd.sent hk
      have ht := W3.la.rs.t k hk
      have hl := ht.len
      rw [HT.out] at ht hl
      have b0 : wc.cell? ⟨w.heap.size, 0, none⟩ = some (.int .i64 pn) := by rw [cell_of_row _ _ _ _ 73 (0, 0) hb3]; rfl
      have hmx := HM.out
      have W3h := hid W3
      have HB3 := hid hb3
      have HTR := hid ht
      have HL := hid hl
      have G := hid (fun (n : Nat) => great_any (W3.la.q ((Q.refl wc).drewN n)) hk)
      rw [HT.out] at G
      have CAP := hid ht.cap
      clear W3 hb3 ht
      obtain ⟨cnd, hcnd⟩ : ∃ cnd : Bool, cnd = decide ((S.sp k).sent ≠ [] ∧ pn = gs (S.sp k).sent + 1) := ⟨_, rfl⟩
      have HCN := hid hcnd
      clear hcnd
      go_upto_region 5 with fail
      go_cut [36] from 4 (fun v wd => v = .bool cnd ∧ ∃ n, wd = wc.drewN n)
      case first =>
        by_cases h0 : (r1 (2 * k + 1)).n = 0
        · have hg : decide (0 < ((r1 (2 * k + 1)).n : Int)) = false := by simp [h0]
          have hg2 : (0 < (r1 (2 * k + 1)).n) = False := by simp [h0]
          have hnil : (S.sp k).sent = [] := List.eq_nil_of_length_eq_zero (by omega)
          have HCF := hid (show cnd = false by rw [HCN.out, hnil]; simp)
          clear G CAP hl hmx hnil h0
          go_wp2_with fail
          go_quiet (fail)
          go_wp2_with fail
          go_meet
          case rel => exact ⟨by rw [HCF.out], _, rfl⟩
        · have hg : decide (0 < ((r1 (2 * k + 1)).n : Int)) = true := by simp; omega
          have hg2 : 0 < (r1 (2 * k + 1)).n := by omega
          have hne : (S.sp k).sent ≠ [] := by intro e; rw [e] at hl; simp at hl; omega
          have hgm0 := G0.out
          have hgm1 := G1.out
          have hwg : IntKind.i64.wrap (gs (S.sp k).sent + 1) = gs (S.sp k).sent + 1 := by rw [IntKind.wrap_i64]; omega
          have HCF := hid (show (pn == gs (S.sp k).sent + 1) = cnd by rw [HCN.out]; by_cases e : pn = gs (S.sp k).sent + 1 <;> simp [e, hne])
          clear hne hl hmx h0 CAP HCN
          generalize gs (S.sp k).sent = gg at *
          go_wp2_with fail
          go_quiet (first | (go_at_call 23; exact Calls.quiet_of (G.out _)))
          go_wp2_with fail
          go_meet
          case rel => exact ⟨by rw [HCF.out], _, rfl⟩
      case rest =>
        obtain ⟨rfl, nq, ew⟩ := hcut
        have W5 := W3h.out.qr ((Q.refl _).drewN nq)
        have ht5 := Sub.q HTR.out ((Q.refl _).drewN nq)
        have hb5 := (show (World.drewN _ nq).heap[w.heap.size]? = some (.cells #[.int .i64 pn, .int .i64 s', .int .i64 pa, .bool pe] 73 (0, 0)) from HB3.out)
        rw [← ew] at W5 ht5 hb5
        clear ew W3h HTR HB3 G CAP hl c1 b0
        cases cnd
        · have HN := hid (show (S.sp k).sent ++ [(pn, pn)] = sentL (S.sp k).sent pn by unfold sentL; rw [if_neg (of_decide_eq_false HCN.out.symm)])
          have hdr := (Q.refl wc).drew
          obtain ⟨d6, w6, hr6, hrow6, hk6, hb6⟩ := rowS_one (pn, pn) (ht5.q hdr) (by have := HL.out; have := HM.out; (try simp only at *); omega)
          have W6 := W5.trans (Wr.ql hdr W5.la ((W5.la.q hdr).newSent hk hk6 hrow6 hb6))
          rw [HF.out _ HN.out] at W6
          have b05 : wc.cell? ⟨w.heap.size, 0, none⟩ = some (.int .i64 pn) := by rw [cell_of_row _ _ _ _ 73 (0, 0) hb5]; rfl
          have qa := (Q.refl wc).alloc (.cells #[.int .i64 pn, .int .i64 pn] 57)
          have c15 := W5.la.hd.sent hk
          have c15a := (W5.la.q qa).hd.sent hk
          have hkh := (W5.la.q hdr).hd.keep hk6 (fun e => W5.la.rs.far _ (by omega) e)
          have c15' := hkh.sent hk
          have f15' := hkh.free (2 + k * 5 + 1)
          have HR6 := hid hr6
          have W6h := hid W6
          clear hr6 hrow6 hk6 hb6 W6 qa hkh hdr W5 ht5 hb5 hmx
          go_wp2
          go_region_law (refine step_append rfl _ _ _ _ rfl (by simp [Act.eval]) (by simp [Act.eval]) HR6.out ?_)
          all_goals
            go_wp2
            go_end0
            exact ⟨rfl, _, W6h.out⟩
        · have hcc := of_decide_eq_true HCN.out.symm
          have HN := hid (show (S.sp k).sent.dropLast ++ [(((S.sp k).sent.getLast?.getD (0, 0)).1, pn)] = sentL (S.sp k).sent pn by unfold sentL; rw [if_pos hcc])
          have hg2 : 0 < (r1 (2 * k + 1)).n := by
            have := HL.out
            rw [← this]; exact List.length_pos_iff.2 hcc.1
          have h0 : (r1 (2 * k + 1)).n ≠ 0 := by omega
          have H0 := hid h0
          clear hcc h0
          obtain ⟨g, o2, ha, hfz, hs⟩ := RowS.at_ (d := r1 (2 * k + 1)) ht5 (k := (r1 (2 * k + 1)).n - 1) (by omega)
          have RL := sent_last (d := r1 (2 * k + 1)) ht5 (by omega) ha pn
          have hgr : blk (r1 (2 * k + 1)).a = some g := by rw [ha]; rfl
          have hgrb : g ≠ rb := fun e => W5.la.rs.far (2 * k + 1) (by omega) (by rw [hgr, e])
          have W6 : Wr w (wc.setCell ⟨g, o2 + ((r1 (2 * k + 1)).n - 1) * 2 + 1, none⟩ (.int .i64 pn)) rb r r1 (S.put k (sendS (S.sp k) ⟨pn, ps, pa, pe⟩)) := by
            rw [← HF.out _ HN.out]
            have kk : Keep (fun b => b = g) wc (wc.setCell ⟨g, o2 + ((r1 (2 * k + 1)).n - 1) * 2 + 1, none⟩ (.int .i64 pn)) := (Keep.refl _ wc).setCell g _ _ (.inl rfl)
            refine W5.trans ⟨⟨?_, ⟨fun i hi => ?_, fun i hi => ?_, W5.la.rs.ap, W5.la.rs.far⟩⟩, kk.mono (fun b _ e => .inr ⟨2 * k + 1, by omega, by rw [e]; exact hgr⟩), fun b e => .inl e⟩
            · have := W5.la.hd.keep kk (fun e => hgrb e.symm)
              have e2 : hcells (C1.put k { C1.sp k with sent := (S.sp k).sent.dropLast ++ [(((S.sp k).sent.getLast?.getD (0, 0)).1, pn)] }) r1 = hcells C1 r1 := by
                rcases (show k = 0 ∨ k = 1 ∨ k = 2 by omega) with rfl | rfl | rfl <;> rfl
              show _ = _
              rw [e2]; exact this
            · have h1 := (W5.la.rs.o i hi).keep kk (fun b e1 e2 => W5.la.rs.ap (2 * i) (2 * k + 1) (by omega) (by omega) (by omega) b e1 (by rw [e2]; exact hgr))
              by_cases e1 : i = k
              · subst e1; rw [put_sp]; exact h1
              · simp only [Lo.put, upd_other C1.sp _ e1]; exact h1
            · by_cases e1 : i = k
              · subst e1; rw [put_sp]; exact RL
              · simp only [Lo.put, upd_other C1.sp _ e1]
                exact (W5.la.rs.t i hi).keep kk (fun b e3 e2 => W5.la.rs.ap (2 * i + 1) (2 * k + 1) (by omega) (by omega) (by omega) b e3 (by rw [e2]; exact hgr))
          have W6h := hid W6
          have c15 := W5.la.hd.sent hk
          have b05 : wc.cell? ⟨w.heap.size, 0, none⟩ = some (.int .i64 pn) := by rw [cell_of_row _ _ _ _ 73 (0, 0) hb5]; rfl
          have s0 := hs.c0
          have s1 := hs.c1
          have f1 := hfz (o2 + ((r1 (2 * k + 1)).n - 1) * 2 + 1)
          have HG := hid (And.intro hgr hgrb)
          clear hgr hgrb RL hs hfz W6 W5 ht5 hb5
          generalize r1 (2 * k + 1) = dd at *
          obtain ⟨da, dn, dc⟩ := dd
          simp only at ha
          subst ha
          simp only at *
          have hwm : IntKind.i64.wrap ((dn : Int) - 1) = ((dn - 1 : Nat) : Int) := by rw [IntKind.wrap_i64]; have := H0.out; have := HL.out; (try simp only at this); omega
          have hlt1 : ((dn - 1 : Nat) : Int) < (dn : Int) := by omega
          have hlt2 : dn - 1 < dn := by omega
          have HG2 := hid hg2
          clear hmx hg2
          generalize hmm : dn - 1 = m at *
          have HMM := hid hmm
          clear hmm
          go_wp2
          go_still_tail 14, (by kernel_rfl)
          go_wp2
          (try simp only [Exit.inBlock, Exit.then]); refine bodyPost_ret (results_none rfl _ _ _) rfl ?_
          exact ⟨rfl, _, W6h.out.qr ((Q.refl _).drew)⟩
end Go.Proofs.Ytjhihcmemnhbbaa
