/-
  The law on messages, walked whole.
-/
import Derived.Test.YtdlefmlienfjhaaBaS
import Derived.Deep.RegionHeld3
import Derived.Deep.Cut
namespace Go.Proofs.Ytdlefmlienfjhaa
open Go.RowKit
set_option linter.unusedVariables false
set_option maxRecDepth 100000

set_option maxHeartbeats 64000000 in
theorem back_b (h p t j : Sv) (has : Bool) (odd : Int) (HD TR JS : List Int) (L : List (Sv × List Int)) (w : World)
    (hh : Seg w h.a HD ∧ HD.length = h.n ∧ HD.length ≤ 1048576 ∧ byt HD) (ht : Seg w t.a TR ∧ TR.length = t.n ∧ TR.length ≤ 1048576 ∧ byt TR) (hj : Seg w j.a JS ∧ JS.length = j.n ∧ JS.length ≤ 1048576 ∧ byt JS)
    (hp : SegP w p.a L ∧ L.length = p.n) (hpl : ∀ q ∈ L, q.2.length = q.1.n ∧ q.2.length ≤ 1048576 ∧ byt q.2) (hT : tot JS.length HD L TR ≤ 900000000000) (hok : okN odd) (h13 : ¬ odd ≤ 13) :
    Calls Try.prog 6 #[.agg #[.slice h.a h.n h.c, .slice p.a p.n p.c, .slice t.a t.n t.c, .bool has, .int .i64 odd, .slice j.a j.n j.c]] w fun e w' => e = .returned (.bool true) ∧ Q w w' := by
  obtain ⟨ha, hn, hc⟩ := h
  obtain ⟨pa, pn, pc⟩ := p
  obtain ⟨ta, tn, tc⟩ := t
  obtain ⟨ja, jn, jc⟩ := j
  dsimp only at hh ht hj hp
  have hpn := hp.2
  subst hpn
  have HH := hid hh
  have HTR := hid ht
  have HJS := hid hj
  have HPS := hid hp.1
  have HPL := hid hpl
  have HTT := hid hT
  have HAW := hid awake_any
  have HQ0 := hid ((Q.refl w).alloc (.cells #[.slice ha hn hc, .slice pa L.length pc, .slice ta tn tc, .bool has, .int .i64 odd, .slice ja jn jc] 70))
  have HB0 := hid (heap_alloc_new w (.cells #[.slice ha hn hc, .slice pa L.length pc, .slice ta tn tc, .bool has, .int .i64 odd, .slice ja jn jc] 70))
  clear hh ht hj hp hpl hT
  go_enter Try.func6, Try.ntmps6
  go_upto_region 1 with fail
  generalize hW : World.alloc w _ = W0 at *
  clear hW
  generalize w.heap.size = mb at *
  have HM0 := hid (show MB W0 mb ⟨ha, hn, hc⟩ ⟨pa, L.length, pc⟩ ⟨ta, tn, tc⟩ ⟨ja, jn, jc⟩ has odd from HB0.out)
  clear HB0
  generalize hR : Code.region 1 _ true = CC
  have eR : CC = Code.region 1 (RofN Try.f6 1) true := hR.symm.trans (by kernel_rfl)
  clear hR
  subst eR
  refine wp_region_noPanic ?_
  refine bk1 mb ⟨ha, hn, hc⟩ ⟨pa, L.length, pc⟩ ⟨ta, tn, tc⟩ ⟨ja, jn, jc⟩ has odd (frE odd jn) W0 _ (fun _ _ _ _ _ h => h) (Q.refl _) HM0.out JS (frB odd JS) (fun W q => (rcopy_any ja jn jc JS W HJS.out.2.1 (by have := HJS.out.2.1; have := HJS.out.2.2.1; omega) (HJS.out.1.q (HQ0.out.trans q))).mono (fun e w' h => by obtain ⟨g, h1, h2, h3, h4⟩ := h; exact ⟨g, h1, h2, Own.seg h3⟩)) (fun W g q s => frame_any odd (some ⟨g, 0, none⟩) jn jn JS W HJS.out.2.1 (by have := HJS.out.2.1; have := HJS.out.2.2.1; omega) s) ?_
  intro g0 ya yn yc W1 q1 r1 n1
  have Q1 := hid (HQ0.out.trans q1)
  have HM1 := hid (HM0.out.q q1)
  have R1 := hid r1
  have HH1 := hid (HH.out.1.q (HQ0.out.trans q1))
  have HT1 := hid (HTR.out.1.q (HQ0.out.trans q1))
  have HP1 := hid (HPS.out.q (HQ0.out.trans q1))
  clear q1 r1 n1 HM0 HQ0
  refine NoPanic.normal ?_
  refine ‹∀ a w, Code.wp Try.prog _ _ a w → _› _ _ ?_
  dsimp only
  have c0 : W1.cell? ⟨mb, 0, none⟩ = some (.slice ha hn hc) := HM1.out.c.1
  have c1 : W1.cell? ⟨mb, 1, none⟩ = some (.slice pa L.length pc) := HM1.out.c.2.1
  have c2 : W1.cell? ⟨mb, 2, none⟩ = some (.slice ta tn tc) := HM1.out.c.2.2.1
  have c4 : W1.cell? ⟨mb, 4, none⟩ = some (.int .i64 odd) := HM1.out.c.2.2.2.2.1
  have hnl : ¬ (1048576 : Int) < (hn : Int) := by have := HH.out.2.1; have := HH.out.2.2.1; omega
  have tnl : ¬ (1048576 : Int) < (tn : Int) := by have := HTR.out.2.1; have := HTR.out.2.2.1; omega
  have HPP := hid (show ∀ q ∈ pcs L, q.length ≤ 1048576 ∧ byt q from fun q hq => by
    unfold pcs at hq
    obtain ⟨x, hx, rfl⟩ := List.mem_map.1 hq
    exact (HPL.out x hx).2)
  have hE : frE odd jn = 0 := by
    have := (frB_frW (p := JS) hok HJS.out.2.2.1).2
    rwa [HJS.out.2.1] at this
  rw [hE]
  clear hE
  obtain ⟨J, hJ⟩ : ∃ J : List Int, J = frW odd JS := ⟨_, rfl⟩
  have RJ := hid (show Row W1 ⟨ya, yn, yc⟩ J from by rw [hJ, ← (frB_frW (p := JS) hok HJS.out.2.2.1).1]; exact R1.out)
  have HJK := hid (show Jnk J from .inr ⟨odd, JS, by omega, hok, ⟨by omega, by have := HJS.out.2.2.1; omega⟩, HJS.out.2.2.2, hJ⟩)
  have HJL := hid (show J.length ≤ JS.length + 16 from by rw [hJ]; have := frW_len odd JS; omega)
  clear hJ
  have HFH := hid (framed_any ⟨ya, yn, yc⟩ ⟨ha, hn, hc⟩ J HD 1 W1 (Row.segl RJ.out) ⟨HH1.out, HH.out.2.1⟩ (by decide) HH.out.2.2.1 (by have := HJL.out; have := HJS.out.2.2.1; omega))
  dsimp only at HFH
  go_wp2_with fail
  refine HFH.out.mono ?_
  rintro e w2 ⟨⟨ba, bn, bc⟩, rfl, q2, r2, n2⟩
  have S2 := hid (show BS W1 w2 ⟨ba, bn, bc⟩ ⟨none, 0, 0⟩ (J ++ frW 1 HD) [] from ⟨q2, r2, nil_row _, n2, (fun b e => by cases e), (fun x _ e => by cases e)⟩)
  have HP2 := hid (HP1.out.q q2)
  have d1 : w2.cell? ⟨mb, 1, none⟩ = some (.slice pa L.length pc) := (HM1.out.q q2).c.2.1
  clear q2 r2 n2 HFH c0 c1 c2 c4
  go_wp2_with fail
  go_loopw [5, 6, 48] (fun bv vv i wr => ∃ (k : Nat) (B V : Sv), k ≤ L.length ∧ i = .int .i64 (k : Int) ∧ bv = .slice B.a B.n B.c ∧ vv = .slice V.a V.n V.c ∧ BS W1 wr B V ((J ++ frW 1 HD) ++ bdW J (pcs (L.take k))) (pcs (L.take k)).flatten) (fun _ _ i _ => L.length - (intOf i).toNat)
  case atStart => exact ⟨0, ⟨ba, bn, bc⟩, ⟨none, 0, 0⟩, by omega, rfl, rfl, rfl, by have := S2.out; simpa [pcs, bdW] using this⟩
  case round =>
    obtain ⟨k, ⟨Ba, Bn, Bc⟩, ⟨Va, Vn, Vc⟩, hk, rfl, rfl, rfl, hbs⟩ := hrel
    have HBS := hid hbs
    have HTB := hid (tot_b (hd := HD) (tr := TR) HJL.out k hk)
    clear hbs
    by_cases hlt : k < L.length
    · obtain ⟨g, off, hpa, hcs⟩ := HP1.out (by intro e; rw [e] at hlt; simp at hlt)
      have hLk : L[k]? = some L[k] := List.getElem?_eq_getElem hlt
      have hmem : L[k] ∈ L := List.getElem_mem hlt
      generalize L[k] = qk at hLk hmem
      obtain ⟨⟨xa, xn, xc⟩, zs⟩ := qk
      obtain ⟨d00, dseg0⟩ := hcs k _ hLk
      have d0 := cq d00 HBS.out.q
      have dseg := dseg0.q HBS.out.q
      have hq := HPL.out _ hmem
      have hTK := pcs_take hLk
      dsimp only at hpa d0 dseg dseg0 hq hTK
      subst hpa
      have HF0 := hid (framed_any ⟨ya, yn, yc⟩ ⟨xa, xn, xc⟩ J zs 0 wr ⟨(Row.segl RJ.out).1.q HBS.out.q, (Row.segl RJ.out).2⟩ ⟨dseg, hq.1⟩ (by decide) hq.2.1 (by have := HJL.out; have := HJS.out.2.2.1; omega))
      dsimp only at HF0
      have hki : (k : Int) < (L.length : Int) := by omega
      have hk0 : (0 : Int) ≤ (k : Int) := by omega
      have hkb : (k : Int) < 8796093022208 := by have := HTT.out; unfold tot at this; have h9 : L.length + 3 ≤ (L.length + 3) * (JS.length + 64) := Nat.le_mul_of_pos_right _ (by omega); omega
      have xnl : ¬ (1048576 : Int) < (xn : Int) := by have := hq.1; have := hq.2.1; omega
      have HDS := hid (And.intro dseg0 hq)
      have HK := hid hTK
      have HFL := hid (frW_len 0 zs)
      have HFT := hid (show (pcs (L.take k)).flatten.length ≤ 900000000000 from by
        have h1 := pcs_flat_take L k
        have h2 := HTT.out
        unfold tot at h2
        omega)
      clear d00 dseg dseg0 hq hTK hLk hmem hcs
      go_wp2_with (first
        | (go_at_call 28; refine HF0.out.mono ?_; rintro e w5 ⟨⟨ea, en, ec⟩, rfl, q5, r5, n5⟩; have S5 := hid (HBS.out.call q5); obtain ⟨⟨za, zn, zc⟩, w6, run6, row6, k6, b6⟩ := row_appendB (ty := 30) (x := .slice ea en ec) (m := en) (ys := J ++ frW 0 zs) S5.out.b (src_seg (Row.segl r5).1 (Row.segl r5).2) (by have h1 := (Row.segl S5.out.b).2; have h2 := (Row.segl r5).2; have h3 := HTB.out; have h4 := HTT.out; have h5 := HFL.out; have h6 := HDS.out.2.2.1; have h7 := HJL.out; have h8 := HJS.out.2.2.1; rw [List.length_append] at h2; dsimp only at h1 h2 ⊢; omega); dsimp only at run6; have S6 := hid (S5.out.appB row6 k6 b6); have RUN6 := hid run6; have HX6 := hid (show Seg w6 xa zs from HDS.out.1.q S6.out.q); clear q5 r5 n5 row6 k6 b6; have run6 := RUN6.out; obtain ⟨⟨ua, un, uc⟩, w7, run7, row7, k7, b7⟩ := row_appendB (ty := 30) (x := .slice xa xn xc) (m := xn) (ys := zs) S6.out.v (src_seg HX6.out HDS.out.2.1) (by have h1 := (Row.segl S6.out.v).2; have h2 := HDS.out.2.1; have h3 := HDS.out.2.2.1; have h4 := HFT.out; dsimp only at h1 ⊢; omega); dsimp only at run7; have S7 := hid (S6.out.appV row7 k7 b7); clear row7 k7 b7)
        | (at_builtin; refine Lib.wpList_append_run _ rfl _ _ _ _ rfl _ _ rfl rfl _ _ run6 ?_; clear run6)
        | (at_builtin; refine Lib.wpList_append_run _ rfl _ _ _ _ rfl _ _ rfl rfl _ _ run7 ?_; clear run7))
      go_roundw
      case rel => exact ⟨k + 1, ⟨za, zn, zc⟩, ⟨ua, un, uc⟩, by omega, by go_num, rfl, rfl, by
        rw [HK.out, bdW_snoc, List.flatten_append, ← List.append_assoc]
        simpa using S7.out⟩
      case measure => simp [intOf]; omega
    · have hki : ¬ (k : Int) < (L.length : Int) := by omega
      have e0 : L.take k = L := List.take_of_length_le (by omega)
      rw [e0] at HBS HTB
      have e3 : wr.cell? ⟨mb, 3, none⟩ = some (.bool has) := (HM1.out.q HBS.out.q).c.2.2.2.1
      clear e0 hlt hk
      cases has with
      | false =>
        have HTL6 := hid (show ((J ++ frW 1 HD) ++ bdW J (pcs L)).length + J.length ≤ 900000000000 from by have h3 := HTB.out; have h4 := HTT.out; have h7 := HJL.out; omega)
        have HJN6 := hid (join_two wr ⟨Ba, Bn, Bc⟩ ⟨ya, yn, yc⟩ ((J ++ frW 1 HD) ++ bdW J (pcs L)) J (Row.segl HBS.out.b) ⟨(Row.segl RJ.out).1.q HBS.out.q, (Row.segl RJ.out).2⟩ (by have := HTL6.out; omega))
        dsimp only at HJN6
        go_wp2_with (first
          | (go_at_call 29; refine HJN6.out.mono ?_; rintro e w8 ⟨⟨ra, rn, rc⟩, rfl, q8, r8, n8⟩; have S8 := hid (HBS.out.call q8); have HA8 := hid (all_any 1 ra rn rc (((J ++ frW 1 HD) ++ bdW J (pcs L)) ++ J) none 0 0 [] w8 (.inl rfl) (Row.segl r8).2 (by have h1 := (Row.segl r8).2; have h2 := HTL6.out; rw [List.length_append] at h1; dsimp only at h1; omega) (byt_app (byt_app (byt_app HJK.out.byt (frW_byt HH.out.2.2.2)) (bdW_byt HJK.out.byt (fun q hq => (HPP.out q hq).2))) HJK.out.byt) (Row.segl r8).1 rfl (by omega) (fun h => absurd rfl h)); clear q8 r8 n8)
          | (go_at_call 27; refine HA8.out.mono ?_; rintro e w9 ⟨⟨xa, xn, xc⟩, ⟨oa, on, oc⟩, EL, rfl, q9, r9, s9, hEL, o9⟩; have S9 := hid (S8.out.call q9); have HMS := hid (msg_all (has := false) HJK.out ⟨HH.out.2.2.1, HH.out.2.2.2⟩ HPP.out ⟨HTR.out.2.2.1, HTR.out.2.2.2⟩); rw [(msW_eq J HD TR (pcs L)).2] at HMS; rw [HMS.out.2.1, HMS.out.2.2]; rw [HMS.out.1] at hEL o9; have X9 := hid (And.intro r9 (And.intro s9 (And.intro hEL o9))); have f3 : w9.cell? ⟨mb, 3, none⟩ = some (.bool false) := (HM1.out.q S9.out.q).c.2.2.2.1; clear q9 r9 s9 hEL o9 HMS))
        go_upto_region 22 with fail
        obtain ⟨r9, s9, hEL, o9⟩ := X9.out
        clear X9
        obtain ⟨P0, rfl, hp0⟩ := one_of hEL
        have hxn : xn = 1 := (RowE.len r9).symm
        subst hxn
        obtain ⟨g, off, p, ha', hp', _, a1, _⟩ := ev_cells r9 (i := 0) (by show 0 < 1; omega)
        obtain rfl : P0 = p := by simpa using hp'
        dsimp only at ha'
        subst ha'
        have hs0 := s9 P0 (by simp)
        rw [hp0] at hs0
        dsimp only at hs0
        have HS0 := hid hs0
        have HO9 := hid o9
        have HA1 := hid a1
        clear r9 s9 hEL o9 hs0 hp0 hp' a1
        have HM9 := hid (HM1.out.q S9.out.q)
        generalize hR : Code.region 22 _ true = CC
        have eR : CC = Code.region 22 (RofN Try.f6 22) true := hR.symm.trans (by kernel_rfl)
        clear hR
        subst eR
        refine wp_region_noPanic ?_
        refine bk22f mb g off xc ⟨ha, hn, hc⟩ ⟨pa, L.length, pc⟩ ⟨ta, tn, tc⟩ ⟨ja, jn, jc⟩ P0.2 ⟨none, 0, 0⟩ ⟨oa, on, oc⟩ ⟨Va, Vn, Vc⟩ odd w9 _ HM9.out HA1.out  (fun u q => (same_q P0.2 ⟨ha, hn, hc⟩ HD u ⟨HS0.out.1.q q, HS0.out.2⟩ ⟨HH1.out.q (S9.out.q.trans q), HH.out.2.1⟩ (by have := HH.out.2.2.1; omega)).mono (fun e w' h => ⟨h.1, q.trans h.2⟩)) (fun u q => (same_q ⟨oa, on, oc⟩ ⟨Va, Vn, Vc⟩ (pcs L).flatten u ⟨(Row.segl HO9.out).1.q q, (Row.segl HO9.out).2⟩ ⟨(Row.segl S9.out.v).1.q q, (Row.segl S9.out.v).2⟩ (by have h1 := HTT.out; unfold tot at h1; omega)).mono (fun e w' h => ⟨h.1, q.trans h.2⟩))  (fun u q => (HAW.out u).mono (fun e w' h => ⟨h.1, q.trans h.2⟩)) ?_
        intro W8 q8
        have Q8 := hid (Q1.out.trans (S9.out.q.trans q8))
        clear q8
        refine NoPanic.normal ?_
        refine ‹∀ a w, Code.wp Try.prog _ _ a w → _› _ _ ?_
        go_wp2
        go_ret
        exact ⟨rfl, Q8.out⟩
      | true =>
        have e2 : wr.cell? ⟨mb, 2, none⟩ = some (.slice ta tn tc) := (HM1.out.q HBS.out.q).c.2.2.1
        have HF1 := hid (framed_any ⟨ya, yn, yc⟩ ⟨ta, tn, tc⟩ J TR 1 wr ⟨(Row.segl RJ.out).1.q HBS.out.q, (Row.segl RJ.out).2⟩ ⟨HT1.out.q HBS.out.q, HTR.out.2.1⟩ (by decide) HTR.out.2.2.1 (by have := HJL.out; have := HJS.out.2.2.1; omega))
        dsimp only at HF1
        have HFL := hid (frW_len 1 TR)
        go_wp2_with (first
          | (go_at_call 28; refine HF1.out.mono ?_; rintro e w5 ⟨⟨ea, en, ec⟩, rfl, q5, r5, n5⟩; have S5 := hid (HBS.out.call q5); obtain ⟨⟨za, zn, zc⟩, w6, run6, row6, k6, b6⟩ := row_appendB (ty := 30) (x := .slice ea en ec) (m := en) (ys := J ++ frW 1 TR) S5.out.b (src_seg (Row.segl r5).1 (Row.segl r5).2) (by have h1 := (Row.segl S5.out.b).2; have h2 := (Row.segl r5).2; have h3 := HTB.out; have h4 := HTT.out; have h5 := HFL.out; have h6 := HTR.out.2.2.1; have h7 := HJL.out; have h8 := HJS.out.2.2.1; rw [List.length_append] at h2; dsimp only at h1 h2 ⊢; omega); dsimp only at run6; have S6 := hid (S5.out.appB row6 k6 b6); have HTL6 := hid (show (((J ++ frW 1 HD) ++ bdW J (pcs L)) ++ (J ++ frW 1 TR)).length + J.length ≤ 900000000000 from by have h3 := HTB.out; have h4 := HTT.out; have h5 := HFL.out; have h7 := HJL.out; have e9 : (J ++ frW 1 TR).length = J.length + (frW 1 TR).length := List.length_append; rw [List.length_append]; omega); have HJN6 := hid (join_two w6 ⟨za, zn, zc⟩ ⟨ya, yn, yc⟩ (((J ++ frW 1 HD) ++ bdW J (pcs L)) ++ (J ++ frW 1 TR)) J (Row.segl S6.out.b) ⟨(Row.segl RJ.out).1.q S6.out.q, (Row.segl RJ.out).2⟩ (by have := HTL6.out; omega)); dsimp only at HJN6; clear q5 r5 n5 row6 k6 b6)
          | (at_builtin; refine Lib.wpList_append_run _ rfl _ _ _ _ rfl _ _ rfl rfl _ _ run6 ?_; clear run6)
          | (go_at_call 29; refine HJN6.out.mono ?_; rintro e w8 ⟨⟨ra, rn, rc⟩, rfl, q8, r8, n8⟩; have S8 := hid (S6.out.call q8); have HA8 := hid (all_any 1 ra rn rc ((((J ++ frW 1 HD) ++ bdW J (pcs L)) ++ (J ++ frW 1 TR)) ++ J) none 0 0 [] w8 (.inl rfl) (Row.segl r8).2 (by have h1 := (Row.segl r8).2; have h2 := HTL6.out; rw [List.length_append] at h1; dsimp only at h1; omega) (byt_app (byt_app (byt_app (byt_app HJK.out.byt (frW_byt HH.out.2.2.2)) (bdW_byt HJK.out.byt (fun q hq => (HPP.out q hq).2))) (byt_app HJK.out.byt (frW_byt HTR.out.2.2.2))) HJK.out.byt) (Row.segl r8).1 rfl (by omega) (fun h => absurd rfl h)); clear q8 r8 n8)
          | (go_at_call 27; refine HA8.out.mono ?_; rintro e w9 ⟨⟨xa, xn, xc⟩, ⟨oa, on, oc⟩, EL, rfl, q9, r9, s9, hEL, o9⟩; have S9 := hid (S8.out.call q9); have HMS := hid (msg_all (has := true) HJK.out ⟨HH.out.2.2.1, HH.out.2.2.2⟩ HPP.out ⟨HTR.out.2.2.1, HTR.out.2.2.2⟩); rw [(msW_eq J HD TR (pcs L)).1] at HMS; rw [HMS.out.2.1, HMS.out.2.2]; rw [HMS.out.1] at hEL o9; have X9 := hid (And.intro r9 (And.intro s9 (And.intro hEL o9))); have f3 : w9.cell? ⟨mb, 3, none⟩ = some (.bool true) := (HM1.out.q S9.out.q).c.2.2.2.1; clear q9 r9 s9 hEL o9 HMS))
        go_upto_region 22 with fail
        obtain ⟨r9, s9, hEL, o9⟩ := X9.out
        clear X9
        obtain ⟨P0, P1, rfl, hp0, hp1⟩ := two_of hEL
        have hxn : xn = 2 := (RowE.len r9).symm
        subst hxn
        obtain ⟨g, off, p, ha', hp', _, a1, _⟩ := ev_cells r9 (i := 0) (by show 0 < 2; omega)
        obtain ⟨g', off', p', hb', hq', _, b1, _⟩ := ev_cells r9 (i := 1) (by show 1 < 2; omega)
        rw [ha'] at hb'
        cases hb'
        obtain rfl : P0 = p := by simpa using hp'
        obtain rfl : P1 = p' := by simpa using hq'
        dsimp only at ha'
        subst ha'
        have hs0 := s9 P0 (by simp)
        have hs1 := s9 P1 (by simp)
        rw [hp0] at hs0
        rw [hp1] at hs1
        dsimp only at hs0 hs1
        have HS0 := hid hs0
        have HO9 := hid o9
        have HA1 := hid a1
        have HS1 := hid hs1
        have HB1 := hid b1
        clear r9 s9 hEL o9 hs0 hp0 hp' a1 hs1 hp1 hq' b1
        have HM9 := hid (HM1.out.q S9.out.q)
        generalize hR : Code.region 22 _ true = CC
        have eR : CC = Code.region 22 (RofN Try.f6 22) true := hR.symm.trans (by kernel_rfl)
        clear hR
        subst eR
        refine wp_region_noPanic ?_
        refine bk22t mb g off xc ⟨ha, hn, hc⟩ ⟨pa, L.length, pc⟩ ⟨ta, tn, tc⟩ ⟨ja, jn, jc⟩ P0.2 P1.2 ⟨oa, on, oc⟩ ⟨Va, Vn, Vc⟩ odd w9 _ HM9.out HA1.out HB1.out (fun u q => (same_q P0.2 ⟨ha, hn, hc⟩ HD u ⟨HS0.out.1.q q, HS0.out.2⟩ ⟨HH1.out.q (S9.out.q.trans q), HH.out.2.1⟩ (by have := HH.out.2.2.1; omega)).mono (fun e w' h => ⟨h.1, q.trans h.2⟩)) (fun u q => (same_q ⟨oa, on, oc⟩ ⟨Va, Vn, Vc⟩ (pcs L).flatten u ⟨(Row.segl HO9.out).1.q q, (Row.segl HO9.out).2⟩ ⟨(Row.segl S9.out.v).1.q q, (Row.segl S9.out.v).2⟩ (by have h1 := HTT.out; unfold tot at h1; omega)).mono (fun e w' h => ⟨h.1, q.trans h.2⟩)) (fun u q => (same_q P1.2 ⟨ta, tn, tc⟩ TR u ⟨HS1.out.1.q q, HS1.out.2⟩ ⟨HT1.out.q (S9.out.q.trans q), HTR.out.2.1⟩ (by have := HTR.out.2.2.1; omega)).mono (fun e w' h => ⟨h.1, q.trans h.2⟩)) (fun u q => (HAW.out u).mono (fun e w' h => ⟨h.1, q.trans h.2⟩)) ?_
        intro W8 q8
        have Q8 := hid (Q1.out.trans (S9.out.q.trans q8))
        clear q8
        refine NoPanic.normal ?_
        refine ‹∀ a w, Code.wp Try.prog _ _ a w → _› _ _ ?_
        go_wp2
        go_ret
        exact ⟨rfl, Q8.out⟩
end Go.Proofs.Ytdlefmlienfjhaa
