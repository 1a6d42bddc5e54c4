/-
  What the document's own Protect does: a contract that the statements' walks use.
-/
import Derived.Test.YtihmlfpfpadfpaaRNn
import Derived.Test.YtihmlfpfpadfpaaPrt
import Derived.Test.YtihmlfpfpadfpaaRMsk
import Derived.Test.YtihmlfpfpadfpaaNum
import Derived.Deep.Cut
import Derived.Deep.CutRange
import Derived.Deep.RegionHeld3
namespace Go.Proofs.Ytihmlfpfpadfpaa
open Go.RowKit
set_option linter.unusedVariables false
set_option maxRecDepth 20000

/-- A number's bytes under way, from the end on. -/
def lwT (wd : Nat) (num : Int) (j : Nat) : List Int := List.replicate (wd - j) 0 ++ be j num
theorem lwT_len (wd : Nat) (num : Int) (j : Nat) (h : j ≤ wd) : (lwT wd num j).length = wd := by
  unfold lwT; rw [List.length_append, List.length_replicate, be_length]; omega
theorem lwT_set (wd : Nat) (num : Int) (j : Nat) (h : j < wd) : (lwT wd num j).set (wd - 1 - j) (num / 256 ^ j % 256) = lwT wd num (j + 1) := by
  have := list_step (fun x => x) wd j num h
  simp only [List.map_id'] at this
  exact this
theorem lwT_all (wd : Nat) (num : Int) : lwT wd num wd = be wd num := by unfold lwT; rw [Nat.sub_self]; simp
theorem join_two_ (w : World) (x y : Sv) (xs ys : List Int) (hx : In w x xs) (hy : In w y ys) (hl : xs.length + ys.length ≤ 1000000) :
    Calls Try.prog 34 #[.slice (some ⟨w.heap.size, 0, none⟩) 2 2] (w.alloc (.cells #[.slice x.a x.n x.c, .slice y.a y.n y.c] 22)) fun e w' => ∃ z : Sv, e = .returned (.slice z.a z.n z.c) ∧ Q w w' ∧ Row w' z (xs ++ ys) ∧ New w.heap.size z := by
  refine (join_lit w [x, y] [xs, ys] rfl (in_two hx hy) (by show 2 ≤ 100; omega) (by rw [show ([xs, ys] : List (List Int)).flatten = xs ++ ys from by simp, List.length_append]; exact hl)).mono ?_
  rintro e w' ⟨z, rfl, q, i, r, n⟩
  rw [show ([xs, ys] : List (List Int)).flatten = xs ++ ys from by simp] at r
  exact ⟨z, rfl, q, r, n⟩
set_option maxHeartbeats 8000000 in
theorem rprotect_any (k i h hd pl : Sv) (kz iz hz hs ps : List Int) (num wd : Int) (w : World) (hk : KI w k i h kz iz hz) (hh : In w hd hs) (hp : In w pl ps) (bh : hd.n ≤ 140737488355328) (bp : pl.n ≤ 140737488355328) :
    Calls Try.prog 21 #[.agg (kcells k i h), .slice hd.a hd.n hd.c, .int .i64 num, .int .i64 wd, .slice pl.a pl.n pl.c] w fun e w' => ∃ x : Sv, e = .returned (.tuple #[.slice x.a x.n x.c, .int .i64 (ptE k.n i.n h.n hd.n num wd pl.n)]) ∧ Q w w' ∧ Row w' x (ptR kz iz hz hs num wd ps) := by
  have HC := hid (fun u => right_any k i h u)
  have HPE := hid (show ptR kz iz hz hs num wd ps = if ptE k.n i.n h.n hd.n num wd pl.n = 0 then proL kz iz hz hs num wd.toNat ps else [] from by unfold ptR; rw [hk.k.l, hk.i.l, hk.h.l, hh.l, hp.l])
  have HP0 := hid (show ptE k.n i.n h.n hd.n num wd pl.n = if kyE k.n i.n h.n ≠ 0 then 70 else if hd.n = 0 ∨ (pl.n < 4 ∧ wd < 4 - pl.n) then 12 else if wd < 1 ∨ 4 < wd ∨ num < 0 ∨ 4611686018427387903 < num then 10 else if 16380 < hd.n ∨ 16380 < pl.n then 52 else 0 from rfl)
  have HKY := hid (show kyE k.n i.n h.n = 0 → k.n = 16 ∧ i.n = 12 ∧ h.n = 16 from by unfold kyE; split; intro _; assumption; intro e; simp at e)
  have HK := hid hk
  have HH := hid hh
  have HPL := hid hp
  clear hk hh hp
  rw [HPE.out]
  clear HPE
  obtain ⟨ka, kn, kc⟩ := k
  obtain ⟨ia, n, ic⟩ := i
  obtain ⟨ha, hn, hc⟩ := h
  obtain ⟨da, dn, dc⟩ := hd
  obtain ⟨pa, pn, pc⟩ := pl
  dsimp only at *
  have HOK := hid (@ptE_ok kn n hn dn num wd pn)
  generalize ptE kn n hn dn num wd pn = PE at *
  generalize kyE kn n hn = E at *
  by_cases cOK : PE = 0
  · subst cOK
    rw [if_pos rfl]
    obtain ⟨rfl, rfl, rfl, d0, d1, p1, pw, w1_, w4_, n0, n1⟩ := HOK.out rfl
    obtain ⟨wn, rfl⟩ : ∃ m : Nat, wd = (m : Int) := ⟨wd.toNat, by omega⟩
    rw [Int.toNat_natCast]
    have hE0 : E = 0 := by
      have h := HP0.out
      by_cases hE : E = 0
      · exact hE
      · rw [if_pos hE] at h; omega
    subst hE0
    clear HOK HP0 HKY
    have hd0 : decide ((0 : Int) = 0) = true := by simp
    have f1 : ((dn : Int) == 0) = false := by simp; omega
    have f2 : decide ((wn : Int) < 1) = false := by simp; omega
    have f3 : decide ((4 : Int) < (wn : Int)) = false := by simp; omega
    have f4 : decide (num < 0) = false := by simp; omega
    have f5 : decide ((4611686018427387903 : Int) < num) = false := by simp; omega
    have f6 : decide ((16380 : Int) < (dn : Int)) = false := by simp; omega
    have f7 : decide ((16380 : Int) < (pn : Int)) = false := by simp; omega
    obtain ⟨i0, hi, hz0, hz1, hz2⟩ := info_parts info5
    go_enter Try.func21, Try.ntmps21
    go_upto_region 3 with (go_at_call 44; refine (HC.out _).mono ?_; rintro e w1 ⟨rfl, q1⟩)
    have Q1 := hid (show Q w w1 from Q.trans ((Q.refl w).alloc _) q1)
    have B1 := hid (KB.q (show KB _ w.heap.size 33 ⟨ka, 16, kc⟩ ⟨ia, 12, ic⟩ ⟨ha, 16, hc⟩ from heap_alloc_new w _) q1)
    clear q1 HC
    generalize hbx : w.heap.size = bx at *
    have HBX := hid hbx
    clear hbx
    go_cut [39] from 25 (fun s wc => s = .bool false ∧ wc = w1)
    case first =>
      by_cases cP : (pn : Int) < 4
      · have g1 : decide ((pn : Int) < 4) = true := by simp; omega
        have g2 : decide ((wn : Int) < 4 - (pn : Int)) = false := by simp; omega
        have g3 : ¬ (wn : Int) < 4 - (pn : Int) := by omega
        go_wp2_with fail
        go_meet
        case rel => exact ⟨rfl, rfl⟩
      · have g1 : decide ((pn : Int) < 4) = false := by simp; omega
        go_wp2_with fail
        go_meet
        case rel => exact ⟨rfl, rfl⟩
    case rest =>
      obtain ⟨rfl, hwe⟩ := hcut
      replace hwe := hwe.symm
      subst hwe
      go_wp2_with (at_make; refine wpList_make_full _ rfl _ _ 22 rfl w1.heap.size 5 i0 (.int .u8 0) 1 Try.underlying22 hi hz0 hz1 .i64 .i64 _ _ wn rfl rfl rfl rfl (by rw [hz2]; omega) (by unfold maxLen; omega) (Nat.le_refl _) ?_; intro w2 hown hgr)
      rw [made_zero] at hown
      have HO := hid (show Own w2 w1.heap.size (some ⟨w1.heap.size, 0, none⟩) wn wn (List.replicate wn 0) from hown)
      have HQ := hid (show Q w1 w2 from (Q.refl w1).grown hgr)
      clear hown hgr hi hz0 hz1 hz2
      have T1 := hid (show TI w1 w2 w1.heap.size wn (lwT wn num 0) from ⟨HQ.out, by rw [show lwT wn num 0 = List.replicate wn 0 from by simp [lwT, be]]; exact HO.out.row (by intro e; cases e), Nat.le_refl _⟩)
      clear HO HQ
      generalize w1.heap.size = gl at *
      go_wp2
      go_loopw [13, 14] (fun ns is wr => ∃ j : Nat, j ≤ wn ∧ is = .int .i64 ((wn : Int) - 1 - (j : Int)) ∧ ns = .int .i64 (num / 256 ^ j) ∧ TI w1 wr gl wn (lwT wn num j)) (fun _ is _ => (intOf is + 1).toNat)
      case atStart => exact ⟨0, by omega, by simp, by simp, T1.out⟩
      case round =>
        clear T1
        obtain ⟨j, hj, rfl, rfl, hT⟩ := hrel
        have HT := hid hT
        clear hT
        by_cases hin : j < wn
        · obtain ⟨p, hp, KP⟩ : ∃ p : Nat, (wn : Int) - 1 - (j : Int) = (p : Int) ∧ Hid (p = wn - 1 - j) := ⟨wn - 1 - j, by omega, hid rfl⟩
          have HS := hid (lwT_set wn num j hin)
          have hpn : p < wn := by have := KP.out; omega
          have hpni : (p : Int) < (wn : Int) := by omega
          have hp0 : (0 : Int) ≤ (p : Int) := by omega
          obtain ⟨hx1, hx2⟩ := row_cell HT.out.r (j := p) (x := (lwT wn num j).getD p 0) (by rw [List.getD_eq_getElem?_getD, List.getElem?_eq_getElem (by rw [lwT_len _ _ _ hj]; exact hpn)]; rfl)
          have hd := div_bounds num j n0
          have HD := hid (pow_ediv num j)
          rw [← KP.out] at HS
          have hd1 := hd.1
          have hd2 : num / 256 ^ j ≤ 4611686018427387903 := Int.le_trans hd.2 n1
          clear hd
          have HW := hid (show ∀ wx, TI w1 wx gl wn (lwT wn num j) → TI w1 (wx.setCell ⟨gl, p, none⟩ (.int .u8 (num / 256 ^ j % 256))) gl wn (lwT wn num (j + 1)) from fun wx hx => by
            rw [← HS.out]; exact hx.set hpn _)
          generalize num / 256 ^ j = v at *
          generalize (lwT wn num j).getD p 0 = y at *
          rw [hp]
          go_wp2
          refine ⟨⟨j + 1, by omega, ?_, by rw [HD.out], HW.out _ HT.out⟩, by simp [intOf] <;> omega⟩
          rw [show (p : Int) - 1 = (wn : Int) - 1 - ((j + 1 : Nat) : Int) by omega]
        · obtain rfl : j = wn := by omega
          rw [lwT_all] at HT
          have hneg : (j : Int) - 1 - (j : Int) = -1 := by omega
          rw [hneg]
          have Q3 := hid (Q1.out.trans HT.out.q)
          have B3 := hid (B1.out.q HT.out.q)
          have I3 := hid (row_in HT.out.r (be_bound _ _))
          clear HT Q1 B1
          go_wp2_with fail
          refine (join_two_ wr ⟨da, dn, dc⟩ ⟨some ⟨gl, 0, none⟩, j, j⟩ hs (be j num) (HH.out.q Q3.out) I3.out (by rw [HH.out.l, be_length]; show dn + j ≤ _; omega)).mono ?_
          rintro e w4 ⟨⟨ba, bn, bc⟩, rfl, q4, r4, n4⟩
          have Q4 := hid (Q3.out.trans q4)
          have B4 := hid (B3.out.q q4)
          have R4 := hid r4
          have LB := hid (show bn = dn + j from by have h1 := Row.len r4; rw [List.length_append, HH.out.l, be_length] at h1; exact h1.symm)
          clear q4 r4 n4 B3 Q3 I3
          generalize hjw : j = wn at *
          have HJW := hid hjw
          clear hjw
          go_wp2
          have c0 := B4.out.c0
          have c1 := B4.out.c1
          have c2 := B4.out.c2
          dsimp only at c0 c1 c2
          have NN := hid (fun u (hu : Q w4 u) => rnonce_any ⟨ia, 12, ic⟩ iz num u ((HK.out.i.q Q4.out).q hu) rfl n0 (by omega))
          have IB := hid (show In w4 ⟨ba, bn, bc⟩ (bndL hs num wn) from row_in R4.out (By.app HH.out.z (be_bound _ _)))
          have CE := hid (show chkE 16 12 bn pn = 0 from by unfold chkE; rw [if_neg (by omega), if_neg (by have := LB.out; omega)])
          have SL := hid (fun (g : Nat) u (hu : Q w4 u) (hy : In u ⟨some ⟨g, 0, none⟩, 12, 12⟩ (nonL iz num)) => rseal_any ⟨ka, 16, kc⟩ ⟨some ⟨g, 0, none⟩, 12, 12⟩ ⟨ba, bn, bc⟩ ⟨pa, pn, pc⟩ kz (nonL iz num) (bndL hs num wn) ps u ((HK.out.k.q Q4.out).q hu) hy (IB.out.q hu) ((HPL.out.q Q4.out).q hu) (by show pn ≤ _; omega))
          have s1 : Q w4 w4 := Q.refl _
          go_region_held3 (fun u => Q w4 u ∧ u.cell? ⟨bx, 0, none⟩ = some (.slice ka 16 kc) ∧ u.cell? ⟨bx, 1, none⟩ = some (.slice ia 12 ic)) (repeat (first | (with_reducible assumption) | (with_reducible apply Q.drew) | (with_reducible apply Q.drewN) | (with_reducible refine dcel ?_) | (with_reducible refine dcelN ?_) | (with_reducible apply And.intro)))
            (first
              | (go_at_call 46; refine (NN.out _ (by repeat (first | (with_reducible assumption) | (with_reducible exact Q.refl _) | (with_reducible apply Q.drew) | (with_reducible apply Q.drewN) | (with_reducible apply Q.alloc)))).mono ?_; rintro e w5 ⟨gn, rfl, q5, r5⟩; have j5 : Q w4 w5 := Q.trans (by repeat (first | (with_reducible assumption) | (with_reducible exact Q.refl _) | (with_reducible apply Q.drew) | (with_reducible apply Q.drewN) | (with_reducible apply Q.alloc))) q5; have e0 := (B4.out.q j5).c0; have e1 := (B4.out.q j5).c1; dsimp only at e0 e1; have R5 := hid (row_in r5 (nonL_lt HK.out.i.z _)); clear r5)
              | (go_at_call 45; refine (SL.out gn _ (by repeat (first | (with_reducible assumption) | (with_reducible exact Q.refl _) | (with_reducible apply Q.drew) | (with_reducible apply Q.drewN) | (with_reducible apply Q.alloc))) (R5.out.q (by repeat (first | (with_reducible assumption) | (with_reducible exact Q.refl _) | (with_reducible apply Q.drew) | (with_reducible apply Q.drewN) | (with_reducible apply Q.alloc))))).mono ?_; rintro e w6 ⟨⟨sa, sn, sc⟩, rfl, q6, r6⟩; have j6 : Q w4 w6 := Q.trans (by repeat (first | (with_reducible assumption) | (with_reducible exact Q.refl _) | (with_reducible apply Q.drew) | (with_reducible apply Q.drewN) | (with_reducible apply Q.alloc))) q6; have h0 := (B4.out.q j6).c0; have h1 := (B4.out.q j6).c1; dsimp only at h0 h1))
          replace r6 : Row w6 ⟨sa, sn, sc⟩ (sealL kz (nonL iz num) (bndL hs num wn) ps) := by
            have h6 := r6
            rw [if_pos CE.out] at h6
            exact h6
          have Q6 := hid (Q4.out.trans j6)
          have B6 := hid (B4.out.q j6)
          have I6 := hid (IB.out.q j6)
          have R6 := hid r6
          have LS := hid (show sn = pn + 16 from by have h1 := Row.len r6; rw [sealL_len, HPL.out.l] at h1; exact h1.symm)
          clear r6 j6 e0 e1 h0 h1 j5 q5 q6 s1 SL NN c0 c1 c2 R5 IB R4 B4 Q4
          go_wp2_with fail
          refine (join_two_ w6 ⟨ba, bn, bc⟩ ⟨sa, sn, sc⟩ (bndL hs num wn) (sealL kz (nonL iz num) (bndL hs num wn) ps) I6.out (row_in R6.out (sealL_lt HPL.out.z)) (by rw [I6.out.l, Row.len R6.out]; have := LB.out; have := LS.out; dsimp only; omega)).mono ?_
          rintro e w7 ⟨⟨xa, xn, xc⟩, rfl, q7, r7, n7⟩
          have Q7 := hid (Q6.out.trans q7)
          have B7 := hid (B6.out.q q7)
          have R7 := hid (show Row w7 ⟨xa, xn, xc⟩ (plnL kz iz hs num wn ps) from r7)
          have LX := hid (show xn = dn + wn + (pn + 16) from by have h1 := Row.len R7.out; rw [plnL_len, HPL.out.l, HH.out.l] at h1; exact h1.symm)
          have N7 := hid (n7.mono Q6.out.size)
          have PF := hid (show (plnL kz iz hs num wn ps).getD 0 0 = hs.getD 0 0 from by
            unfold plnL bndL
            rw [List.getD_eq_getElem?_getD, List.getD_eq_getElem?_getD, List.append_assoc, List.getElem?_append_left (by rw [HH.out.l]; exact d0)])
          clear q7 r7 n7 B6 Q6 R6 I6
          obtain ⟨xg, xo, he⟩ := row_addr R7.out (by show 0 < xn; have := LX.out; omega)
          dsimp only at he
          subst he
          have XC := hid (show xn ≤ xc from Row.cap R7.out)
          have HPZ := hid (plnL_lt (ks := kz) (iv := iz) HH.out.z HPL.out.z num wn)
          have HPR := hid (show proL kz iz hz hs num wn ps = mskA hz (plnL kz iz hs num wn ps) dn wn from by unfold proL; rw [HH.out.l])
          have HO0 := hid (show 0 < dn ∧ dn + wn ≤ xn ∧ dn + 20 ≤ xn from by have := LX.out; omega)
          generalize plnL kz iz hs num wn ps = out at *
          obtain ⟨a4, ha4, KA⟩ : ∃ r : Nat, (dn : Int) + 4 = (r : Int) ∧ Hid (r = dn + 4) := ⟨dn + 4, by omega, hid rfl⟩
          have ha4x : (a4 : Int) ≤ (xn : Int) := by have := KA.out; have := HO0.out; omega
          have ha4n : a4 ≤ xn := by omega
          have ha4c : a4 ≤ xc := by have := XC.out; omega
          have hxc : (xn : Int) ≤ (xc : Int) := by have := XC.out; omega
          have hcne : ¬ xc = a4 := by have := KA.out; have := HO0.out; have := XC.out; omega
          have ha40 : (0 : Int) ≤ (a4 : Int) := by omega
          have hwr : IntKind.i64.wrap (a4 : Int) = (a4 : Int) := by rw [wrap_i64]; have := KA.out; omega
          have IP := hid (show In w7 ⟨some ⟨xg, xo, none⟩, xn, xc⟩ out from row_in R7.out HPZ.out)
          have HMM := hid (show mskA hz out dn wn = ovA (out.set 0 (fstM (out.getD 0 0) ((mskL hz (out.drop (dn + 4))).getD 0 0))) dn ((mskL hz (out.drop (dn + 4))).drop 1) wn from rfl)
          have HM := hid (fun u (hu : Q w7 u) => show Calls Try.prog 47 #[.slice ha 16 hc, .slice (some ⟨xg, xo + a4, none⟩) (xn - a4) (xc - a4)] u fun e w' => ∃ g, e = .returned (.tuple #[.slice (some ⟨g, 0, none⟩) 5 16, .int .i64 0]) ∧ Q u w' ∧ In w' ⟨some ⟨g, 0, none⟩, 5, 16⟩ (mskL hz (out.drop (dn + 4))) ∧ u.heap.size ≤ g from by
            rw [← KA.out]
            exact rmask_new ⟨ha, 16, hc⟩ ⟨some ⟨xg, xo + a4, none⟩, xn - a4, xc - a4⟩ hz (out.drop a4) u ((HK.out.h.q Q7.out).q hu) (In.drop (IP.out.q hu) ha4n) (by show 16 ≤ _; omega) (by show 16 ≤ xn - a4; have := KA.out; have := HO0.out; omega) (by show xn - a4 ≤ _; have := LX.out; omega) (by show xn - a4 ≤ xc - a4; omega))
          have HML := hid (mskL_len hz (out.drop (dn + 4)))
          have HMZ := hid (mskL_lt hz (out.drop (dn + 4)))
          generalize mskL hz (out.drop (dn + 4)) = ms at *
          have c2 := B7.out.c2
          dsimp only at c2
          have s1 : Q w7 w7 := Q.refl _
          go_wp2
          go_region_held3 (fun u => Q w7 u ∧ u.cell? ⟨bx, 2, none⟩ = some (.slice ha 16 hc)) (repeat (first | (with_reducible assumption) | (with_reducible apply Q.drew) | (with_reducible apply Q.drewN) | (with_reducible refine dcel ?_) | (with_reducible refine dcelN ?_) | (with_reducible apply And.intro)))
            (first
              | (go_at_call 47; refine (HM.out _ (by repeat (first | (with_reducible assumption) | (with_reducible exact Q.refl _) | (with_reducible apply Q.drew) | (with_reducible apply Q.drewN) | (with_reducible apply Q.alloc)))).mono ?_; rintro e w8 ⟨mb, rfl, q8, im, lm⟩; have j8 : Q w7 w8 := Q.trans (by repeat (first | (with_reducible assumption) | (with_reducible exact Q.refl _) | (with_reducible apply Q.drew) | (with_reducible apply Q.drewN) | (with_reducible apply Q.alloc))) q8; have e2 := (B7.out.q j8).c2; dsimp only at e2))
          have Q8 := hid (Q7.out.trans j8)
          have R8 := hid (R7.out.q j8)
          have NM := hid (show xg < mb from Nat.lt_of_lt_of_le (R7.out.lt xg rfl) lm)
          have IM := hid im
          have HMC := hid (show MkB w8 mb ms from fun j hj => by
            obtain ⟨b, o, e, hc⟩ := im.s (by intro e; have := HML.out; rw [e] at this; simp at this)
            cases e
            have := hc j (by rw [HML.out]; exact hj)
            rw [Nat.zero_add] at this
            exact this)
          have hl : out.length = xn := IP.out.l
          have HF := hid (getD_lt HPZ.out 0)
          have hm0 := HMC.out 0 (by omega)
          obtain ⟨hx1, hx2⟩ := row_cellc R8.out (g := xg) (off := xo) rfl (j := 0) (x := out.getD 0 0) (by rw [List.getD_eq_getElem?_getD, List.getElem?_eq_getElem (by have := HO0.out; omega)]; rfl)
          rw [Nat.add_zero] at hx1 hx2
          obtain ⟨dg_, do_, hde, hdc⟩ := in_cell (HH.out.q Q8.out) (j := 0) (by show 0 < dn; omega)
          dsimp only at hde
          subst hde
          rw [Nat.add_zero, ← PF.out] at hdc
          have HS9 := hid (show ∀ u, Row u ⟨some ⟨xg, xo, none⟩, xn, xc⟩ out → Row (u.setCell ⟨xg, xo, none⟩ (.int .u8 (fstM (out.getD 0 0) (ms.getD 0 0)))) ⟨some ⟨xg, xo, none⟩, xn, xc⟩ (out.set 0 (fstM (out.getD 0 0) (ms.getD 0 0))) from fun u hu => by
            have := row_setc hu (g := xg) (off := xo) (j := 0) rfl (by show 0 < xn; have := HO0.out; omega) (fstM (out.getD 0 0) (ms.getD 0 0))
            rw [Nat.add_zero] at this
            exact this)
          have HFM := hid (show fstM (out.getD 0 0) (ms.getD 0 0) = bits .xor .u8 (out.getD 0 0) (bits .and .u8 (ms.getD 0 0) (rch (out.getD 0 0))) from rfl)
          clear im lm q8 j8 e2 c2 s1 HM hcne ha40 hwr ha4 ha4x ha4n ha4c hxc PF
          generalize fstM (out.getD 0 0) (ms.getD 0 0) = fm at *
          generalize out.getD 0 0 = f0 at *
          generalize ms.getD 0 0 = m0 at *
          have hx0 : (0 : Int) < (xn : Int) := by have := HO0.out; omega
          have hx0n : 0 < xn := by omega
          have hd0n : (0 : Int) < (dn : Int) := by omega
          have HMK := hid (fun u => rreach_any f0 u HF.out.1 HF.out.2)
          go_wp2
          go_upto_region 20 with fail
          go_cut [] from 110 (fun w9 => Keep (fun i => i = xg) w8 w9 ∧ Row w9 ⟨some ⟨xg, xo, none⟩, xn, xc⟩ (out.set 0 fm))
          case first =>
            go_region_with (go_at_call 48; refine (HMK.out _).mono ?_; rintro e w' ⟨rfl, rfl⟩)
            all_goals (
              go_wp2_with fail
              go_meet
              case rel =>
                rw [← HFM.out]
                first
                  | exact ⟨((Keep.refl _ w8).setCell _ _ _ (.inl rfl)).drew, (HS9.out w8 R8.out).q ((Q.refl _).drew)⟩
                  | exact ⟨(Keep.refl _ w8).drew.setCell _ _ _ (.inl rfl), HS9.out w8.drew (R8.out.q ((Q.refl _).drew))⟩
                  | exact ⟨((Keep.refl _ w8).setCell _ _ _ (.inl rfl)), HS9.out w8 R8.out⟩)
          case rest =>
            obtain ⟨k9, r9⟩ := hcut
            generalize hwz : wc = w9 at *
            clear hwz
            have M9 := hid (HMC.out.keep k9 (by have := NM.out; omega))
            have T9 := hid (show OI w8 w9 ⟨some ⟨xg, xo, none⟩, xn, xc⟩ xg (ovA (out.set 0 fm) dn (ms.drop 1) 0) from ⟨k9, by rw [ovA_zero]; exact r9⟩)
            clear k9 r9 hx1 hx2 hm0 hdc
            go_wp2
            go_loopw [21] (fun is wr => ∃ i : Nat, i ≤ wn ∧ is = .int .i64 i ∧ OI w8 wr ⟨some ⟨xg, xo, none⟩, xn, xc⟩ xg (ovA (out.set 0 fm) dn (ms.drop 1) i)) (fun is _ => ((wn : Int) - intOf is).toNat)
            case atStart => exact ⟨0, Nat.zero_le _, rfl, T9.out⟩
            case round =>
              clear T9
              obtain ⟨i, hi, rfl, hT⟩ := hrel
              have HT := hid hT
              clear hT
              by_cases hin : i < wn
              · have hin' : (i : Int) < (wn : Int) := by omega
                have hls : (out.set 0 fm).length = xn := by rw [List.length_set]; exact hl
                have hoi : dn + i < (out.set 0 fm).length := by have := HO0.out; omega
                obtain ⟨q, hq, KQ⟩ : ∃ q : Nat, (dn : Int) + (i : Int) = (q : Int) ∧ Hid (q = dn + i) := ⟨dn + i, by omega, hid rfl⟩
                obtain ⟨r, hr, KR⟩ : ∃ r : Nat, (i : Int) + 1 = (r : Int) ∧ Hid (r = i + 1) := ⟨i + 1, by omega, hid rfl⟩
                obtain ⟨hy1, hy2⟩ := row_cellc HT.out.r (g := xg) (off := xo) rfl (ovA_at (out.set 0 fm) dn (ms.drop 1) i (dn + i) hoi (by omega))
                have hz1 := (M9.out.keep (show Keep (fun b => b = xg) w9 w9 from Keep.refl _ _) (by have := NM.out; omega)) (i + 1) (by omega)
                have hz2 : wr.cell? ⟨mb, i + 1, none⟩ = some (.int .u8 (ms.getD (i + 1) 0)) := HT.out.k.cell (HMC.out (i + 1) (by omega)) (by have := NM.out; omega)
                have HSE := hid (ovA_set (out.set 0 fm) dn (ms.drop 1) i hoi)
                have hmd : (ms.drop 1).getD i 0 = ms.getD (i + 1) 0 := by rw [List.getD_eq_getElem?_getD, List.getD_eq_getElem?_getD, List.getElem?_drop, Nat.add_comm]
                rw [hmd] at HSE
                rw [← KR.out] at hz2 HSE
                rw [← KQ.out] at hy1 hy2 HSE
                have hwq : IntKind.i64.wrap (q : Int) = (q : Int) := by rw [wrap_i64]; have := KQ.out; omega
                have hwr : IntKind.i64.wrap (r : Int) = (r : Int) := by rw [wrap_i64]; have := KR.out; omega
                have hqx : (q : Int) < (xn : Int) := by have := KQ.out; omega
                have hqxn : q < xn := by omega
                have hq0 : (0 : Int) ≤ (q : Int) := by omega
                have hr5 : (r : Int) < 5 := by have := KR.out; omega
                have hr5n : r < 5 := by omega
                have hr0 : (0 : Int) ≤ (r : Int) := by omega
                have HW := hid (show ∀ wx, OI w8 wx ⟨some ⟨xg, xo, none⟩, xn, xc⟩ xg (ovA (out.set 0 fm) dn (ms.drop 1) i) → OI w8 (wx.setCell ⟨xg, xo + q, none⟩ (.int .u8 (bits .xor .u8 ((out.set 0 fm).getD q 0) (ms.getD r 0)))) ⟨some ⟨xg, xo, none⟩, xn, xc⟩ xg (ovA (out.set 0 fm) dn (ms.drop 1) (i + 1)) from fun wx h => by
                  rw [show i + 1 = r from KR.out.symm, ← HSE.out]; exact h.set rfl hqxn _)
                clear hz1 hmd hoi
                generalize (out.set 0 fm).getD q 0 = xx at *
                generalize ms.getD r 0 = yy at *
                go_wp2
                go_region
                all_goals (
                  go_wp2
                  go_roundw
                  case rel =>
                    refine ⟨i + 1, by omega, by first | go_num | (rw [hr]; exact congrArg _ (by omega)) | (simp; omega), ?_⟩
                    first
                      | exact HW.out _ (HT.out.drewN _)
                      | exact (HW.out _ HT.out).drewN _
                      | exact HW.out _ HT.out
                  case measure => simp [intOf] <;> omega)
              · obtain rfl : i = wn := by omega
                have hin' : ¬ (i : Int) < (i : Int) := by omega
                have RF := hid (show Row wr ⟨some ⟨xg, xo, none⟩, xn, xc⟩ (proL kz iz hz hs num i ps) from by
                  rw [HPR.out, HMM.out]; exact HT.out.r)
                have QF := hid (show Q w wr from HT.out.k.below Q8.out Q8.out.size (fun i e => by have := N7.out xg rfl; omega))
                go_wp2
                go_ret2
                exact ⟨⟨some ⟨xg, xo, none⟩, xn, xc⟩, rfl, QF.out, by rw [HJW.out]; exact RF.out⟩
  rw [if_neg cOK]
  by_cases c0 : E = 0
  · subst c0
    have hd0 : decide ((0 : Int) = 0) = true := by simp
    by_cases cB : (dn : Int) = 0
    · have HR := hid (show PE = 12 from by rw [HP0.out]; simp [*] <;> omega)
      obtain rfl := HR.out
      have f0 : (((dn : Int)) == 0) = true := by simp; omega
      go_enter Try.func21, Try.ntmps21
      go_wp2_with (go_at_call 44; refine (HC.out _).mono ?_; rintro e w1 ⟨rfl, q1⟩)
      have Q1 := hid (Q.trans ((Q.refl w).alloc _) q1)
      clear q1
      go_wp2
      go_ret2
      exact ⟨nilS, rfl, Q1.out, sub_nil _ _ _⟩
    · by_cases cP : (pn : Int) < 4
      · by_cases cC : wd < 4 - (pn : Int)
        · have HR := hid (show PE = 12 from by rw [HP0.out]; simp [*] <;> omega)
          obtain rfl := HR.out
          have f0 : (((dn : Int)) == 0) = false := by simp; omega
          have f1 : decide ((pn : Int) < 4) = true := by simp; omega
          have g1 : ((pn : Int) < 4) := by omega
          have f2 : decide (wd < 4 - (pn : Int)) = true := by simp; omega
          have g2 : (wd < 4 - (pn : Int)) := by omega
          go_enter Try.func21, Try.ntmps21
          go_wp2_with (go_at_call 44; refine (HC.out _).mono ?_; rintro e w1 ⟨rfl, q1⟩)
          have Q1 := hid (Q.trans ((Q.refl w).alloc _) q1)
          clear q1
          go_wp2
          go_ret2
          exact ⟨nilS, rfl, Q1.out, sub_nil _ _ _⟩
        · by_cases cD : wd < 1
          · have HR := hid (show PE = 10 from by rw [HP0.out]; simp [*] <;> omega)
            obtain rfl := HR.out
            have f0 : (((dn : Int)) == 0) = false := by simp; omega
            have f1 : decide ((pn : Int) < 4) = true := by simp; omega
            have g1 : ((pn : Int) < 4) := by omega
            have f2 : decide (wd < 4 - (pn : Int)) = false := by simp; omega
            have g2 : ¬ (wd < 4 - (pn : Int)) := by omega
            have f3 : decide (wd < 1) = true := by simp; omega
            have g3 : (wd < 1) := by omega
            go_enter Try.func21, Try.ntmps21
            go_wp2_with (go_at_call 44; refine (HC.out _).mono ?_; rintro e w1 ⟨rfl, q1⟩)
            have Q1 := hid (Q.trans ((Q.refl w).alloc _) q1)
            clear q1
            go_wp2
            go_ret2
            exact ⟨nilS, rfl, Q1.out, sub_nil _ _ _⟩
          · by_cases cE : 4 < wd
            · have HR := hid (show PE = 10 from by rw [HP0.out]; simp [*] <;> omega)
              obtain rfl := HR.out
              have f0 : (((dn : Int)) == 0) = false := by simp; omega
              have f1 : decide ((pn : Int) < 4) = true := by simp; omega
              have g1 : ((pn : Int) < 4) := by omega
              have f2 : decide (wd < 4 - (pn : Int)) = false := by simp; omega
              have g2 : ¬ (wd < 4 - (pn : Int)) := by omega
              have f3 : decide (wd < 1) = false := by simp; omega
              have g3 : ¬ (wd < 1) := by omega
              have f4 : decide ((4 : Int) < wd) = true := by simp; omega
              have g4 : ((4 : Int) < wd) := by omega
              go_enter Try.func21, Try.ntmps21
              go_wp2_with (go_at_call 44; refine (HC.out _).mono ?_; rintro e w1 ⟨rfl, q1⟩)
              have Q1 := hid (Q.trans ((Q.refl w).alloc _) q1)
              clear q1
              go_wp2
              go_ret2
              exact ⟨nilS, rfl, Q1.out, sub_nil _ _ _⟩
            · by_cases cF : num < 0
              · have HR := hid (show PE = 10 from by rw [HP0.out]; simp [*] <;> omega)
                obtain rfl := HR.out
                have f0 : (((dn : Int)) == 0) = false := by simp; omega
                have f1 : decide ((pn : Int) < 4) = true := by simp; omega
                have g1 : ((pn : Int) < 4) := by omega
                have f2 : decide (wd < 4 - (pn : Int)) = false := by simp; omega
                have g2 : ¬ (wd < 4 - (pn : Int)) := by omega
                have f3 : decide (wd < 1) = false := by simp; omega
                have g3 : ¬ (wd < 1) := by omega
                have f4 : decide ((4 : Int) < wd) = false := by simp; omega
                have g4 : ¬ ((4 : Int) < wd) := by omega
                have f5 : decide (num < 0) = true := by simp; omega
                have g5 : (num < 0) := by omega
                go_enter Try.func21, Try.ntmps21
                go_wp2_with (go_at_call 44; refine (HC.out _).mono ?_; rintro e w1 ⟨rfl, q1⟩)
                have Q1 := hid (Q.trans ((Q.refl w).alloc _) q1)
                clear q1
                go_wp2
                go_ret2
                exact ⟨nilS, rfl, Q1.out, sub_nil _ _ _⟩
              · by_cases cG : 4611686018427387903 < num
                · have HR := hid (show PE = 10 from by rw [HP0.out]; simp [*] <;> omega)
                  obtain rfl := HR.out
                  have f0 : (((dn : Int)) == 0) = false := by simp; omega
                  have f1 : decide ((pn : Int) < 4) = true := by simp; omega
                  have g1 : ((pn : Int) < 4) := by omega
                  have f2 : decide (wd < 4 - (pn : Int)) = false := by simp; omega
                  have g2 : ¬ (wd < 4 - (pn : Int)) := by omega
                  have f3 : decide (wd < 1) = false := by simp; omega
                  have g3 : ¬ (wd < 1) := by omega
                  have f4 : decide ((4 : Int) < wd) = false := by simp; omega
                  have g4 : ¬ ((4 : Int) < wd) := by omega
                  have f5 : decide (num < 0) = false := by simp; omega
                  have g5 : ¬ (num < 0) := by omega
                  have f6 : decide ((4611686018427387903 : Int) < num) = true := by simp; omega
                  have g6 : ((4611686018427387903 : Int) < num) := by omega
                  go_enter Try.func21, Try.ntmps21
                  go_wp2_with (go_at_call 44; refine (HC.out _).mono ?_; rintro e w1 ⟨rfl, q1⟩)
                  have Q1 := hid (Q.trans ((Q.refl w).alloc _) q1)
                  clear q1
                  go_wp2
                  go_ret2
                  exact ⟨nilS, rfl, Q1.out, sub_nil _ _ _⟩
                · by_cases cH : 16380 < (dn : Int)
                  · have HR := hid (show PE = 52 from by rw [HP0.out]; simp [*] <;> omega)
                    obtain rfl := HR.out
                    have f0 : (((dn : Int)) == 0) = false := by simp; omega
                    have f1 : decide ((pn : Int) < 4) = true := by simp; omega
                    have g1 : ((pn : Int) < 4) := by omega
                    have f2 : decide (wd < 4 - (pn : Int)) = false := by simp; omega
                    have g2 : ¬ (wd < 4 - (pn : Int)) := by omega
                    have f3 : decide (wd < 1) = false := by simp; omega
                    have g3 : ¬ (wd < 1) := by omega
                    have f4 : decide ((4 : Int) < wd) = false := by simp; omega
                    have g4 : ¬ ((4 : Int) < wd) := by omega
                    have f5 : decide (num < 0) = false := by simp; omega
                    have g5 : ¬ (num < 0) := by omega
                    have f6 : decide ((4611686018427387903 : Int) < num) = false := by simp; omega
                    have g6 : ¬ ((4611686018427387903 : Int) < num) := by omega
                    have f7 : decide ((16380 : Int) < (dn : Int)) = true := by simp; omega
                    have g7 : ((16380 : Int) < (dn : Int)) := by omega
                    go_enter Try.func21, Try.ntmps21
                    go_wp2_with (go_at_call 44; refine (HC.out _).mono ?_; rintro e w1 ⟨rfl, q1⟩)
                    have Q1 := hid (Q.trans ((Q.refl w).alloc _) q1)
                    clear q1
                    go_wp2
                    go_ret2
                    exact ⟨nilS, rfl, Q1.out, sub_nil _ _ _⟩
                  · by_cases cJ : 16380 < (pn : Int)
                    · have HR := hid (show PE = 52 from by rw [HP0.out]; simp [*] <;> omega)
                      obtain rfl := HR.out
                      have f0 : (((dn : Int)) == 0) = false := by simp; omega
                      have f1 : decide ((pn : Int) < 4) = true := by simp; omega
                      have g1 : ((pn : Int) < 4) := by omega
                      have f2 : decide (wd < 4 - (pn : Int)) = false := by simp; omega
                      have g2 : ¬ (wd < 4 - (pn : Int)) := by omega
                      have f3 : decide (wd < 1) = false := by simp; omega
                      have g3 : ¬ (wd < 1) := by omega
                      have f4 : decide ((4 : Int) < wd) = false := by simp; omega
                      have g4 : ¬ ((4 : Int) < wd) := by omega
                      have f5 : decide (num < 0) = false := by simp; omega
                      have g5 : ¬ (num < 0) := by omega
                      have f6 : decide ((4611686018427387903 : Int) < num) = false := by simp; omega
                      have g6 : ¬ ((4611686018427387903 : Int) < num) := by omega
                      have f7 : decide ((16380 : Int) < (dn : Int)) = false := by simp; omega
                      have g7 : ¬ ((16380 : Int) < (dn : Int)) := by omega
                      have f8 : decide ((16380 : Int) < (pn : Int)) = true := by simp; omega
                      have g8 : ((16380 : Int) < (pn : Int)) := by omega
                      go_enter Try.func21, Try.ntmps21
                      go_wp2_with (go_at_call 44; refine (HC.out _).mono ?_; rintro e w1 ⟨rfl, q1⟩)
                      have Q1 := hid (Q.trans ((Q.refl w).alloc _) q1)
                      clear q1
                      go_wp2
                      go_ret2
                      exact ⟨nilS, rfl, Q1.out, sub_nil _ _ _⟩
                    · exact absurd (show PE = 0 from by rw [HP0.out]; simp [*] <;> omega) cOK
      · by_cases cD : wd < 1
        · have HR := hid (show PE = 10 from by rw [HP0.out]; simp [*] <;> omega)
          obtain rfl := HR.out
          have f0 : (((dn : Int)) == 0) = false := by simp; omega
          have f1 : decide ((pn : Int) < 4) = false := by simp; omega
          have g1 : ¬ ((pn : Int) < 4) := by omega
          have f2 : decide (wd < 1) = true := by simp; omega
          have g2 : (wd < 1) := by omega
          go_enter Try.func21, Try.ntmps21
          go_wp2_with (go_at_call 44; refine (HC.out _).mono ?_; rintro e w1 ⟨rfl, q1⟩)
          have Q1 := hid (Q.trans ((Q.refl w).alloc _) q1)
          clear q1
          go_wp2
          go_ret2
          exact ⟨nilS, rfl, Q1.out, sub_nil _ _ _⟩
        · by_cases cE : 4 < wd
          · have HR := hid (show PE = 10 from by rw [HP0.out]; simp [*] <;> omega)
            obtain rfl := HR.out
            have f0 : (((dn : Int)) == 0) = false := by simp; omega
            have f1 : decide ((pn : Int) < 4) = false := by simp; omega
            have g1 : ¬ ((pn : Int) < 4) := by omega
            have f2 : decide (wd < 1) = false := by simp; omega
            have g2 : ¬ (wd < 1) := by omega
            have f3 : decide ((4 : Int) < wd) = true := by simp; omega
            have g3 : ((4 : Int) < wd) := by omega
            go_enter Try.func21, Try.ntmps21
            go_wp2_with (go_at_call 44; refine (HC.out _).mono ?_; rintro e w1 ⟨rfl, q1⟩)
            have Q1 := hid (Q.trans ((Q.refl w).alloc _) q1)
            clear q1
            go_wp2
            go_ret2
            exact ⟨nilS, rfl, Q1.out, sub_nil _ _ _⟩
          · by_cases cF : num < 0
            · have HR := hid (show PE = 10 from by rw [HP0.out]; simp [*] <;> omega)
              obtain rfl := HR.out
              have f0 : (((dn : Int)) == 0) = false := by simp; omega
              have f1 : decide ((pn : Int) < 4) = false := by simp; omega
              have g1 : ¬ ((pn : Int) < 4) := by omega
              have f2 : decide (wd < 1) = false := by simp; omega
              have g2 : ¬ (wd < 1) := by omega
              have f3 : decide ((4 : Int) < wd) = false := by simp; omega
              have g3 : ¬ ((4 : Int) < wd) := by omega
              have f4 : decide (num < 0) = true := by simp; omega
              have g4 : (num < 0) := by omega
              go_enter Try.func21, Try.ntmps21
              go_wp2_with (go_at_call 44; refine (HC.out _).mono ?_; rintro e w1 ⟨rfl, q1⟩)
              have Q1 := hid (Q.trans ((Q.refl w).alloc _) q1)
              clear q1
              go_wp2
              go_ret2
              exact ⟨nilS, rfl, Q1.out, sub_nil _ _ _⟩
            · by_cases cG : 4611686018427387903 < num
              · have HR := hid (show PE = 10 from by rw [HP0.out]; simp [*] <;> omega)
                obtain rfl := HR.out
                have f0 : (((dn : Int)) == 0) = false := by simp; omega
                have f1 : decide ((pn : Int) < 4) = false := by simp; omega
                have g1 : ¬ ((pn : Int) < 4) := by omega
                have f2 : decide (wd < 1) = false := by simp; omega
                have g2 : ¬ (wd < 1) := by omega
                have f3 : decide ((4 : Int) < wd) = false := by simp; omega
                have g3 : ¬ ((4 : Int) < wd) := by omega
                have f4 : decide (num < 0) = false := by simp; omega
                have g4 : ¬ (num < 0) := by omega
                have f5 : decide ((4611686018427387903 : Int) < num) = true := by simp; omega
                have g5 : ((4611686018427387903 : Int) < num) := by omega
                go_enter Try.func21, Try.ntmps21
                go_wp2_with (go_at_call 44; refine (HC.out _).mono ?_; rintro e w1 ⟨rfl, q1⟩)
                have Q1 := hid (Q.trans ((Q.refl w).alloc _) q1)
                clear q1
                go_wp2
                go_ret2
                exact ⟨nilS, rfl, Q1.out, sub_nil _ _ _⟩
              · by_cases cH : 16380 < (dn : Int)
                · have HR := hid (show PE = 52 from by rw [HP0.out]; simp [*] <;> omega)
                  obtain rfl := HR.out
                  have f0 : (((dn : Int)) == 0) = false := by simp; omega
                  have f1 : decide ((pn : Int) < 4) = false := by simp; omega
                  have g1 : ¬ ((pn : Int) < 4) := by omega
                  have f2 : decide (wd < 1) = false := by simp; omega
                  have g2 : ¬ (wd < 1) := by omega
                  have f3 : decide ((4 : Int) < wd) = false := by simp; omega
                  have g3 : ¬ ((4 : Int) < wd) := by omega
                  have f4 : decide (num < 0) = false := by simp; omega
                  have g4 : ¬ (num < 0) := by omega
                  have f5 : decide ((4611686018427387903 : Int) < num) = false := by simp; omega
                  have g5 : ¬ ((4611686018427387903 : Int) < num) := by omega
                  have f6 : decide ((16380 : Int) < (dn : Int)) = true := by simp; omega
                  have g6 : ((16380 : Int) < (dn : Int)) := by omega
                  go_enter Try.func21, Try.ntmps21
                  go_wp2_with (go_at_call 44; refine (HC.out _).mono ?_; rintro e w1 ⟨rfl, q1⟩)
                  have Q1 := hid (Q.trans ((Q.refl w).alloc _) q1)
                  clear q1
                  go_wp2
                  go_ret2
                  exact ⟨nilS, rfl, Q1.out, sub_nil _ _ _⟩
                · by_cases cJ : 16380 < (pn : Int)
                  · have HR := hid (show PE = 52 from by rw [HP0.out]; simp [*] <;> omega)
                    obtain rfl := HR.out
                    have f0 : (((dn : Int)) == 0) = false := by simp; omega
                    have f1 : decide ((pn : Int) < 4) = false := by simp; omega
                    have g1 : ¬ ((pn : Int) < 4) := by omega
                    have f2 : decide (wd < 1) = false := by simp; omega
                    have g2 : ¬ (wd < 1) := by omega
                    have f3 : decide ((4 : Int) < wd) = false := by simp; omega
                    have g3 : ¬ ((4 : Int) < wd) := by omega
                    have f4 : decide (num < 0) = false := by simp; omega
                    have g4 : ¬ (num < 0) := by omega
                    have f5 : decide ((4611686018427387903 : Int) < num) = false := by simp; omega
                    have g5 : ¬ ((4611686018427387903 : Int) < num) := by omega
                    have f6 : decide ((16380 : Int) < (dn : Int)) = false := by simp; omega
                    have g6 : ¬ ((16380 : Int) < (dn : Int)) := by omega
                    have f7 : decide ((16380 : Int) < (pn : Int)) = true := by simp; omega
                    have g7 : ((16380 : Int) < (pn : Int)) := by omega
                    go_enter Try.func21, Try.ntmps21
                    go_wp2_with (go_at_call 44; refine (HC.out _).mono ?_; rintro e w1 ⟨rfl, q1⟩)
                    have Q1 := hid (Q.trans ((Q.refl w).alloc _) q1)
                    clear q1
                    go_wp2
                    go_ret2
                    exact ⟨nilS, rfl, Q1.out, sub_nil _ _ _⟩
                  · exact absurd (show PE = 0 from by rw [HP0.out]; simp [*] <;> omega) cOK
  · have HR := hid (show PE = 70 from by rw [HP0.out, if_pos c0])
    have hd0 : decide (E = 0) = false := by simp [c0]
    obtain rfl := HR.out
    go_enter Try.func21, Try.ntmps21
    go_wp2_with (go_at_call 44; refine (HC.out _).mono ?_; rintro e w1 ⟨rfl, q1⟩)
    have Q1 := hid (Q.trans ((Q.refl w).alloc _) q1)
    clear q1
    go_wp2
    go_ret2
    exact ⟨nilS, rfl, Q1.out, sub_nil _ _ _⟩
end Go.Proofs.Ytihmlfpfpadfpaa
