/-
  What the document's own Unmask does: a contract that the statements' walks use.
-/
import Derived.Test.YtihmlfpfpadfpaaUnm
import Derived.Test.YtihmlfpfpadfpaaRMsk
import Derived.BigQuiet
import Derived.Deep.QuietTactic
import Derived.Deep.RegionHeld3
namespace Go.Proofs.Ytihmlfpfpadfpaa
open Go.RowKit
set_option linter.unusedVariables false
set_option maxRecDepth 20000

/-- The cells of the document's packet without its mask. -/
abbrev rcells (f : Int) (num : Int) (b s : Sv) : Array Value := #[.int .u8 f, .int .i64 num, .slice b.a b.n b.c, .slice s.a s.n s.c]
def RB (w : World) (g : Nat) (f num : Int) (b s : Sv) : Prop := w.heap[g]? = some (.cells (rcells f num b s) 103 (0, 0))
section
variable {w w' : World} {g : Nat} {b s : Sv} {f num : Int}
theorem RB.q (x : RB w g f num b s) (q : Q w w') : RB w' g f num b s := (Below.block q _ (lt_of_block x)).trans x
theorem RB.c0 (x : RB w g f num b s) : w.cell? ⟨g, 0, none⟩ = some (.int .u8 f) := by rw [cell_of_row w g 0 _ 103 (0, 0) x]; rfl
theorem RB.c1 (x : RB w g f num b s) : w.cell? ⟨g, 1, none⟩ = some (.int .i64 num) := by rw [cell_of_row w g 1 _ 103 (0, 0) x]; rfl
theorem RB.c2 (x : RB w g f num b s) : w.cell? ⟨g, 2, none⟩ = some (.slice b.a b.n b.c) := by rw [cell_of_row w g 2 _ 103 (0, 0) x]; rfl
theorem RB.c3 (x : RB w g f num b s) : w.cell? ⟨g, 3, none⟩ = some (.slice s.a s.n s.c) := by rw [cell_of_row w g 3 _ 103 (0, 0) x]; rfl
end
theorem rc_one (f num : Int) (b s : Sv) : (rcells f num b s).all (·.oneCell') = true := by simp [Value.oneCell']
theorem rinfo (f num : Int) (b s : Sv) : (Try.prog.info? 103).map (·.size) = some (rcells f num b s).size := by
  show (Try.prog.info? 103).map (·.size) = some 4
  kernel_rfl
theorem RB.sets {w : World} {g : Nat} {b0 s0 : Sv} {f0 n0 : Int} (x : RB w g f0 n0 b0 s0) (f n : Int) (b s : Sv) : RB ((((w.setCell ⟨g, 0, none⟩ (.int .u8 f)).setCell ⟨g, 1, none⟩ (.int .i64 n)).setCell ⟨g, 2, none⟩ (.slice b.a b.n b.c)).setCell ⟨g, 3, none⟩ (.slice s.a s.n s.c)) g f n b s := by
  have h1 : RB (w.setCell ⟨g, 0, none⟩ (.int .u8 f)) g f n0 b0 s0 := by
    have := heap_setCell_same w g 0 _ 103 (.int .u8 f) x
    simpa [RB] using this
  have h2 : RB ((w.setCell ⟨g, 0, none⟩ (.int .u8 f)).setCell ⟨g, 1, none⟩ (.int .i64 n)) g f n b0 s0 := by
    have := heap_setCell_same _ g 1 _ 103 (.int .i64 n) h1
    simpa [RB] using this
  have h3 : RB (((w.setCell ⟨g, 0, none⟩ (.int .u8 f)).setCell ⟨g, 1, none⟩ (.int .i64 n)).setCell ⟨g, 2, none⟩ (.slice b.a b.n b.c)) g f n b s0 := by
    have := heap_setCell_same _ g 2 _ 103 (.slice b.a b.n b.c) h2
    simpa [RB] using this
  have := heap_setCell_same _ g 3 _ 103 (.slice s.a s.n s.c) h3
  simpa [RB] using this
theorem ret_rb {fn : Func} {p : Tmp} {a : Act} {w : World} {R : Ending → World → Prop} (hr : fn.results = #[.cell p 103]) (hd : a.defers = [])
    (g : Nat) (f num : Int) (b s : Sv) (hp : a.tmps.getD p undef = .pointer (some ⟨g, 0, none⟩)) (hb : RB w g f num b s) (hR : R (.returned (.agg (rcells f num b s))) w) : bodyPost Try.prog fn R .ret a w :=
  ⟨hd, _, results_cell_row hr _ w g 103 _ (0, 0) _ hp hb Try.underlying103 rfl (by kernel_rfl), hR⟩
theorem wrap64_id {n : Int} (h0 : -9223372036854775808 ≤ n) (h1 : n ≤ 9223372036854775807) : wrap64 n = n := by unfold wrap64; omega
theorem tmod4 {F r : Int} (h0 : 0 ≤ F) (h : F % 4 = r) : F.tmod 4 = r := by rw [Int.tmod_eq_emod_of_nonneg h0]; exact h
theorem rscel {u : World} {b0 i b j : Nat} {v y : Value} (h : u.cell? ⟨b0, i, none⟩ = some v) (hne : b0 ≠ b) : (u.setCell ⟨b, j, none⟩ y).cell? ⟨b0, i, none⟩ = some v := by
  have k : Keep (fun i => i = b) u (u.setCell ⟨b, j, none⟩ y) := (Keep.refl (fun i => i = b) u).setCell _ _ _ (.inl rfl)
  exact k.cell h hne
/-- The number's bytes without the mask. -/
def LU (hz ps : List Int) (at_ : Nat) : List Int := (umB hz ps at_).drop at_
theorem LU_len (hz ps : List Int) (at_ : Nat) (h : at_ + 20 ≤ ps.length) : (LU hz ps at_).length = umW hz ps at_ := by unfold LU; rw [List.length_drop, umB_len hz ps at_ h]; omega
theorem LU_at (hz ps : List Int) (at_ i : Nat) (h1 : 1 ≤ at_) (h : at_ + 20 ≤ ps.length) (hi : i < umW hz ps at_) : (LU hz ps at_).getD i 0 = xr (ps.getD (at_ + i) 0) ((mskL hz (ps.drop (at_ + 4))).getD (i + 1) 0) := by
  have hw := umW_range hz ps at_
  have hm : ((mskL hz (ps.drop (at_ + 4))).drop 1).getD i 0 = (mskL hz (ps.drop (at_ + 4))).getD (i + 1) 0 := by
    rw [List.getD_eq_getElem?_getD, List.getD_eq_getElem?_getD, List.getElem?_drop, Nat.add_comm 1 i]
  have hlt : at_ + i < ps.length := by omega
  have hp : ps.getD (at_ + i) 0 = ps[at_ + i] := by rw [List.getD_eq_getElem?_getD, List.getElem?_eq_getElem hlt]; rfl
  unfold LU umB
  rw [List.getD_eq_getElem?_getD, List.getElem?_drop, List.getElem?_eq_getElem (by rw [ovA_len, List.length_set, List.length_take]; omega)]
  simp only [ovA, List.getElem_mapIdx, Option.getD_some]
  rw [if_pos (by omega), List.getElem_set, if_neg (by omega), List.getElem_take, Nat.add_sub_cancel_left, hm, hp]
theorem umB_split (hz ps : List Int) (at_ : Nat) (h1 : 1 ≤ at_) (h : at_ + 20 ≤ ps.length) : umB hz ps at_ = umF hz ps at_ :: ((ps.drop 1).take (at_ - 1) ++ LU hz ps at_) := by
  have hw := umW_range hz ps at_
  have hl := umB_len hz ps at_ h
  apply List.ext_getElem
  · rw [hl, List.length_cons, List.length_append, List.length_take, List.length_drop, LU_len hz ps at_ h]; omega
  · intro j h2 h3
    rcases Nat.lt_or_ge j 1 with hj | hj
    · obtain rfl : j = 0 := by omega
      rw [List.getElem_cons_zero]
      simp only [umB, ovA, List.getElem_mapIdx]
      rw [if_neg (by omega), List.getElem_set, if_pos rfl]
    · obtain ⟨m, rfl⟩ : ∃ m, j = m + 1 := ⟨j - 1, by omega⟩
      rw [List.getElem_cons_succ]
      rcases Nat.lt_or_ge m (at_ - 1) with hm | hm
      · rw [List.getElem_append_left (by rw [List.length_take, List.length_drop]; omega), List.getElem_take, List.getElem_drop]
        simp only [umB, ovA, List.getElem_mapIdx]
        rw [if_neg (by omega), List.getElem_set, if_neg (by omega), List.getElem_take]
        congr 1; omega
      · rw [List.getElem_append_right (by rw [List.length_take, List.length_drop]; omega)]
        simp only [LU, List.getElem_drop]
        congr 1
        rw [List.length_take, List.length_drop]; omega
/-- The number's bytes as far as written. -/
def luT (L : List Int) (i : Nat) : List Int := L.take i ++ List.replicate (L.length - i) 0
theorem luT_len (L : List Int) (i : Nat) (h : i ≤ L.length) : (luT L i).length = L.length := by
  unfold luT; rw [List.length_append, List.length_take, List.length_replicate]; omega
theorem luT_set (L : List Int) (i : Nat) (h : i < L.length) : (luT L i).set i (L.getD i 0) = luT L (i + 1) := by
  have hl : (L.take i).length = i := by rw [List.length_take]; omega
  unfold luT
  rw [List.set_append, if_neg (by omega), hl, Nat.sub_self, show L.length - i = (L.length - (i + 1)) + 1 by omega, List.replicate_succ, List.set_cons_zero, List.take_add_one, List.getElem?_eq_getElem h, Option.toList_some, List.append_assoc, List.getD_eq_getElem?_getD, List.getElem?_eq_getElem h]
  rfl
theorem luT_all (L : List Int) : luT L L.length = L := by unfold luT; simp
theorem luT_get (L : List Int) (i : Nat) (h : i < L.length) : (luT L (i + 1))[i]? = some (L.getD i 0) := by
  rw [← luT_set L i h, List.getElem?_set, if_pos rfl, if_pos (by rw [luT_len L i (by omega)]; exact h)]
set_option maxHeartbeats 8000000 in
theorem runmask_any (h p : Sv) (hz ps : List Int) (at_ : Nat) (high : Int) (w : World) (hh : In w h hz) (hp : In w p ps) (lh : h.n = 16) (b1 : 1 ≤ at_) (b2 : at_ ≤ 16380) (b3 : at_ + 20 ≤ p.n) (b4 : p.n ≤ at_ + 16400) (bc : p.n ≤ p.c) :
    Calls Try.prog 55 #[.slice h.a h.n h.c, .slice p.a p.n p.c, .int .i64 at_, .int .i64 high] w fun e w' => ∃ b s : Sv, e = .returned (.agg (rcells (umF hz ps at_) (umN hz ps at_ high) b s)) ∧ Q w w' ∧ In w' b (umB hz ps at_) ∧ In w' s (umS hz ps at_) ∧ s.n ≤ s.c := by
  obtain ⟨ha, hn, hc⟩ := h
  obtain ⟨pa, pn, pc⟩ := p
  dsimp only at *
  subst lh
  have HH := hid hh
  have HP := hid hp
  obtain ⟨pg, po, he, _⟩ := in_cell hp (j := 0) (by show 0 < pn; omega)
  dsimp only at he
  subst he
  clear hh hp
  have hl : ps.length = pn := HP.out.l
  have HBC := hid bc
  obtain ⟨i0, hi, hz0, hz1, hz2⟩ := info_parts info5
  go_enter Try.func55, Try.ntmps55
  obtain ⟨a4, ha4, KA⟩ : ∃ r : Nat, (at_ : Int) + 4 = (r : Int) ∧ Hid (r = at_ + 4) := ⟨at_ + 4, by omega, hid rfl⟩
  have ha4x : (a4 : Int) ≤ (pn : Int) := by have := KA.out; omega
  have ha4n : a4 ≤ pn := by omega
  have hcne : ¬ pc = a4 := by have := KA.out; omega
  have ha40 : (0 : Int) ≤ (a4 : Int) := by omega
  have hwr : IntKind.i64.wrap (a4 : Int) = (a4 : Int) := by rw [wrap_i64]; have := KA.out; omega
  go_wp2_with fail
  generalize hw1 : World.alloc w _ = w1
  have Q1 := hid (show Q w w1 from by rw [← hw1]; exact (Q.refl w).alloc _)
  have B1 := hid (show RB w1 w.heap.size 0 0 nilS nilS from by rw [← hw1]; exact heap_alloc_new w _)
  clear hw1
  have HM := hid (show Calls Try.prog 47 #[.slice ha 16 hc, .slice (some ⟨pg, po + a4, none⟩) (pn - a4) (pc - a4)] w1 fun e w' => ∃ g, e = .returned (.tuple #[.slice (some ⟨g, 0, none⟩) 5 16, .int .i64 0]) ∧ Q w1 w' ∧ In w' ⟨some ⟨g, 0, none⟩, 5, 16⟩ (mskL hz (ps.drop (at_ + 4))) ∧ w1.heap.size ≤ g from by
    rw [← KA.out]
    exact rmask_new ⟨ha, 16, hc⟩ ⟨some ⟨pg, po + a4, none⟩, pn - a4, pc - a4⟩ hz (ps.drop a4) w1 (HH.out.q Q1.out) (In.drop (HP.out.q Q1.out) ha4n) (by show 16 ≤ _; omega) (by show 16 ≤ pn - a4; have := KA.out; omega) (by show pn - a4 ≤ _; omega) (by show pn - a4 ≤ pc - a4; omega))
  have HBX := hid (Nat.le_refl w.heap.size)
  generalize hbx : w.heap.size = bx at *
  have HX := hid hbx
  clear hbx
  have HML := hid (mskL_len hz (ps.drop (at_ + 4)))
  have HMZ := hid (mskL_lt hz (ps.drop (at_ + 4)))
  have DF := hid (show umF hz ps at_ = fstM (ps.getD 0 0) ((mskL hz (ps.drop (at_ + 4))).getD 0 0) from rfl)
  have LA := hid (fun i hi => LU_at hz ps at_ i b1 (by omega) hi)
  generalize mskL hz (ps.drop (at_ + 4)) = ms at *
  refine HM.out.mono ?_
  rintro e w3 ⟨mb, rfl, q3, im, lm⟩
  have Q3 := hid (Q1.out.trans q3)
  have B3 := hid (B1.out.q q3)
  have MK := hid (show MkB w3 mb ms from fun j hj => by
    obtain ⟨b, o, e, hc⟩ := im.s (by intro e; have := HML.out; rw [e] at this; simp at this)
    cases e
    have := hc j (by rw [HML.out]; exact hj)
    rw [Nat.zero_add] at this
    exact this)
  clear q3 im lm HM B1 Q1
  have HF := hid (getD_lt HP.out.z 0)
  have HM0 := hid (getD_lt HMZ.out 0)
  have hp0 := (HP.out.q Q3.out).s (by intro e; rw [e] at hl; simp at hl; omega)
  obtain ⟨pg', po', he', hpc⟩ := hp0
  cases he'
  have hx1 := hpc 0 (by omega)
  rw [Nat.add_zero] at hx1
  have hm0 := MK.out 0 (by omega)
  have hF : bits .xor .u8 (ps.getD 0 0) (bits .and .u8 (ms.getD 0 0) (rch (ps.getD 0 0))) = umF hz ps at_ := DF.out.symm
  have FL := hid (umF_lt hz HP.out.z at_)
  have HW := hid (show umW hz ps at_ = (umF hz ps at_ % 4).toNat + 1 from rfl)
  have HNN := hid (show umN hz ps at_ high = expM high (val 0 (LU hz ps at_)) (umW hz ps at_ : Nat) from rfl)
  have HSS := hid (show umS hz ps at_ = ps.drop (at_ + umW hz ps at_) from rfl)
  have WR := hid (umW_range hz ps at_)
  have BZ := hid (umB_lt hz HP.out.z at_)
  have BSP := hid (umB_split hz ps at_ b1 (by omega))
  have LL := hid (LU_len hz ps at_ (by omega))
  have LZ := hid (show By (LU hz ps at_) from By.drop BZ.out _)
  clear hpc DF HH
  generalize hFg : umF hz ps at_ = F at *
  have HFG := hid hFg
  clear hFg
  generalize umW hz ps at_ = W at *
  generalize LU hz ps at_ = L at *
  generalize hf0 : ps.getD 0 0 = f0 at *
  generalize ms.getD 0 0 = m0 at *
  have HMK := hid (fun u => (rreach_any f0 u HF.out.1 HF.out.2).mono (fun e w' (h : e = Ending.returned (.int .u8 (rch f0)) ∧ u = w') => (⟨h.1, h.2.symm⟩ : e = Ending.returned (.int .u8 (rch f0)) ∧ w' = u)))
  have hpn : (0 : Int) < (pn : Int) := by omega
  have hpnn : 0 < pn := by omega
  obtain ⟨r, hr, KR⟩ : ∃ r : Nat, F % 4 = (r : Int) ∧ Hid (r = (F % 4).toNat) := ⟨(F % 4).toNat, by omega, hid rfl⟩
  have hr4 : (r : Int) < 4 := by omega
  obtain ⟨W', hW', KW⟩ : ∃ r' : Nat, (r : Int) + 1 = (r' : Int) ∧ Hid (r' = W) := ⟨W, by have := HW.out; have := KR.out; omega, hid rfl⟩
  have hW5 : W' ≤ 4 := by have := KW.out; have := WR.out; omega
  have hwrW : IntKind.i64.wrap (W' : Int) = (W' : Int) := by rw [wrap_i64]; omega
  have hmk1 : W' * 1 ≤ 281474976710656 := by omega
  have hmk2 : W' ≤ maxLen := by unfold maxLen; omega
  have hW5i : (W' : Int) ≤ 4 := by omega
  have hf4 : F.tmod 4 = (r : Int) := tmod4 FL.out.1 hr
  go_wp2
  go_quiet (first | (go_at_call 48; exact Calls.quiet_of_same (HMK.out _)))
  go_wp2_with (at_make; refine wpList_make_full _ rfl _ _ 22 rfl (w3.drewN nq).heap.size 5 i0 (.int .u8 0) 1 Try.underlying22 hi hz0 hz1 .i64 .i64 _ _ W' rfl rfl rfl rfl (by rw [hz2]; omega) hmk2 (Nat.le_refl _) ?_; intro w4 hown hgr)
  clear hf4 hmk1 hmk2
  rw [made_zero] at hown
  have QN := hid (show Q w3 (w3.drewN nq) from (Q.refl w3).drewN nq)
  have WL := hid (show L.length = W' from by rw [LL.out, KW.out])
  have T1 := hid (show TI (w3.drewN nq) w4 w3.heap.size W' (luT L 0) from ⟨(Q.refl _).grown hgr, by rw [show luT L 0 = List.replicate W' 0 from by simp [luT, WL.out]]; exact (show Own w4 w3.heap.size (some ⟨w3.heap.size, 0, none⟩) W' W' (List.replicate W' 0) from hown).row (by intro e; cases e), Nat.le_refl _⟩)
  have NM := hid (show mb < w3.heap.size from lt_of_cell (MK.out 0 (by omega)))
  clear hown hgr hi hz0 hz1 hz2 hx1 hm0
  generalize hgl : w3.heap.size = gl at *
  have HGL := hid hgl
  clear hgl
  have Q3n := hid (show Q w (w3.drewN nq) from Q3.out.drewN nq)
  have B3n := hid (show RB (w3.drewN nq) bx 0 0 nilS nilS from B3.out)
  have MKn := hid (show MkB (w3.drewN nq) mb ms from MK.out)
  have PLT := hid (show pg < w.heap.size from by
    obtain ⟨pg2, po2, he2, hc2⟩ := in_cell HP.out (j := 0) hpnn
    cases he2
    exact lt_of_cell hc2)
  clear MK B3 Q3 QN
  generalize hw5 : w3.drewN nq = w5 at *
  clear hw5
  go_wp2
  go_loopw [14, 15] (fun vs is wr => ∃ i : Nat, i ≤ W' ∧ is = .int .i64 i ∧ vs = .int .i64 (val 0 (L.take i)) ∧ TI w5 wr gl W' (luT L i)) (fun _ is _ => ((W' : Int) - intOf is).toNat)
  case atStart => exact ⟨0, Nat.zero_le _, rfl, rfl, T1.out⟩
  case round =>
    clear T1
    obtain ⟨i, hi, rfl, rfl, hT⟩ := hrel
    have HT := hid hT
    clear hT
    by_cases hin : i < W'
    · have hin' : (i : Int) < (W' : Int) := by omega
      have hiL : i < L.length := by rw [WL.out]; exact hin
      obtain ⟨q, hq, KQ⟩ : ∃ q : Nat, (at_ : Int) + (i : Int) = (q : Int) ∧ Hid (q = at_ + i) := ⟨at_ + i, by omega, hid rfl⟩
      obtain ⟨s, hs, KS⟩ : ∃ s : Nat, (i : Int) + 1 = (s : Int) ∧ Hid (s = i + 1) := ⟨i + 1, by omega, hid rfl⟩
      have hqp : q < ps.length := by have := KQ.out; omega
      obtain ⟨pg2, po2, he2, hc2⟩ := in_cell (HP.out.q (Q3n.out.trans HT.out.q)) (j := q) (by show q < pn; omega)
      cases he2
      have hz2 := (MKn.out.q HT.out.q) (i + 1) (by omega)
      obtain ⟨hy1, hy2⟩ := row_cell HT.out.r (j := i) (x := (luT L i).getD i 0) (by rw [List.getD_eq_getElem?_getD, List.getElem?_eq_getElem (by rw [luT_len L i (by omega)]; exact hiL)]; rfl)
      have HE := hid (show bits .xor .u8 (ps.getD q 0) (ms.getD (i + 1) 0) = L.getD i 0 from by rw [LA.out i (by rw [← KW.out]; exact hin), KQ.out])
      have HV := hid (val_take L i hiL)
      have hvr := val_lt LZ.out i (by omega)
      have hvp := pow_le4 i (by omega)
      have hv0 : 0 ≤ val 0 (L.take i) := hvr.1
      have hv1 : val 0 (L.take i) < 4294967296 := by omega
      have hg := getD_lt LZ.out i
      have HST := hid (show ∀ wx, TI w5 wx gl W' (luT L i) → TI w5 (wx.setCell ⟨gl, i, none⟩ (.int .u8 (L.getD i 0))) gl W' (luT L (i + 1)) from fun wx hx => by
        rw [← luT_set L i hiL]; exact hx.set hin _)
      rw [← KS.out] at hz2 HE
      have hwq : IntKind.i64.wrap (q : Int) = (q : Int) := by rw [wrap_i64]; have := KQ.out; omega
      have hws : IntKind.i64.wrap (s : Int) = (s : Int) := by rw [wrap_i64]; have := KS.out; omega
      have hqx : (q : Int) < (pn : Int) := by have := KQ.out; omega
      have hqxn : q < pn := by omega
      have hq0 : (0 : Int) ≤ (q : Int) := by omega
      have hs5 : (s : Int) < 5 := by have := KS.out; omega
      have hs5n : s < 5 := by omega
      have hs0 : (0 : Int) ≤ (s : Int) := by omega
      have hxe := HE.out
      clear hvr hvp
      generalize val 0 (L.take i) = v at *
      generalize ps.getD q 0 = xx at *
      generalize ms.getD s 0 = yy at *
      generalize hzz : L.getD i 0 = zz at *
      have HZZ := hid hzz
      clear hzz
      generalize (luT L i).getD i 0 = old at *
      clear ha4 ha4x ha4n hcne ha40 hwr hpn hr hr4 hW' hwrW hF hf0 b2 b3 b4 bc hqp
      go_wp2
      go_upto_region 9 with fail
      go_cut [] from 44 to 71 (fun wx => TI w5 wx gl W' (luT L (i + 1)))
      case first =>
        go_region
        all_goals (
          go_wp2_with fail
          go_meet
          case rel =>
            first
              | exact (HST.out _ HT.out).step ((Q.refl _).drew)
              | exact HST.out _ (HT.out.step ((Q.refl _).drew))
              | exact (HST.out _ HT.out).drewN _
              | exact HST.out _ (HT.out.drewN _)
              | exact HST.out _ HT.out)
      case rest =>
        have HC := hid hcut
        clear hcut hy1 hy2 hc2 hz2
        generalize hwz : wc = wy at *
        clear hwz
        obtain ⟨hy1, hy2⟩ := row_cell HC.out.r (j := i) (x := zz) (by rw [luT_get L i hiL, HZZ.out])
        go_wp2
        exact ⟨⟨i + 1, by omega, by first | go_num | (rw [hs, KS.out]), by rw [HV.out], HC.out⟩, by simp [intOf] <;> omega⟩
    · obtain rfl : i = W' := by omega
      have hin' : ¬ (i : Int) < (i : Int) := by omega
      rw [show L.take i = L from List.take_of_length_le (by rw [WL.out]; exact Nat.le_refl _)]
      have Q6 := hid (Q3n.out.trans HT.out.q)
      have B6 := hid (B3n.out.q HT.out.q)
      have R6 := hid (show Row wr ⟨some ⟨gl, 0, none⟩, i, i⟩ L from by have h := HT.out.r; rw [show luT L i = L from by rw [← WL.out]; exact luT_all L] at h; exact h)
      clear HT B3n Q3n MKn
      have hat1 : (1 : Int) ≤ (at_ : Int) := by omega
      have hatc : (at_ : Int) ≤ (pc : Int) := by omega
      have hpc1 : ¬ pc = 1 := by omega
      have LM := hid (show L.length = i from WL.out)
      go_wp2_with fail
      have hf : ([[F], (ps.drop 1).take (at_ - 1), L] : List (List Int)).flatten = umB hz ps at_ := by rw [BSP.out]; simp
      have IMID := hid (show In wr ⟨some ⟨pg, po + 1, none⟩, at_ - 1, pc - 1⟩ ((ps.drop 1).take (at_ - 1)) from by
        have h1 : In wr ⟨some ⟨pg, po + 1, none⟩, pn - 1, pc - 1⟩ (ps.drop 1) := In.drop (HP.out.q Q6.out) (by omega)
        exact In.take h1 (at_ - 1) (pc - 1) (by show at_ - 1 ≤ pn - 1; omega))
      have qa : Q wr (wr.alloc (.cells #[.int .u8 F] 5)) := (Q.refl wr).alloc _
      refine (join_at (wr.alloc (.cells #[.int .u8 F] 5)) (wr.heap.size + 1) (by simp) [⟨some ⟨wr.heap.size, 0, none⟩, 1, 1⟩, ⟨some ⟨pg, po + 1, none⟩, at_ - 1, pc - 1⟩, ⟨some ⟨gl, 0, none⟩, i, i⟩] [[F], (ps.drop 1).take (at_ - 1), L] rfl (in3 (in_lit1 wr F FL.out.1 FL.out.2) (IMID.out.q qa) ((row_in R6.out LZ.out).q qa)) (by show 3 ≤ 100; omega) (by rw [hf, BSP.out]; simp; have := LM.out; omega)).mono ?_
      rintro e w7 ⟨⟨xa, xn, xc⟩, rfl, q7, i7, r7, n7⟩
      rw [hf] at i7 r7
      have Q7 := hid (Q6.out.trans (qa.trans q7))
      have B7 := hid (B6.out.q (qa.trans q7))
      have R7 := hid r7
      have NX := hid (show ∀ b, blk xa = some b → wr.heap.size ≤ b from fun b e => Nat.le_trans qa.size (n7 b e))
      clear q7 i7 r7 n7 qa hf IMID R6 B6 Q6
      obtain ⟨aw, haw, KAW⟩ : ∃ r' : Nat, (at_ : Int) + (i : Int) = (r' : Int) ∧ Hid (r' = at_ + W) := ⟨at_ + W, by have := KW.out; omega, hid rfl⟩
      have hwr2 : IntKind.i64.wrap (aw : Int) = (aw : Int) := by rw [wrap_i64]; have := KAW.out; have := WR.out; omega
      have haw0 : (0 : Int) ≤ (aw : Int) := by omega
      have hawc : (aw : Int) ≤ (pc : Int) := by have := KAW.out; have := WR.out; omega
      have hawn : (aw : Int) ≤ (pn : Int) := by have := KAW.out; have := WR.out; omega
      have hawne : ¬ pc = aw := by have := KAW.out; have := WR.out; omega
      have CX := hid (fun u => hrexpand_any high (val 0 L) (i : Int) u)
      have HNN' := hid (show expM high (val 0 L) (i : Int) = umN hz ps at_ high from by rw [HNN.out, KW.out])
      generalize val 0 L = vv at *
      generalize expM high vv (i : Int) = nn at *
      have c0 := B7.out.c0
      have c1 := B7.out.c1
      have c2 := B7.out.c2
      have c3 := B7.out.c3
      have f0' : w7.frozen? ⟨bx, 0, none⟩ = false := frozen_of_row w7 bx 0 _ 103 B7.out
      have f1' : w7.frozen? ⟨bx, 1, none⟩ = false := frozen_of_row w7 bx 1 _ 103 B7.out
      have f2' : w7.frozen? ⟨bx, 2, none⟩ = false := frozen_of_row w7 bx 2 _ 103 B7.out
      have f3' : w7.frozen? ⟨bx, 3, none⟩ = false := frozen_of_row w7 bx 3 _ 103 B7.out
      have k0 : Keep (fun i => i = bx) w7 w7 := Keep.refl _ _
      go_wp2
      go_region_held3 (fun u => Keep (fun i => i = bx) w7 u) (repeat (first | (with_reducible assumption) | (with_reducible apply Keep.drew) | (with_reducible apply Keep.drewN) | (with_reducible refine Keep.setCell ?_ _ _ _ (.inl rfl))))
        (first
          | (go_at_call 79; refine (CX.out _).mono ?_; rintro e w' ⟨rfl, rfl⟩))
      have BF0 := hid (RB.sets B7.out F nn ⟨xa, xn, xc⟩ ⟨some ⟨pg, po + aw, none⟩, pn - aw, pc - aw⟩)
      have KF0 := hid (((((Keep.refl (fun i => i = bx) w7).setCell bx 0 (.int .u8 F) (.inl rfl)).setCell bx 1 (.int .i64 nn) (.inl rfl)).setCell bx 2 (.slice xa xn xc) (.inl rfl)).setCell bx 3 (.slice (some ⟨pg, po + aw, none⟩) (pn - aw) (pc - aw)) (.inl rfl))
      dsimp only at BF0
      clear k0 CX c0 c1 c2 c3 f0' f1' f2' f3'
      go_wp2
      generalize World.setCell (World.setCell (World.setCell (World.setCell w7 _ _) _ _) _ _) _ _ = wf at *
      refine ret_rb rfl rfl bx F nn ⟨xa, xn, xc⟩ ⟨some ⟨pg, po + aw, none⟩, pn - aw, pc - aw⟩ rfl BF0.out ⟨⟨xa, xn, xc⟩, ⟨some ⟨pg, po + aw, none⟩, pn - aw, pc - aw⟩, by rw [HFG.out, ← HNN'.out], ?_, ?_, ?_, ?_⟩
      · exact (KF0.out.below Q7.out Q7.out.size (fun i e => by have := HX.out; omega)).drew
      · exact (row_in (row_keep R7.out B7.out (by decide) KF0.out) BZ.out).q ((Q.refl _).drew)
      · have hin7 : In w7 ⟨some ⟨pg, po + aw, none⟩, pn - aw, pc - aw⟩ (ps.drop aw) := In.drop (HP.out.q Q7.out) (by omega)
        rw [HSS.out, ← KAW.out]
        exact (show In wf ⟨some ⟨pg, po + aw, none⟩, pn - aw, pc - aw⟩ (ps.drop aw) from ⟨hin7.s.keep KF0.out (fun b e f => by simp [blk] at e; have := HX.out; have := PLT.out; omega), hin7.l, hin7.z⟩).q ((Q.refl _).drew)
      · show pn - aw ≤ pc - aw
        omega
end Go.Proofs.Ytihmlfpfpadfpaa
