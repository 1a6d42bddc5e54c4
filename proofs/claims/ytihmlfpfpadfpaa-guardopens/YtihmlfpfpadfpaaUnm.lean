/-
  What guard's unmask does: a contract that the statements' walks use.
-/
import Derived.Test.YtihmlfpfpadfpaaNum
import Derived.Test.YtihmlfpfpadfpaaPrt
import Derived.Test.YtihmlfpfpadfpaaHEx
import Derived.BigQuiet
import Derived.Deep.QuietTactic
import Derived.Deep.Cut
import Derived.Deep.CutRange
import Derived.Deep.RegionHeld3
namespace Go.Proofs.Ytihmlfpfpadfpaa
open Go.RowKit
set_option linter.unusedVariables false
set_option maxRecDepth 20000

/-- The number that a packet tells. -/
def umN (hp pk : List Int) (at_ : Nat) (high : Int) : Int := expM high (val 0 ((umB hp pk at_).drop at_)) (umW hp pk at_ : Nat)
theorem seg_mk {w : World} {b : Nat} {ms : List Int} (h : w.heap[b]? = some (.cells (u8s ms).toArray 85 (0, 0))) (hl : ms.length = 5) : MkB w b ms := by
  intro j hj
  rw [cell_of_row w b j _ 85 (0, 0) h]
  simp [List.getD_eq_getElem?_getD, hl, hj]
theorem BB.sets {w : World} {g : Nat} {b0 s0 : Sv} {n0 : Int} (x : BB w g b0 n0 s0) (b : Sv) (n : Int) (s : Sv) : BB (((w.setCell ⟨g, 0, none⟩ (.slice b.a b.n b.c)).setCell ⟨g, 1, none⟩ (.int .i64 n)).setCell ⟨g, 2, none⟩ (.slice s.a s.n s.c)) g b n s := by
  have h1 : BB (w.setCell ⟨g, 0, none⟩ (.slice b.a b.n b.c)) g b n0 s0 := by
    have := heap_setCell_same w g 0 _ 97 (.slice b.a b.n b.c) x
    simpa [BB] using this
  have h2 : BB ((w.setCell ⟨g, 0, none⟩ (.slice b.a b.n b.c)).setCell ⟨g, 1, none⟩ (.int .i64 n)) g b n s0 := by
    have := heap_setCell_same _ g 1 _ 97 (.int .i64 n) h1
    simpa [BB] using this
  have := heap_setCell_same _ g 2 _ 97 (.slice s.a s.n s.c) h2
  simpa [BB] using this
set_option maxHeartbeats 8000000 in
theorem unmask_any (h p : Sv) (hz ps : List Int) (at_ : Nat) (high : Int) (w : World) (hh : In w h hz) (hp : In w p ps) (lh : h.n = 16) (b1 : 1 ≤ at_) (b2 : at_ ≤ 16380) (b3 : at_ + 20 ≤ p.n) (b4 : p.n ≤ at_ + 16400) (bc : p.n ≤ p.c) :
    Calls Try.prog 51 #[.slice h.a h.n h.c, .slice p.a p.n p.c, .int .i64 at_, .int .i64 high] w fun e w' => ∃ b s : Sv, e = .returned (.agg (bcells b (umN hz ps at_ high) s)) ∧ Q w w' ∧ In w' b (umB hz ps at_) ∧ In w' s (umS hz ps at_) ∧ s.n ≤ s.c := by
  obtain ⟨ha, hn, hc⟩ := h
  obtain ⟨pa, pn, pc⟩ := p
  dsimp only at *
  subst lh
  have HH := hid hh
  have HP := hid hp
  obtain ⟨pg, po, he, _⟩ := in_cell hp (j := 0) (by show 0 < pn; omega)
  dsimp only at he
  subst he
  clear hh hp
  have hl : ps.length = pn := HP.out.l
  have HBC := hid bc
  go_enter Try.func51, Try.ntmps51
  obtain ⟨a4, ha4, KA⟩ : ∃ r : Nat, (at_ : Int) + 4 = (r : Int) ∧ Hid (r = at_ + 4) := ⟨at_ + 4, by omega, hid rfl⟩
  have ha4x : (a4 : Int) ≤ (pn : Int) := by have := KA.out; omega
  have ha4n : a4 ≤ pn := by omega
  have hcne : ¬ pc = a4 := by have := KA.out; omega
  have ha40 : (0 : Int) ≤ (a4 : Int) := by omega
  have hwr : IntKind.i64.wrap (a4 : Int) = (a4 : Int) := by rw [wrap_i64]; have := KA.out; omega
  go_wp2_with fail
  generalize hw1 : World.alloc w _ = w1
  have Q1 := hid (show Q w w1 from by rw [← hw1]; exact (Q.refl w).alloc _)
  have B1 := hid (show BB w1 w.heap.size nilS 0 nilS from by rw [← hw1]; exact heap_alloc_new w _)
  clear hw1
  have HM := hid (show Calls Try.prog 41 #[.slice ha 16 hc, .slice (some ⟨pg, po + a4, none⟩) (pn - a4) (pc - a4)] w1 fun e w' => e = .returned (.tuple #[arr (mskL hz (ps.drop (at_ + 4))), .int .i64 0]) ∧ Q w1 w' from by
    have h1 := pmask_any ⟨ha, 16, hc⟩ ⟨some ⟨pg, po + a4, none⟩, pn - a4, pc - a4⟩ hz (ps.drop a4) w1 (HH.out.q Q1.out) (In.drop (HP.out.q Q1.out) ha4n) (by show 16 ≤ _; omega) (by show pn - a4 ≤ _; omega) (by show pn - a4 ≤ pc - a4; omega)
    have he : mskE 16 (pn - a4) = 0 := by unfold mskE; rw [if_neg (by omega), if_neg (by have := KA.out; omega)]
    refine h1.mono ?_
    rintro e w' ⟨rfl, q⟩
    refine ⟨?_, q⟩
    show Ending.returned (.tuple #[arr (mskR hz (ps.drop a4)), .int .i64 (mskE 16 (pn - a4))]) = _
    rw [he, show mskR hz (ps.drop a4) = mskL hz (ps.drop (at_ + 4)) from by
      unfold mskR; rw [if_pos (by rw [show hz.length = 16 from HH.out.l, List.length_drop, hl]; exact he), KA.out]])
  have HBX := hid (Nat.le_refl w.heap.size)
  generalize hbx : w.heap.size = bx at *
  have HX := hid hbx
  clear hbx
  have HML := hid (mskL_len hz (ps.drop (at_ + 4)))
  have HMZ := hid (mskL_lt hz (ps.drop (at_ + 4)))
  have DF := hid (show umF hz ps at_ = fstM (ps.getD 0 0) ((mskL hz (ps.drop (at_ + 4))).getD 0 0) from rfl)
  have DB := hid (show umB hz ps at_ = ovA ((ps.take (at_ + umW hz ps at_)).set 0 (umF hz ps at_)) at_ ((mskL hz (ps.drop (at_ + 4))).drop 1) (umW hz ps at_) from rfl)
  generalize mskL hz (ps.drop (at_ + 4)) = ms at *
  refine HM.out.mono ?_
  rintro e w2 ⟨rfl, q2⟩
  have Q2 := hid (Q1.out.trans q2)
  have B2 := hid (B1.out.q q2)
  clear q2 HM B1 Q1
  go_wp2_with (refine wpList_store_row rfl 85 _ _ rfl w2.heap.size (u8s ms).toArray rfl rfl 85 _ (heap_alloc_new w2 _) (arr5_info _ HML.out) (arr5_sizes (List.replicate 5 0) _ rfl HML.out) (arr_one _) ?_; refine Hid.out ?_)
  refine hid ?_
  generalize hw3 : World.setRow _ _ _ = w3
  have Q3' := hid (show Q w2 w3 from by
    have k3 : Keep (fun i => i = w2.heap.size) w2 w3 := by rw [← hw3]; exact ((Keep.refl (fun i => i = w2.heap.size) w2).alloc _).setRow _ _ (.inl rfl)
    exact k3.below (Q.refl _) (Nat.le_refl _) (fun i e => by omega))
  have MK := hid (show MkB w3 w2.heap.size ms from seg_mk (by rw [← hw3]; exact setRow_heap _ _ _ _ 85 _ (heap_alloc_new w2 _)) HML.out)
  clear hw3
  have Q3 := hid (Q2.out.trans Q3'.out)
  have B3 := hid (B2.out.q Q3'.out)
  clear Q3' B2 Q2
  generalize w2.heap.size = mb at *
  have HF := hid (getD_lt HP.out.z 0)
  have HM0 := hid (getD_lt HMZ.out 0)
  have hp0 := (HP.out.q Q3.out).s (by intro e; rw [e] at hl; simp at hl; omega)
  obtain ⟨pg', po', he', hpc⟩ := hp0
  cases he'
  have hx1 := hpc 0 (by omega)
  rw [Nat.add_zero] at hx1
  have hm0 := MK.out 0 (by omega)
  have hF : bits .xor .u8 (ps.getD 0 0) (bits .and .u8 (ms.getD 0 0) (rch (ps.getD 0 0))) = umF hz ps at_ := DF.out.symm
  have FL := hid (umF_lt hz HP.out.z at_)
  have HW := hid (show umW hz ps at_ = (umF hz ps at_ % 4).toNat + 1 from rfl)
  have HNN := hid (show umN hz ps at_ high = expM high (val 0 ((umB hz ps at_).drop at_)) (umW hz ps at_ : Nat) from rfl)
  have HSS := hid (show umS hz ps at_ = ps.drop (at_ + umW hz ps at_) from rfl)
  have WR := hid (umW_range hz ps at_)
  have BL := hid (umB_len hz ps at_ (by omega))
  have BZ := hid (umB_lt hz HP.out.z at_)
  clear hpc DF HH
  generalize umF hz ps at_ = F at *
  generalize umW hz ps at_ = W at *
  generalize hf0 : ps.getD 0 0 = f0 at *
  generalize ms.getD 0 0 = m0 at *
  have HMK := hid (fun u => (masked_any f0 u HF.out.1 HF.out.2).mono (fun e w' (h : e = Ending.returned (.int .u8 (rch f0)) ∧ u = w') => (⟨h.1, h.2.symm⟩ : e = Ending.returned (.int .u8 (rch f0)) ∧ w' = u)))
  have hpn : (0 : Int) < (pn : Int) := by omega
  have hpnn : 0 < pn := by omega
  have h3 := and3 F FL.out.1 FL.out.2
  obtain ⟨r, hr, KR⟩ : ∃ r : Nat, F % 4 = (r : Int) ∧ Hid (r = (F % 4).toNat) := ⟨(F % 4).toNat, by omega, hid rfl⟩
  rw [hr] at h3
  have hr4 : (r : Int) < 4 := by omega
  obtain ⟨W', hW', KW⟩ : ∃ r' : Nat, (r : Int) + 1 = (r' : Int) ∧ Hid (r' = W) := ⟨W, by have := HW.out; have := KR.out; omega, hid rfl⟩
  obtain ⟨aw, haw, KAW⟩ : ∃ r' : Nat, (at_ : Int) + (W' : Int) = (r' : Int) ∧ Hid (r' = at_ + W) := ⟨at_ + W, by have := KW.out; omega, hid rfl⟩
  have hwr2 : IntKind.i64.wrap (aw : Int) = (aw : Int) := by rw [wrap_i64]; have := KAW.out; have := WR.out; omega
  have hwrW : IntKind.i64.wrap (W' : Int) = (W' : Int) := by rw [wrap_i64]; have := KW.out; have := WR.out; omega
  have haw0 : (0 : Int) ≤ (aw : Int) := by omega
  have hawc : (aw : Int) ≤ (pc : Int) := by have := KAW.out; have := WR.out; omega
  have hawn : (aw : Int) ≤ (pn : Int) := by have := KAW.out; have := WR.out; omega
  have hsl := fun u => sl_to (some ⟨pg, po, none⟩) pn pc aw (by omega) u
  have hsl2 := fun u => sl_from pg po pn pc aw (by omega) (by omega) u
  go_wp2
  go_quiet (first | (go_at_call 42; exact Calls.quiet_of_same (HMK.out _)))
  go_wp2_with fail
  have Q3n := hid (show Q w (w3.drewN nq) from Q3.out.drewN nq)
  have B3n := hid (show BB (w3.drewN nq) bx nilS 0 nilS from B3.out)
  have MKn := hid (show MkB (w3.drewN nq) mb ms from MK.out)
  clear hx1 hm0 MK B3 Q3
  generalize hw4 : w3.drewN nq = w4 at *
  clear hw4
  refine (clone_any ⟨some ⟨pg, po, none⟩, aw, pc⟩ (ps.take aw) w4 (In.take (HP.out.q Q3n.out) aw pc (by show aw ≤ pn; omega)) (by show aw ≤ _; have := KAW.out; have := WR.out; omega)).mono ?_
  rintro e w5 ⟨⟨ya, yn, yc⟩, rfl, q5, r5, n5⟩
  have hyn : aw = yn := by have h1 := Row.len r5; rw [List.length_take] at h1; dsimp only at h1; omega
  subst hyn
  obtain ⟨g, off, he⟩ := row_addr r5 (by show 0 < aw; have := KAW.out; have := WR.out; omega)
  dsimp only at he
  subst he
  have YC := hid (show aw ≤ yc from Row.cap r5)
  have Q5 := hid (Q3n.out.trans q5)
  have B5 := hid (B3n.out.q q5)
  have MK5 := hid (MKn.out.q q5)
  have N5 := hid (show w4.heap.size ≤ g from n5 g rfl)
  have NB := hid (show bx < w4.heap.size from lt_of_block B3n.out)
  have NM := hid (show mb < w4.heap.size from lt_of_cell (MKn.out 0 (by omega)))
  have N0 := hid (show w.heap.size ≤ g from Nat.le_trans Q3n.out.size (n5 g rfl))
  have R5 := hid r5
  have hy0 : (0 : Int) < (aw : Int) := by have := KAW.out; have := WR.out; omega
  have hy0n : 0 < aw := by omega
  have hy00 := row_cellc r5 (g := g) (off := off) (j := 0) rfl (x := (ps.take aw).getD 0 0) (by rw [List.getD_eq_getElem?_getD, List.getElem?_eq_getElem (by rw [List.length_take]; omega)]; rfl)
  rw [Nat.add_zero] at hy00
  obtain ⟨hy1, hy2⟩ := hy00
  clear q5 r5 n5 B3n MKn Q3n
  generalize (ps.take aw).getD 0 0 = oldf at *
  go_wp2
  generalize hw6 : World.setCell w5 _ _ = w6
  have K6 := hid (show Keep (fun i => i = g) w5 w6 from by rw [← hw6]; exact (Keep.refl _ w5).setCell _ _ _ (.inl rfl))
  have R6 := hid (show Row w6 ⟨some ⟨g, off, none⟩, aw, yc⟩ ((ps.take aw).set 0 F) from by
    rw [← hw6]
    have := row_setc R5.out (g := g) (off := off) (j := 0) rfl hy0n F
    rw [Nat.add_zero] at this
    exact this)
  have SM := hid ((MK5.out.keep K6.out (by have := NM.out; have := N5.out; omega)).seg HML.out)
  clear hw6 hy1 hy2 R5 MK5
  have hat0 : (0 : Int) ≤ (at_ : Int) := by omega
  have hata : (at_ : Int) ≤ (aw : Int) := by omega
  have hatan : at_ ≤ aw := by omega
  have hyce : ¬ yc = at_ := by have := YC.out; have := KAW.out; have := WR.out; omega
  have hsl3 := fun u => sl_from g off aw yc at_ hatan (by have := YC.out; have := KAW.out; have := WR.out; omega) u
  have OV := hid (fun u (hr : Row u ⟨some ⟨g, off, none⟩, aw, yc⟩ ((ps.take aw).set 0 F)) (hs : Seg u (some ⟨mb, 1, none⟩) (ms.drop 1)) => over_any ⟨some ⟨g, off, none⟩, aw, yc⟩ ⟨some ⟨mb, 1, none⟩, 4, 4⟩ g off at_ (aw - at_) (yc - at_) ((ps.take aw).set 0 F) (ms.drop 1) u rfl hr (by show at_ + (aw - at_) ≤ aw; omega) hs (by rw [List.length_drop, HML.out]) (by show aw - at_ ≤ 4; have := KAW.out; have := WR.out; omega) (blk_ne (by have := NM.out; have := N5.out; omega)) (by have := KAW.out; have := WR.out; omega))
  have k0 : Keep (fun i => i = g) w6 w6 := Keep.refl _ _
  go_region_held3 (fun u => Keep (fun i => i = g) w6 u) (repeat (first | (with_reducible assumption) | (with_reducible apply Keep.drew) | (with_reducible apply Keep.drewN)))
    (first | (go_at_call 43; refine (OV.out _ (R6.out.q (by repeat (first | (with_reducible assumption) | (with_reducible exact Q.refl _) | (with_reducible apply Q.drew) | (with_reducible apply Q.drewN) | (with_reducible apply Q.alloc)))) (SM.out.q (by repeat (first | (with_reducible assumption) | (with_reducible exact Q.refl _) | (with_reducible apply Q.drew) | (with_reducible apply Q.drewN) | (with_reducible apply Q.alloc))))).mono ?_; rintro e w7 ⟨rfl, k7, r7⟩; have kg : Keep (fun i => i = g) w6 w7 := by first | exact k7 | exact Keep.ofDrew k7 | exact Keep.ofDrewN k7))
  have K7 := hid (K6.out.trans kg)
  have R7 := hid (show Row w7 ⟨some ⟨g, off, none⟩, aw, yc⟩ (umB hz ps at_) from by
    rw [DB.out, ← KAW.out, show W = aw - at_ by have := KAW.out; omega]
    exact r7)
  have Q7 := hid (show Q w w7 from K7.out.below Q5.out Q5.out.size (fun i e => by have := N0.out; omega))
  have B7 := hid (show BB w7 bx nilS 0 nilS from (K7.out.block bx (lt_of_block B5.out) (by have := NB.out; have := N5.out; omega)).trans B5.out)
  clear k7 kg r7 k0 OV SM R6 K6 B5 Q5 K7
  have c0 := B7.out.c0
  have c1 := B7.out.c1
  have c2 := B7.out.c2
  have f0' : w7.frozen? ⟨bx, 0, none⟩ = false := frozen_of_row w7 bx 0 _ 97 B7.out
  have f1' : w7.frozen? ⟨bx, 1, none⟩ = false := frozen_of_row w7 bx 1 _ 97 B7.out
  have f2' : w7.frozen? ⟨bx, 2, none⟩ = false := frozen_of_row w7 bx 2 _ 97 B7.out
  have IB := hid (row_in R7.out BZ.out)
  have CN := hid (fun u (hu : Q w7 u) => number_of ⟨some ⟨g, off + at_, none⟩, aw - at_, yc - at_⟩ ((umB hz ps at_).drop at_) u (In.drop (IB.out.q hu) hatan) (by show aw - at_ ≤ 4; have := KAW.out; have := WR.out; omega))
  have CX := hid (fun u => hexpand_any high (val 0 ((umB hz ps at_).drop at_)) (W' : Int) u)
  have HNN' := hid (show expM high (val 0 ((umB hz ps at_).drop at_)) (W' : Int) = umN hz ps at_ high from by rw [HNN.out, KW.out])
  generalize val 0 ((umB hz ps at_).drop at_) = vv at *
  generalize expM high vv (W' : Int) = nn at *
  have s1 : Q w7 w7 := Q.refl _
  have k0 : Keep (fun i => i = bx) w7 w7 := Keep.refl _ _
  go_wp2
  go_region_held3 (fun u => Keep (fun i => i = bx) w7 u) (repeat (first | (with_reducible assumption) | (with_reducible apply Keep.drew) | (with_reducible apply Keep.drewN) | (with_reducible refine Keep.setCell ?_ _ _ _ (.inl rfl))))
    (first
      | (go_at_call 76; refine (CN.out _ (by repeat (first | (with_reducible assumption) | (with_reducible exact Q.refl _) | (with_reducible apply Q.drew) | (with_reducible apply Q.drewN) | (with_reducible apply Q.alloc)))).mono ?_; rintro e w' ⟨rfl, rfl⟩)
      | (go_at_call 75; refine (CX.out _).mono ?_; rintro e w' ⟨rfl, rfl⟩))
  have BF0 := hid (BB.sets B7.out ⟨some ⟨g, off, none⟩, aw, yc⟩ nn ⟨some ⟨pg, po + aw, none⟩, pn - aw, pc - aw⟩)
  have KF0 := hid ((((Keep.refl (fun i => i = bx) w7).setCell bx 0 (.slice (some ⟨g, off, none⟩) aw yc) (.inl rfl)).setCell bx 1 (.int .i64 nn) (.inl rfl)).setCell bx 2 (.slice (some ⟨pg, po + aw, none⟩) (pn - aw) (pc - aw)) (.inl rfl))
  dsimp only at BF0
  clear s1 k0 CN CX c0 c1 c2 f0' f1' f2'
  go_wp2
  generalize World.setCell (World.setCell (World.setCell w7 _ _) _ _) _ _ = wf at *
  refine ret_bare rfl rfl bx ⟨some ⟨g, off, none⟩, aw, yc⟩ nn ⟨some ⟨pg, po + aw, none⟩, pn - aw, pc - aw⟩ rfl BF0.out ⟨⟨some ⟨g, off, none⟩, aw, yc⟩, ⟨some ⟨pg, po + aw, none⟩, pn - aw, pc - aw⟩, by rw [← HNN'.out], ?_, ?_, ?_, ?_⟩
  · exact (KF0.out.below Q7.out Q7.out.size (fun i e => by have := HX.out; omega)).drew
  · exact (row_in (row_keep R7.out B7.out (by decide) KF0.out) BZ.out).q ((Q.refl _).drew)
  · have hin : In w7 ⟨some ⟨pg, po + aw, none⟩, pn - aw, pc - aw⟩ (ps.drop aw) := In.drop (HP.out.q Q7.out) (by omega)
    rw [HSS.out, ← KAW.out]
    obtain ⟨pg2, po2, he2, hc2⟩ := in_cell HP.out (j := 0) hpnn
    cases he2
    have hlt := lt_of_cell hc2
    exact (show In wf ⟨some ⟨pg, po + aw, none⟩, pn - aw, pc - aw⟩ (ps.drop aw) from ⟨hin.s.keep KF0.out (fun b e f => by simp [blk] at e; have := HX.out; omega), hin.l, hin.z⟩).q ((Q.refl _).drew)
  · show pn - aw ≤ pc - aw
    omega
end Go.Proofs.Ytihmlfpfpadfpaa
