/-
  What guard's Protect does: a contract that the statements' walks use.
-/
import Derived.Test.YtihmlfpfpadfpaaChk
import Derived.Test.YtihmlfpfpadfpaaMask
import Derived.Deep.Cut
import Derived.Deep.CutRange
import Derived.Deep.RegionHeld3
namespace Go.Proofs.Ytihmlfpfpadfpaa
open Go.RowKit
set_option linter.unusedVariables false
set_option maxRecDepth 20000

/-- What Protect tells. -/
def ptR (kz iz hz hs : List Int) (num wd : Int) (ps : List Int) : List Int := if ptE kz.length iz.length hz.length hs.length num wd ps.length = 0 then proL kz iz hz hs num wd.toNat ps else []
theorem concat_two (w : World) (x y : Sv) (xs ys : List Int) (hx : In w x xs) (hy : In w y ys) (hl : xs.length + ys.length ≤ 1000000) :
    Calls Try.prog 31 #[.slice (some ⟨w.heap.size, 0, none⟩) 2 2] (w.alloc (.cells #[.slice x.a x.n x.c, .slice y.a y.n y.c] 22)) fun e w' => ∃ z : Sv, e = .returned (.slice z.a z.n z.c) ∧ Q w w' ∧ Row w' z (xs ++ ys) ∧ New w.heap.size z := by
  have q5 : Q w (w.alloc (.cells #[.slice x.a x.n x.c, .slice y.a y.n y.c] 22)) := (Q.refl w).alloc _
  refine (concat_any w.heap.size 2 2 (two x y) (two xs ys) _ ?_ ?_ (by omega) ?_).mono ?_
  · intro j hj
    rw [cell_lit]
    rcases (show j = 0 ∨ j = 1 by omega) with rfl | rfl <;> rfl
  · intro j hj
    rcases (show j = 0 ∨ j = 1 by omega) with rfl | rfl
    · exact ⟨hx.s.q q5, hx.l⟩
    · exact ⟨hy.s.q q5, hy.l⟩
  · show ([] ++ xs ++ ys).length ≤ 1000000
    rw [List.nil_append, List.length_append]; exact hl
  · rintro e w' ⟨z, rfl, q, r, n⟩
    exact ⟨z, rfl, q5.trans q, r, n.mono (by simp)⟩
theorem dcel {W : World} {p : Addr} {v : Value} (h : W.cell? p = some v) : W.drew.cell? p = some v := h
theorem dcelN {W : World} {p : Addr} {v : Value} {n : Nat} (h : W.cell? p = some v) : (W.drewN n).cell? p = some v := h
theorem acel {W : World} {b j : Nat} {v : Value} {o : Obj} (h : W.cell? ⟨b, j, none⟩ = some v) : (W.alloc o).cell? ⟨b, j, none⟩ = some v := (((Q.refl W).alloc o).cell (p := ⟨b, j, none⟩) (lt_of_cell h)).trans h
theorem keep_sets {b : Nat} : ∀ (vs : List Value) (o : Nat) (W : World), Keep (fun i => i = b) W (W.setCells b o vs)
  | [], _, W => Keep.refl _ _
  | v :: r, o, W => by
    rw [World.setCells]
    exact ((Keep.refl (fun i => i = b) W).setCell b o v (.inl rfl)).trans (keep_sets r (o + 1) _)
theorem scels {W : World} {b0 j b o : Nat} {v : Value} {vs : List Value} (h : W.cell? ⟨b0, j, none⟩ = some v) (hne : b0 ≠ b) : (W.setCells b o vs).cell? ⟨b0, j, none⟩ = some v := (keep_sets vs o W).cell h hne
theorem In.drop {w : World} {g o n c c' k : Nat} {zs : List Int} (h : In w ⟨some ⟨g, o, none⟩, n, c⟩ zs) (hk : k ≤ n) : In w ⟨some ⟨g, o + k, none⟩, n - k, c'⟩ (zs.drop k) := by
  have hl : zs.length = n := h.l
  refine ⟨fun hne => ⟨g, o + k, rfl, fun i hi => ?_⟩, by rw [List.length_drop, hl], fun y hy => h.z y (List.mem_of_mem_drop hy)⟩
  rw [List.length_drop] at hi
  obtain ⟨b, off, e, hc⟩ := h.s (by intro e; rw [e] at hi; simp at hi)
  cases e
  have := hc (k + i) (by omega)
  rw [Nat.add_assoc, this, List.getD_eq_getElem?_getD, List.getD_eq_getElem?_getD, List.getElem?_drop]
theorem sl_from (g o n c k : Nat) (hk : k ≤ n) (hc : k < c) (u : World) : (Instr.slice 22 (.slice (some ⟨g, o, none⟩) n c) (some (.int .i64 k)) none none).run Try.prog u = .ok (.slice (some ⟨g, o + k, none⟩) (n - k) (c - k)) u := by
  obtain ⟨i0, hi, hz0, hz1, hz2⟩ := info_parts info5
  have h := run_slice_l (P := Try.prog) u 22 (some ⟨g, o, none⟩) n c Try.underlying22 .i64 k (by omega) (by omega)
  have hs : (sizeOf (Try.prog.elem 22)).run Try.prog u = .ok 1 u := by kernel_rfl
  rw [h, hs]
  simp only [Result.andThen_ok, sliced, Int.toNat_natCast]
  rw [if_neg (by omega), Nat.mul_one, Option.map_some, addr_add]
theorem sl_mid (g o n c k m : Nat) (hk : k ≤ m) (hm : m ≤ c) (hc : k < c) (u : World) : (Instr.slice 22 (.slice (some ⟨g, o, none⟩) n c) (some (.int .i64 k)) (some (.int .i64 m)) none).run Try.prog u = .ok (.slice (some ⟨g, o + k, none⟩) (m - k) (c - k)) u := by
  have h := run_slice_lh (P := Try.prog) u 22 (some ⟨g, o, none⟩) n c Try.underlying22 .i64 .i64 k m (by omega) (by omega) (by omega)
  have hs : (sizeOf (Try.prog.elem 22)).run Try.prog u = .ok 1 u := by kernel_rfl
  rw [h, hs]
  simp only [Result.andThen_ok, sliced, Int.toNat_natCast]
  rw [if_neg (by omega), Nat.mul_one, Option.map_some, addr_add]
theorem sl_to (a : Option Addr) (n c m : Nat) (hm : m ≤ c) (u : World) : (Instr.slice 22 (.slice a n c) none (some (.int .i64 m)) none).run Try.prog u = .ok (.slice a m c) u := by
  have h := run_slice_h (P := Try.prog) u 22 a n c Try.underlying22 .i64 m (by omega) (by omega)
  have hs : (sizeOf (Try.prog.elem 22)).run Try.prog u = .ok 1 u := by kernel_rfl
  rw [h, hs]
  simp only [Result.andThen_ok, sliced, Int.toNat_natCast]
  cases a with
  | none => simp
  | some ad => by_cases hc : c = 0 <;> simp [hc, Addr.add]
theorem run_sc {w : World} {b : Nat} {ms : List Int} (ht : w.there b 0 5) (hl : ms.length = 5) : (storeCells ⟨b, 0, none⟩ (u8s ms)).run Try.prog w = .ok () (w.setCells b 0 (u8s ms)) := by
  have hl' : (u8s ms).length = 5 := by rw [List.length_map]; exact hl
  exact run_storeCells_cells (P := Try.prog) b 0 (u8s ms) 0 w (fun j hj => by simpa using (ht j (by omega)).1) (fun j hj => by simpa using (ht j (by omega)).2) (ints_oneCell _ _)
/-- The five bytes of a mask at a block. -/
def MkB (w : World) (b : Nat) (ms : List Int) : Prop := ∀ j, j < 5 → w.cell? ⟨b, j, none⟩ = some (.int .u8 (ms.getD j 0))
theorem MkB.keep {w w' : World} {b g : Nat} {ms : List Int} (h : MkB w b ms) (k : Keep (fun i => i = g) w w') (hne : b ≠ g) : MkB w' b ms := fun j hj => k.cell (h j hj) hne
theorem there5 {w : World} {g : Nat} (h : w.heap[g]? = some (.cells z5 85 (0, 0))) : w.there g 0 5 := fun j hj => by
  rw [Nat.zero_add]
  refine ⟨?_, frozen_of_row w g j _ 85 h⟩
  rw [cell_of_row w g j _ 85 (0, 0) h, List.getElem?_toArray, List.getElem?_map, List.getElem?_replicate, if_pos hj]; rfl
theorem there5_at {wm : World} (c : World) (n : Nat) (hn : c.heap.size = n) (hq : Q (c.alloc (.cells z5 85)) wm) : wm.there n 0 5 := by
  subst hn
  exact there5 ((Below.block hq _ (by simp)).trans (heap_alloc_new c _))
theorem mk_sets {w : World} {b : Nat} {ms : List Int} (ht : w.there b 0 5) (hl : ms.length = 5) : MkB (w.setCells b 0 (u8s ms)) b ms := by
  intro j hj
  have hl' : (u8s ms).length = 5 := by rw [List.length_map]; exact hl
  have := World.rangeAt_setCells_same w b 0 (u8s ms) (by rw [hl']; exact ht) j (.int .u8 (ms.getD j 0)) (by rw [List.getElem?_map, List.getD_eq_getElem?_getD, List.getElem?_eq_getElem (by omega)]; rfl)
  rw [Nat.zero_add] at this
  exact this
theorem MkB.q {w w' : World} {b : Nat} {ms : List Int} (h : MkB w b ms) (q : Q w w') : MkB w' b ms := fun j hj => (q.cell (p := ⟨b, j, none⟩) (lt_of_cell (h j hj))).trans (h j hj)
theorem MkB.seg {w : World} {b : Nat} {ms : List Int} (h : MkB w b ms) (hl : ms.length = 5) : Seg w (some ⟨b, 1, none⟩) (ms.drop 1) := by
  intro _
  refine ⟨b, 1, rfl, fun i hi => ?_⟩
  rw [List.length_drop] at hi
  rw [h (1 + i) (by omega), List.getD_eq_getElem?_getD, List.getD_eq_getElem?_getD, List.getElem?_drop]
set_option maxHeartbeats 8000000 in
theorem protect_any (k i h hd pl : Sv) (kz iz hz hs ps : List Int) (num wd : Int) (w : World) (hk : KI w k i h kz iz hz) (hh : In w hd hs) (hp : In w pl ps) (bh : hd.n ≤ 140737488355328) (bp : pl.n ≤ 140737488355328) :
    Calls Try.prog 20 #[.agg (kcells k i h), .slice hd.a hd.n hd.c, .int .i64 num, .int .i64 wd, .slice pl.a pl.n pl.c] w fun e w' => ∃ x : Sv, e = .returned (.tuple #[.slice x.a x.n x.c, .int .i64 (ptE k.n i.n h.n hd.n num wd pl.n)]) ∧ Q w w' ∧ Row w' x (ptR kz iz hz hs num wd ps) := by
  have HC := hid (fun u => parts_any k i h hd pl num wd u (by omega) (by omega))
  have HPE := hid (show ptR kz iz hz hs num wd ps = if ptE k.n i.n h.n hd.n num wd pl.n = 0 then proL kz iz hz hs num wd.toNat ps else [] from by unfold ptR; rw [hk.k.l, hk.i.l, hk.h.l, hh.l, hp.l])
  have HOK := hid (@ptE_ok k.n i.n h.n hd.n num wd pl.n)
  have HK := hid hk
  have HH := hid hh
  have HPL := hid hp
  clear hk hh hp
  obtain ⟨ka, kn, kc⟩ := k
  obtain ⟨ia, n, ic⟩ := i
  obtain ⟨ha, hn, hc⟩ := h
  obtain ⟨da, dn, dc⟩ := hd
  obtain ⟨pa, pn, pc⟩ := pl
  dsimp only at *
  generalize ptE kn n hn dn num wd pn = E at *
  rw [HPE.out]
  by_cases hE : E = 0
  · subst hE
    rw [if_pos rfl]
    obtain ⟨rfl, rfl, rfl, d0, d1, p1, pw, w1, w4, n0, n1⟩ := HOK.out rfl
    obtain ⟨wn, rfl⟩ : ∃ m : Nat, wd = (m : Int) := ⟨wd.toNat, by omega⟩
    rw [Int.toNat_natCast]
    clear HOK HPE
    go_enter Try.func20, Try.ntmps20
    go_wp2_with (go_at_call 37; refine (HC.out _).mono ?_; rintro e w2 ⟨rfl, q2⟩)
    have q1 : Q w w2 := Q.trans ((Q.refl w).alloc _) q2
    have b2 : KB w2 w.heap.size 30 ⟨ka, 16, kc⟩ ⟨ia, 12, ic⟩ ⟨ha, 16, hc⟩ := KB.q (show KB _ w.heap.size 30 ⟨ka, 16, kc⟩ ⟨ia, 12, ic⟩ ⟨ha, 16, hc⟩ from heap_alloc_new w _) q2
    have Q2 := hid q1
    have B2 := hid b2
    have BX := hid (Nat.le_refl w.heap.size)
    clear q1 q2 b2 HC
    generalize hbx : w.heap.size = bx at *
    have HBX := hid hbx
    clear hbx
    go_wp2_with fail
    refine (last_any num wn w2 (by omega) (by omega) (by omega)).mono ?_
    rintro e w3 ⟨g3, rfl, q3, r3, l3⟩
    have Q3 := hid (Q2.out.trans q3)
    have B3 := hid (B2.out.q q3)
    have R3 := hid (row_in r3 (be_bound _ _))
    clear q3 r3 l3 B2 Q2
    go_wp2_with fail
    refine (concat_two w3 ⟨da, dn, dc⟩ ⟨some ⟨g3, 0, none⟩, wn, wn⟩ hs (be wn num) (HH.out.q Q3.out) R3.out (by rw [HH.out.l, be_length]; show dn + wn ≤ _; omega)).mono ?_
    rintro e w4 ⟨⟨ba, bn, bc⟩, rfl, q4, r4, n4⟩
    have Q4 := hid (Q3.out.trans q4)
    have B4 := hid (B3.out.q q4)
    have R4 := hid r4
    have LB := hid (show bn = dn + wn from by have h1 := Row.len r4; rw [List.length_append, HH.out.l, be_length] at h1; exact h1.symm)
    clear q4 r4 n4 B3 Q3 R3
    go_wp2
    have c0 := B4.out.c0
    have c1 := B4.out.c1
    have c2 := B4.out.c2
    dsimp only at c0 c1 c2
    have NN := hid (fun u (hu : Q w4 u) => nonce_any ⟨ka, 16, kc⟩ ⟨ia, 12, ic⟩ ⟨ha, 16, hc⟩ iz num u ((HK.out.i.q Q4.out).q hu) rfl (by omega) (by omega))
    have IB := hid (show In w4 ⟨ba, bn, bc⟩ (bndL hs num wn) from row_in R4.out (By.app HH.out.z (be_bound _ _)))
    have LI := hid (show iz.length = 12 from HK.out.i.l)
    have CE := hid (show chkE 16 12 bn pn = 0 from by unfold chkE; rw [if_neg (by omega), if_neg (by have := LB.out; omega)])
    have SL := hid (fun (y : Sv) u (hu : Q w4 u) (hy : In u y (nonL iz num)) => seal_any ⟨ka, 16, kc⟩ y ⟨ba, bn, bc⟩ ⟨pa, pn, pc⟩ kz (nonL iz num) (bndL hs num wn) ps u ((HK.out.k.q Q4.out).q hu) hy (IB.out.q hu) ((HPL.out.q Q4.out).q hu) (by show pn ≤ _; omega))
    have s1 : Q w4 w4 := Q.refl _
    go_region_held3 (fun u => Q w4 u ∧ u.cell? ⟨bx, 0, none⟩ = some (.slice ka 16 kc) ∧ u.cell? ⟨bx, 1, none⟩ = some (.slice ia 12 ic) ∧ u.cell? ⟨bx, 2, none⟩ = some (.slice ha 16 hc)) (repeat (first | (with_reducible assumption) | (with_reducible apply Q.drew) | (with_reducible apply Q.drewN) | (with_reducible refine dcel ?_) | (with_reducible refine dcelN ?_) | (with_reducible apply And.intro)))
      (first
        | (go_at_call 40; refine (NN.out _ (by repeat (first | (with_reducible assumption) | (with_reducible exact Q.refl _) | (with_reducible apply Q.drew) | (with_reducible apply Q.drewN) | (with_reducible apply Q.alloc)))).mono ?_; rintro e w5 ⟨⟨na, nn, nc⟩, rfl, q5, r5, n5⟩; have j5 : Q w4 w5 := Q.trans (by repeat (first | (with_reducible assumption) | (with_reducible exact Q.refl _) | (with_reducible apply Q.drew) | (with_reducible apply Q.drewN) | (with_reducible apply Q.alloc))) q5; have d0 := (B4.out.q j5).c0; have d1 := (B4.out.q j5).c1; have d2 := (B4.out.q j5).c2; dsimp only at d0 d1 d2; have R5 := hid (row_in r5 (nonL_lt HK.out.i.z _)); have L5 := hid (show nn = 12 from by have h1 := Row.len r5; rw [nonL_len, LI.out] at h1; exact h1.symm); clear r5 n5)
        | (go_at_call 39; refine (SL.out ⟨na, nn, nc⟩ _ (by repeat (first | (with_reducible assumption) | (with_reducible exact Q.refl _) | (with_reducible apply Q.drew) | (with_reducible apply Q.drewN) | (with_reducible apply Q.alloc))) (R5.out.q (by repeat (first | (with_reducible assumption) | (with_reducible exact Q.refl _) | (with_reducible apply Q.drew) | (with_reducible apply Q.drewN) | (with_reducible apply Q.alloc))))).mono ?_; rintro e w6 ⟨⟨sa, sn, sc⟩, rfl, q6, r6, n6⟩; have j6 : Q w4 w6 := Q.trans (by repeat (first | (with_reducible assumption) | (with_reducible exact Q.refl _) | (with_reducible apply Q.drew) | (with_reducible apply Q.drewN) | (with_reducible apply Q.alloc))) q6; have e0 := (B4.out.q j6).c0; have e1 := (B4.out.q j6).c1; have e2 := (B4.out.q j6).c2; dsimp only at e0 e1 e2))
    obtain rfl := L5.out
    replace r6 : Row w6 ⟨sa, sn, sc⟩ (sealL kz (nonL iz num) (bndL hs num wn) ps) := by
      have h6 := r6
      rw [if_pos CE.out] at h6
      exact h6
    have Q6 := hid (Q4.out.trans j6)
    have B6 := hid (B4.out.q j6)
    have I6 := hid (IB.out.q j6)
    have R6 := hid r6
    have LS := hid (show sn = pn + 16 from by have h1 := Row.len r6; rw [sealL_len, HPL.out.l] at h1; exact h1.symm)
    clear r6 n6 j6 e0 e1 e2 j5 d0 d1 d2 q5 q6 s1 SL NN c0 c1 c2 R5 L5 IB R4 B4 Q4
    go_wp2_with fail
    refine (concat_two w6 ⟨ba, bn, bc⟩ ⟨sa, sn, sc⟩ (bndL hs num wn) (sealL kz (nonL iz num) (bndL hs num wn) ps) I6.out (row_in R6.out (sealL_lt HPL.out.z)) (by rw [I6.out.l, Row.len R6.out]; have := LB.out; have := LS.out; dsimp only; omega)).mono ?_
    rintro e w7 ⟨⟨xa, xn, xc⟩, rfl, q7, r7, n7⟩
    have Q7 := hid (Q6.out.trans q7)
    have B7 := hid (B6.out.q q7)
    have R7 := hid (show Row w7 ⟨xa, xn, xc⟩ (plnL kz iz hs num wn ps) from r7)
    have LX := hid (show xn = dn + wn + (pn + 16) from by have h1 := Row.len R7.out; rw [plnL_len, HPL.out.l, HH.out.l] at h1; exact h1.symm)
    have N7 := hid (n7.mono Q6.out.size)
    clear q7 r7 n7 B6 Q6 R6 I6
    obtain ⟨xg, xo, he⟩ := row_addr R7.out (by show 0 < xn; have := LX.out; omega)
    dsimp only at he
    subst he
    have XC := hid (show xn ≤ xc from Row.cap R7.out)
    have HPZ := hid (plnL_lt (ks := kz) (iv := iz) HH.out.z HPL.out.z num wn)
    have HPR := hid (show proL kz iz hz hs num wn ps = mskA hz (plnL kz iz hs num wn ps) dn wn from by unfold proL; rw [HH.out.l])
    have HO0 := hid (show 0 < dn ∧ dn + wn ≤ xn ∧ dn + 20 ≤ xn from by have := LX.out; omega)
    generalize plnL kz iz hs num wn ps = out at *
    go_wp2
    obtain ⟨a4, ha4, KA⟩ : ∃ r : Nat, (dn : Int) + 4 = (r : Int) ∧ Hid (r = dn + 4) := ⟨dn + 4, by omega, hid rfl⟩
    have ha4x : (a4 : Int) ≤ (xn : Int) := by have := KA.out; have := HO0.out; omega
    have ha4n : a4 ≤ xn := by omega
    have ha4c : a4 ≤ xc := by have := XC.out; omega
    have hxc : (xn : Int) ≤ (xc : Int) := by have := XC.out; omega
    have hcne : ¬ xc = a4 := by have := KA.out; have := HO0.out; have := XC.out; omega
    have ha40 : (0 : Int) ≤ (a4 : Int) := by omega
    have hwr : IntKind.i64.wrap (a4 : Int) = (a4 : Int) := by rw [wrap_i64]; have := KA.out; omega
    have hsl := sl_from xg xo xn xc a4 ha4n (by have := KA.out; have := HO0.out; have := XC.out; omega)
    have IP := hid (show In w7 ⟨some ⟨xg, xo, none⟩, xn, xc⟩ out from row_in R7.out HPZ.out)
    have HMM := hid (show mskA hz out dn wn = ovA (out.set 0 (fstM (out.getD 0 0) ((mskL hz (out.drop (dn + 4))).getD 0 0))) dn ((mskL hz (out.drop (dn + 4))).drop 1) wn from rfl)
    have HM := hid (fun u (hu : Q w7 u) => show Calls Try.prog 41 #[.slice ha 16 hc, .slice (some ⟨xg, xo + a4, none⟩) (xn - a4) (xc - a4)] u fun e w' => e = .returned (.tuple #[arr (mskL hz (out.drop (dn + 4))), .int .i64 0]) ∧ Q u w' from by
      have hl : out.length = xn := IP.out.l
      have h1 := pmask_any ⟨ha, 16, hc⟩ ⟨some ⟨xg, xo + a4, none⟩, xn - a4, xc - a4⟩ hz (out.drop a4) u ((HK.out.h.q Q7.out).q hu) (In.drop (IP.out.q hu) ha4n) (by show 16 ≤ _; omega) (by show xn - a4 ≤ _; have := LX.out; omega) (by show xn - a4 ≤ xc - a4; omega)
      have he : mskE 16 (xn - a4) = 0 := by unfold mskE; rw [if_neg (by omega), if_neg (by have := KA.out; have := HO0.out; omega)]
      refine h1.mono ?_
      rintro e w' ⟨rfl, q⟩
      refine ⟨?_, q⟩
      show Ending.returned (.tuple #[arr (mskR hz (out.drop a4)), .int .i64 (mskE 16 (xn - a4))]) = _
      rw [he, show mskR hz (out.drop a4) = mskL hz (out.drop (dn + 4)) from by
        unfold mskR; rw [if_pos (by rw [show hz.length = 16 from HK.out.h.l, List.length_drop, hl]; exact he), KA.out]])
    have HML := hid (mskL_len hz (out.drop (dn + 4)))
    have HMZ := hid (mskL_lt hz (out.drop (dn + 4)))
    generalize mskL hz (out.drop (dn + 4)) = ms at *
    have c2 := B7.out.c2
    dsimp only at c2
    have hbx7 : bx < w7.heap.size := lt_of_block B7.out
    have hlen : (u8s ms).length = 5 := by rw [List.length_map]; exact HML.out
    have hi85 : (Try.prog.info? 85).map (·.size) = some (u8s ms).length := by rw [hlen]; kernel_rfl
    have hone : ∀ v ∈ u8s ms, v.oneCell' = true := ints_oneCell _ _
    have s1 : Q w7 w7 := Q.refl _
    go_cut [18] from 52 (fun s18 wc => ∃ mb, s18 = .pointer (some ⟨mb, 0, none⟩) ∧ w7.heap.size ≤ mb ∧ Q w7 wc ∧ MkB wc mb ms)
    case first =>
      go_region_held3 (fun u => Q w7 u ∧ u.cell? ⟨bx, 2, none⟩ = some (.slice ha 16 hc)) (repeat (first | (with_reducible assumption) | (with_reducible apply Q.drew) | (with_reducible apply Q.drewN) | (with_reducible apply Q.alloc) | (with_reducible refine dcel ?_) | (with_reducible refine dcelN ?_) | (with_reducible refine acel ?_) | (with_reducible refine scels ?_ (by first | omega | (simp; omega))) | (with_reducible refine qsets _ _ ?_ (by first | omega | (simp; omega))) | (with_reducible apply And.intro)))
        (first
          | (go_at_call 41; refine (HM.out _ (by repeat (first | (with_reducible assumption) | (with_reducible exact Q.refl _) | (with_reducible apply Q.drew) | (with_reducible apply Q.drewN) | (with_reducible apply Q.alloc)))).mono ?_; rintro e wm ⟨rfl, qm⟩; have jm : Q w7 wm := Q.trans (by repeat (first | (with_reducible assumption) | (with_reducible exact Q.refl _) | (with_reducible apply Q.drew) | (with_reducible apply Q.drewN) | (with_reducible apply Q.alloc))) qm; have zm := Q.size jm; have e2 := (B7.out.q jm).c2; dsimp only at e2; have htB : (wm.alloc (.cells #[.int .u8 0, .int .u8 0, .int .u8 0, .int .u8 0, .int .u8 0] 85)).there wm.heap.size 0 5 := there5 (heap_alloc_new wm _); have hscB := run_sc htB HML.out; (first | (refine absorb (A := Q (w7.alloc (.cells #[.int .u8 0, .int .u8 0, .int .u8 0, .int .u8 0, .int .u8 0] 85)) wm) ?_ ?_; (focus ((repeat (first | (with_reducible exact Q.refl _) | (with_reducible apply Q.drew) | (with_reducible apply Q.drewN) | (with_reducible refine Q.trans ?_ qm))); done)); intro hqA; have htA : wm.there w7.heap.size 0 5 := there5_at w7 w7.heap.size rfl hqA; have hscA := run_sc htA HML.out; clear hqA) | (refine absorb (A := Q (w7.drew.alloc (.cells #[.int .u8 0, .int .u8 0, .int .u8 0, .int .u8 0, .int .u8 0] 85)) wm) ?_ ?_; (focus ((repeat (first | (with_reducible exact Q.refl _) | (with_reducible apply Q.drew) | (with_reducible apply Q.drewN) | (with_reducible refine Q.trans ?_ qm))); done)); intro hqA; have htA : wm.there w7.heap.size 0 5 := there5_at w7.drew w7.heap.size rfl hqA; have hscA := run_sc htA HML.out; clear hqA) | skip)))
      all_goals (
        go_wp2_with fail
        go_meet
        case rel =>
          first
            | exact ⟨_, rfl, Nat.le_refl _, qsets _ _ jm (Nat.le_refl _), mk_sets htA HML.out⟩
            | exact ⟨_, rfl, zm, qsets _ _ (jm.alloc _) zm, mk_sets htB HML.out⟩)
    case rest =>
      obtain ⟨mb, rfl, hmb, qc, mk⟩ := hcut
      generalize hwz : wc = wz at *
      clear hwz
      have QC := hid qc
      have MK := hid mk
      have RC := hid (R7.out.q qc)
      have NM := hid (show xg < w7.heap.size from R7.out.lt xg rfl)
      have hl : out.length = xn := IP.out.l
      have HF := hid (getD_lt HPZ.out 0)
      have HM0 := hid (getD_lt HMZ.out 0)
      obtain ⟨hx1, hx2⟩ := row_cellc RC.out (g := xg) (off := xo) rfl (j := 0) (x := out.getD 0 0) (by rw [List.getD_eq_getElem?_getD, List.getElem?_eq_getElem (by have := HO0.out; omega)]; rfl)
      have hm0 := mk 0 (by omega)
      rw [Nat.add_zero] at hx1 hx2
      have HS9 := hid (show ∀ u, Row u ⟨some ⟨xg, xo, none⟩, xn, xc⟩ out → Row (u.setCell ⟨xg, xo, none⟩ (.int .u8 (fstM (out.getD 0 0) (ms.getD 0 0)))) ⟨some ⟨xg, xo, none⟩, xn, xc⟩ (out.set 0 (fstM (out.getD 0 0) (ms.getD 0 0))) from fun u hu => by
        have := row_setc hu (g := xg) (off := xo) (j := 0) rfl (by show 0 < xn; have := HO0.out; omega) (fstM (out.getD 0 0) (ms.getD 0 0))
        rw [Nat.add_zero] at this
        exact this)
      have HFM := hid (show fstM (out.getD 0 0) (ms.getD 0 0) = bits .xor .u8 (out.getD 0 0) (bits .and .u8 (ms.getD 0 0) (rch (out.getD 0 0))) from rfl)
      clear qc mk HM s1 hlen hi85 hone c2 hsl hcne ha40 hwr ha4 ha4x ha4n ha4c hxc
      generalize fstM (out.getD 0 0) (ms.getD 0 0) = fm at *
      generalize out.getD 0 0 = f0 at *
      generalize ms.getD 0 0 = m0 at *
      have hx0 : (0 : Int) < (xn : Int) := by have := HO0.out; omega
      have hmk := fun u => masked_any f0 u HF.out.1 HF.out.2
      have HMK := hid hmk
      clear hmk
      go_upto_region 9 with fail
      go_cut [] from 62 (fun w9 => Keep (fun i => i = xg) wz w9 ∧ Row w9 ⟨some ⟨xg, xo, none⟩, xn, xc⟩ (out.set 0 fm))
      case first =>
        have hx0n : 0 < xn := by omega
        go_region_with (go_at_call 42; refine (HMK.out _).mono ?_; rintro e w' ⟨rfl, rfl⟩)
        all_goals (
          go_wp2_with fail
          go_meet
          case rel =>
            rw [← HFM.out]
            first
              | exact ⟨((Keep.refl _ wz).setCell _ _ _ (.inl rfl)).drew, (HS9.out wz RC.out).q ((Q.refl _).drew)⟩
              | exact ⟨(Keep.refl _ wz).drew.setCell _ _ _ (.inl rfl), HS9.out wz.drew (RC.out.q ((Q.refl _).drew))⟩
              | exact ⟨((Keep.refl _ wz).setCell _ _ _ (.inl rfl)), HS9.out wz RC.out⟩)
      case rest =>
        obtain ⟨k9, r9⟩ := hcut
        have K9 := hid k9
        have R9 := hid r9
        have SM := hid ((MK.out.keep k9 (by have := NM.out; omega)).seg HML.out)
        clear k9 r9 hx1 hx2 hm0
        obtain ⟨dw, hdw, KW⟩ : ∃ r : Nat, (dn : Int) + (wn : Int) = (r : Int) ∧ Hid (r = dn + wn) := ⟨dn + wn, by omega, hid rfl⟩
        have hwr : IntKind.i64.wrap (dw : Int) = (dw : Int) := by rw [wrap_i64]; have := KW.out; omega
        have hdc : (dw : Int) ≤ (xc : Int) := by have := KW.out; have := HO0.out; have := XC.out; omega
        have hdd : (dn : Int) ≤ (dw : Int) := by have := KW.out; omega
        have hcne : ¬ xc = dn := by have := HO0.out; have := XC.out; omega
        have OV := hid (fun u (hr : Row u ⟨some ⟨xg, xo, none⟩, xn, xc⟩ (out.set 0 fm)) (hs : Seg u (some ⟨mb, 1, none⟩) (ms.drop 1)) => over_any ⟨some ⟨xg, xo, none⟩, xn, xc⟩ ⟨some ⟨mb, 1, none⟩, 4, 4⟩ xg xo dn (dw - dn) (xc - dn) (out.set 0 fm) (ms.drop 1) u rfl hr (by show dn + (dw - dn) ≤ xn; have := KW.out; have := HO0.out; omega) hs (by rw [List.length_drop, HML.out]) (by show dw - dn ≤ 4; have := KW.out; omega) (blk_ne (by have := NM.out; omega)) (by have := KW.out; omega))
        have k0 : Keep (fun i => i = xg) wc wc := Keep.refl _ _
        go_wp2
        go_region_held3 (fun u => Keep (fun i => i = xg) wc u) (repeat (first | (with_reducible assumption) | (with_reducible apply Keep.drew) | (with_reducible apply Keep.drewN)))
          (first | (go_at_call 43; refine (OV.out _ (R9.out.q (by repeat (first | (with_reducible assumption) | (with_reducible exact Q.refl _) | (with_reducible apply Q.drew) | (with_reducible apply Q.drewN) | (with_reducible apply Q.alloc)))) (SM.out.q (by repeat (first | (with_reducible assumption) | (with_reducible exact Q.refl _) | (with_reducible apply Q.drew) | (with_reducible apply Q.drewN) | (with_reducible apply Q.alloc))))).mono ?_; rintro e wf ⟨rfl, kf, rf⟩; have kg : Keep (fun i => i = xg) wc wf := by first | exact kf | exact Keep.ofDrew kf | exact Keep.ofDrewN kf))
        all_goals (
          have hq : Q w wf := by
            have kz := K9.out.trans kg
            have q0 := Q7.out.trans QC.out
            exact kz.below q0 q0.size (fun i e => by have := N7.out xg rfl; omega)
          have RF := hid (show Row wf ⟨some ⟨xg, xo, none⟩, xn, xc⟩ (proL kz iz hz hs num wn ps) from by
            rw [HPR.out, HMM.out, show wn = dw - dn by have := KW.out; omega]
            exact rf)
          have QF := hid hq
          clear hq rf kf kg k0
          go_wp2
          go_ret2
          exact ⟨⟨some ⟨xg, xo, none⟩, xn, xc⟩, rfl, QF.out, RF.out⟩)
  · rw [if_neg hE]
    have hne : (E != 0) = true := by simp [hE]
    go_enter Try.func20, Try.ntmps20
    go_wp2_with (go_at_call 37; refine (HC.out _).mono ?_; rintro e w2 ⟨rfl, q2⟩)
    have Q2 := hid (show Q w w2 from Q.trans ((Q.refl w).alloc _) q2)
    clear q2
    go_wp2
    go_ret2
    exact ⟨nilS, rfl, Q2.out, sub_nil _ _ _⟩
end Go.Proofs.Ytihmlfpfpadfpaa
