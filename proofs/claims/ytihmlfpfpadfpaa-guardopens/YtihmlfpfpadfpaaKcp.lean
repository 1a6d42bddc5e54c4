/-
  What the law's own copied, of and sameKeys do: contracts that the statements' walks use.
-/
import Derived.Test.YtihmlfpfpadfpaaKys
import Derived.Deep.RegionHeld3
namespace Go.Proofs.Ytihmlfpfpadfpaa
open Go.RowKit
set_option linter.unusedVariables false
set_option maxRecDepth 20000

theorem KB.sets {w : World} {g t : Nat} {k0 i0 h0 : Sv} (x : KB w g t k0 i0 h0) (k i h : Sv) : KB (((w.setCell ⟨g, 0, none⟩ (.slice k.a k.n k.c)).setCell ⟨g, 1, none⟩ (.slice i.a i.n i.c)).setCell ⟨g, 2, none⟩ (.slice h.a h.n h.c)) g t k i h := by
  have h1 : KB (w.setCell ⟨g, 0, none⟩ (.slice k.a k.n k.c)) g t k i0 h0 := by
    have := heap_setCell_same w g 0 _ t (.slice k.a k.n k.c) x
    simpa [KB] using this
  have h2 : KB ((w.setCell ⟨g, 0, none⟩ (.slice k.a k.n k.c)).setCell ⟨g, 1, none⟩ (.slice i.a i.n i.c)) g t k i h0 := by
    have := heap_setCell_same _ g 1 _ t (.slice i.a i.n i.c) h1
    simpa [KB] using this
  have := heap_setCell_same _ g 2 _ t (.slice h.a h.n h.c) h2
  simpa [KB] using this
theorem kcel {W : World} {p : Addr} {v : Value} (h : W.cell? p = some v) : W.drew.cell? p = some v := h
theorem kcelN {W : World} {p : Addr} {v : Value} {n : Nat} (h : W.cell? p = some v) : (W.drewN n).cell? p = some v := h
theorem kset {w u : World} {b j : Nat} {v : Value} (h : Q w u) (hb : w.heap.size ≤ b) : Q w (u.setCell ⟨b, j, none⟩ v) := by
  have k : Keep (fun i => i = b) u (u.setCell ⟨b, j, none⟩ v) := (Keep.refl (fun i => i = b) u).setCell _ _ _ (.inl rfl)
  exact k.below h h.size (fun i e => by omega)
theorem kscel {u : World} {b0 i b j : Nat} {v y : Value} (h : u.cell? ⟨b0, i, none⟩ = some v) (hne : b0 ≠ b) : (u.setCell ⟨b, j, none⟩ y).cell? ⟨b0, i, none⟩ = some v := by
  have k : Keep (fun i => i = b) u (u.setCell ⟨b, j, none⟩ y) := (Keep.refl (fun i => i = b) u).setCell _ _ _ (.inl rfl)
  exact k.cell h hne
theorem in_keepb {g b : Nat} {u v : World} {o n c : Nat} {zs : List Int} (h : In u ⟨some ⟨b, o, none⟩, n, c⟩ zs) (k : Keep (fun i => i = g) u v) (hne : b ≠ g) : In v ⟨some ⟨b, o, none⟩, n, c⟩ zs :=
  ⟨h.s.keep k (fun i e f => by simp [blk] at e; omega), h.l, h.z⟩
theorem ret_kc30 {fn : Func} {p : Tmp} {a : Act} {w : World} {R : Ending → World → Prop} (hr : fn.results = #[.cell p 30]) (hd : a.defers = [])
    (g : Nat) (k i h : Sv) (hp : a.tmps.getD p undef = .pointer (some ⟨g, 0, none⟩)) (hb : KB w g 30 k i h) (hR : R (.returned (.agg (kcells k i h))) w) : bodyPost Try.prog fn R .ret a w :=
  ⟨hd, _, results_cell_row hr _ w g 30 _ (0, 0) _ hp hb Try.underlying30 rfl (by kernel_rfl), hR⟩
theorem ret_kc33 {fn : Func} {p : Tmp} {a : Act} {w : World} {R : Ending → World → Prop} (hr : fn.results = #[.cell p 33]) (hd : a.defers = [])
    (g : Nat) (k i h : Sv) (hp : a.tmps.getD p undef = .pointer (some ⟨g, 0, none⟩)) (hb : KB w g 33 k i h) (hR : R (.returned (.agg (kcells k i h))) w) : bodyPost Try.prog fn R .ret a w :=
  ⟨hd, _, results_cell_row hr _ w g 33 _ (0, 0) _ hp hb Try.underlying33 rfl (by kernel_rfl), hR⟩
set_option maxHeartbeats 4000000 in
theorem of_any (k i h : Sv) (w : World) : Calls Try.prog 22 #[.agg (kcells k i h)] w fun e w' => e = .returned (.agg (kcells k i h)) ∧ Q w w' := by
  go_enter Try.func22, Try.ntmps22
  go_wp2_with (refine wpList_store_row rfl 33 _ _ rfl (w.heap.size + 1) (kcells k i h) rfl rfl 33 _ (heap_alloc2_new w _ _) (kinfo33 _ _ _) rfl (kc_one _ _ _) ?_; refine Hid.out ?_)
  refine hid ?_
  go_wp2
  refine ret_kc33 rfl rfl (w.heap.size + 1) k i h rfl (setRow_heap _ _ _ _ 33 _ (heap_alloc2_new w _ _)) ⟨rfl, ?_⟩
  exact ((((Keep.refl (fun i => i = w.heap.size + 1) w).alloc _).alloc _).setRow _ _ (.inl rfl)).below (Q.refl _) (Nat.le_refl _) (fun i e => by omega)
theorem same_in {w : World} {x y : Sv} {zs : List Int} (hx : In w x zs) (hy : In w y zs) (hb : x.n ≤ 140737488355328) :
    Calls Try.prog 17 #[.slice x.a x.n x.c, .slice y.a y.n y.c] w fun e w' => e = .returned (.bool true) ∧ Q w w' := by
  refine (same_any x.a y.a x.n y.n x.c y.c zs zs w hx.l hy.l (by omega) (by have := hx.l; have := hy.l; omega) hx.s hy.s).mono ?_
  rintro e w' ⟨rfl, h⟩
  exact ⟨by simp, h⟩
set_option maxHeartbeats 4000000 in
theorem samek_any (k i h k' i' h' : Sv) (kz iz hz : List Int) (w : World) (x : KI w k i h kz iz hz) (y : KI w k' i' h' kz iz hz) (bk : k.n ≤ 140737488355328) (bi : i.n ≤ 140737488355328) (bh : h.n ≤ 140737488355328) :
    Calls Try.prog 18 #[.agg (kcells k i h), .agg (kcells k' i' h')] w fun e w' => e = .returned (.bool true) ∧ Q w w' := by
  have HX := hid x
  have HY := hid y
  clear x y
  have S0 := hid (fun u (hu : Q w u) => same_in (HX.out.k.q hu) (HY.out.k.q hu) bk)
  have S1 := hid (fun u (hu : Q w u) => same_in (HX.out.i.q hu) (HY.out.i.q hu) bi)
  have S2 := hid (fun u (hu : Q w u) => same_in (HX.out.h.q hu) (HY.out.h.q hu) bh)
  go_enter Try.func18, Try.ntmps18
  go_wp2_with fail
  generalize hw1 : World.alloc (World.alloc w _) _ = w1
  have q1 : Q w w1 := by rw [← hw1]; exact ((Q.refl w).alloc _).alloc _
  have b1 : KB w1 w.heap.size 30 k i h := by rw [← hw1]; exact heap_alloc2_old w _ _
  have b2 : KB w1 (w.heap.size + 1) 33 k' i' h' := by rw [← hw1]; exact heap_alloc2_new w _ _
  clear hw1
  generalize w.heap.size = bx at *
  have Q1 := hid q1
  have B1 := hid b1
  have B2 := hid b2
  have c0 := b1.c0
  have c1 := b1.c1
  have c2 := b1.c2
  have d0 := b2.c0
  have d1 := b2.c1
  have d2 := b2.c2
  clear q1 b1 b2
  refine (S0.out w1 Q1.out).mono ?_
  rintro e w2 ⟨rfl, q2⟩
  have Q2 := hid (Q1.out.trans q2)
  have e0 := (B1.out.q q2).c0
  have e1 := (B1.out.q q2).c1
  have e2 := (B1.out.q q2).c2
  have f0 := (B2.out.q q2).c0
  have f1 := (B2.out.q q2).c1
  have f2 := (B2.out.q q2).c2
  have B1' := hid (B1.out.q q2)
  have B2' := hid (B2.out.q q2)
  clear q2 c0 c1 c2 d0 d1 d2
  go_wp2_with fail
  refine (S1.out w2 Q2.out).mono ?_
  rintro e w3 ⟨rfl, q3⟩
  have Q3 := hid (Q2.out.trans q3)
  have g2 := (B1'.out.q q3).c2
  have h2 := (B2'.out.q q3).c2
  clear q3 e0 e1 e2 f0 f1 f2
  go_wp2_with fail
  refine (S2.out w3 Q3.out).mono ?_
  rintro e w4 ⟨rfl, q4⟩
  have Q4 := hid (Q3.out.trans q4)
  clear q4 g2 h2
  go_wp2
  go_ret
  exact ⟨by first | rfl | simp, Q4.out⟩

set_option maxHeartbeats 8000000 in
theorem copied_any (k i h : Sv) (kz iz hz : List Int) (w : World) (hk : KI w k i h kz iz hz) (bk : k.n ≤ 140737488355328) (bi : i.n ≤ 140737488355328) (bh : h.n ≤ 140737488355328) :
    Calls Try.prog 19 #[.agg (kcells k i h)] w fun e w' => ∃ gk gi gh, e = .returned (.agg (kcells ⟨some ⟨gk, 0, none⟩, k.n, k.n⟩ ⟨some ⟨gi, 0, none⟩, i.n, i.n⟩ ⟨some ⟨gh, 0, none⟩, h.n, h.n⟩)) ∧ Q w w' ∧ KI w' ⟨some ⟨gk, 0, none⟩, k.n, k.n⟩ ⟨some ⟨gi, 0, none⟩, i.n, i.n⟩ ⟨some ⟨gh, 0, none⟩, h.n, h.n⟩ kz iz hz := by
  have HB := hid hk
  clear hk
  obtain ⟨ka, kn, kc⟩ := k
  obtain ⟨ia, n, ic⟩ := i
  obtain ⟨ha, hn, hc⟩ := h
  dsimp only at *
  have Lk := hid (show kz.length = kn from HB.out.k.l)
  have Li := hid (show iz.length = n from HB.out.i.l)
  have Lh := hid (show hz.length = hn from HB.out.h.l)
  have Zk := hid HB.out.k.z
  have Zi := hid HB.out.i.z
  have Zh := hid HB.out.h.z
  go_enter Try.func19, Try.ntmps19
  go_wp2_with fail
  generalize hw1 : World.alloc (World.alloc w _) _ = w1
  have q1 : Q w w1 := by rw [← hw1]; exact ((Q.refl w).alloc _).alloc _
  have hh1 : KB w1 w.heap.size 30 ⟨ka, kn, kc⟩ ⟨ia, n, ic⟩ ⟨ha, hn, hc⟩ := by rw [← hw1]; exact heap_alloc2_old w _ _
  have hh2 : w1.heap[w.heap.size + 1]? = some (.cells (kcells nilS nilS nilS) 30 (0, 0)) := by rw [← hw1]; exact heap_alloc2_new w _ _
  have hb2 := lt_of_block hh2
  have cw10 := hh1.c0
  have cw11 := hh1.c1
  have cw12 := hh1.c2
  dsimp only at cw10 cw11 cw12
  have Q1 := hid q1
  clear hw1 hh1
  generalize hbx : w.heap.size = bx at *
  have HBX := hid hbx
  clear hbx
  have s1 : Q w w1 := q1
  have hbx1 : w.heap.size ≤ bx + 1 := by have := HBX.out; omega
  have hbn : bx ≠ bx + 1 := by omega
  have Ck := hid (fun u (hu : Q w u) => rcopy_any ka kn kc kz u Lk.out (by omega) (HB.out.k.s.q hu))
  have Ci := hid (fun u (hu : Q w u) => rcopy_any ia n ic iz u Li.out (by omega) (HB.out.i.s.q hu))
  have Ch := hid (fun u (hu : Q w u) => rcopy_any ha hn hc hz u Lh.out (by omega) (HB.out.h.s.q hu))
  go_wp2
  go_region_held3 (fun u => Q w u ∧ u.cell? ⟨bx, 0, none⟩ = some (.slice ka kn kc) ∧ u.cell? ⟨bx, 1, none⟩ = some (.slice ia n ic) ∧ u.cell? ⟨bx, 2, none⟩ = some (.slice ha hn hc)) (repeat (first | (with_reducible assumption) | (with_reducible refine kset ?_ hbx1) | (with_reducible refine kscel ?_ hbn) | (with_reducible refine kcel ?_) | (with_reducible refine kcelN ?_) | (with_reducible apply Q.drew) | (with_reducible apply Q.drewN) | (with_reducible apply And.intro)))
    (first
      | (go_at_call 10; have t_ := Yi.out; clear t_; refine (Ch.out _ (by repeat (first | (with_reducible assumption) | (with_reducible exact Q.refl _) | (with_reducible apply Q.drew) | (with_reducible apply Q.drewN)))).mono ?_; rintro e wh ⟨gh, rfl, qwh, oh, lh⟩; have jh : Q w wh := Q.trans (by repeat (first | (with_reducible assumption) | (with_reducible exact Q.refl _) | (with_reducible apply Q.drew) | (with_reducible apply Q.drewN))) qwh; have cwh0 : wh.cell? ⟨bx, 0, none⟩ = some (.slice ka kn kc) := (qwh.cell (p := ⟨bx, 0, none⟩) (lt_of_cell cwi0)).trans cwi0; have cwh1 : wh.cell? ⟨bx, 1, none⟩ = some (.slice ia n ic) := (qwh.cell (p := ⟨bx, 1, none⟩) (lt_of_cell cwi1)).trans cwi1; have cwh2 : wh.cell? ⟨bx, 2, none⟩ = some (.slice ha hn hc) := (qwh.cell (p := ⟨bx, 2, none⟩) (lt_of_cell cwi2)).trans cwi2; have mh : bx + 1 < gh := Nat.lt_of_lt_of_le hb2 (Nat.le_trans (Q.size (show Q w1 wi from (by repeat (first | (with_reducible exact Q.refl _) | (with_reducible apply Q.drew) | (with_reducible apply Q.drewN) | (with_reducible refine Q.trans ?_ qwi) | (with_reducible refine Q.trans ?_ qwk))))) lh); have Yh := hid (show In wh ⟨some ⟨gh, 0, none⟩, hn, hn⟩ hz from ⟨oh.seg, Lh.out, Zh.out⟩); clear oh lh; have hf : wh.heap[bx + 1]? = some (.cells (kcells nilS nilS nilS) 30 (0, 0)) := (Below.block (show Q w1 wh from (by repeat (first | (with_reducible exact Q.refl _) | (with_reducible apply Q.drew) | (with_reducible apply Q.drewN) | (with_reducible refine Q.trans ?_ qwh) | (with_reducible refine Q.trans ?_ qwi) | (with_reducible refine Q.trans ?_ qwk)))) _ hb2).trans hh2; have x0 : wh.cell? ⟨bx + 1, 0, none⟩ = some (.slice none 0 0) := (by rw [cell_of_row wh _ 0 _ 30 (0, 0) hf]; rfl); have y0 : wh.frozen? ⟨bx + 1, 0, none⟩ = false := frozen_of_row wh _ 0 _ 30 hf; have x1 : wh.cell? ⟨bx + 1, 1, none⟩ = some (.slice none 0 0) := (by rw [cell_of_row wh _ 1 _ 30 (0, 0) hf]; rfl); have y1 : wh.frozen? ⟨bx + 1, 1, none⟩ = false := frozen_of_row wh _ 1 _ 30 hf; have x2 : wh.cell? ⟨bx + 1, 2, none⟩ = some (.slice none 0 0) := (by rw [cell_of_row wh _ 2 _ 30 (0, 0) hf]; rfl); have y2 : wh.frozen? ⟨bx + 1, 2, none⟩ = false := frozen_of_row wh _ 2 _ 30 hf)
      | (go_at_call 10; have t_ := Yk.out; clear t_; refine (Ci.out _ (by repeat (first | (with_reducible assumption) | (with_reducible exact Q.refl _) | (with_reducible apply Q.drew) | (with_reducible apply Q.drewN)))).mono ?_; rintro e wi ⟨gi, rfl, qwi, oi, li⟩; have ji : Q w wi := Q.trans (by repeat (first | (with_reducible assumption) | (with_reducible exact Q.refl _) | (with_reducible apply Q.drew) | (with_reducible apply Q.drewN))) qwi; have cwi0 : wi.cell? ⟨bx, 0, none⟩ = some (.slice ka kn kc) := (qwi.cell (p := ⟨bx, 0, none⟩) (lt_of_cell cwk0)).trans cwk0; have cwi1 : wi.cell? ⟨bx, 1, none⟩ = some (.slice ia n ic) := (qwi.cell (p := ⟨bx, 1, none⟩) (lt_of_cell cwk1)).trans cwk1; have cwi2 : wi.cell? ⟨bx, 2, none⟩ = some (.slice ha hn hc) := (qwi.cell (p := ⟨bx, 2, none⟩) (lt_of_cell cwk2)).trans cwk2; have mi : bx + 1 < gi := Nat.lt_of_lt_of_le hb2 (Nat.le_trans (Q.size (show Q w1 wk from (by repeat (first | (with_reducible exact Q.refl _) | (with_reducible apply Q.drew) | (with_reducible apply Q.drewN) | (with_reducible refine Q.trans ?_ qwk))))) li); have Yi := hid (show In wi ⟨some ⟨gi, 0, none⟩, n, n⟩ iz from ⟨oi.seg, Li.out, Zi.out⟩); clear oi li)
      | (go_at_call 10; refine (Ck.out _ (by repeat (first | (with_reducible assumption) | (with_reducible exact Q.refl _) | (with_reducible apply Q.drew) | (with_reducible apply Q.drewN)))).mono ?_; rintro e wk ⟨gk, rfl, qwk, ok, lk⟩; have jk : Q w wk := Q.trans (by repeat (first | (with_reducible assumption) | (with_reducible exact Q.refl _) | (with_reducible apply Q.drew) | (with_reducible apply Q.drewN))) qwk; have cwk0 : wk.cell? ⟨bx, 0, none⟩ = some (.slice ka kn kc) := (qwk.cell (p := ⟨bx, 0, none⟩) (lt_of_cell cw10)).trans cw10; have cwk1 : wk.cell? ⟨bx, 1, none⟩ = some (.slice ia n ic) := (qwk.cell (p := ⟨bx, 1, none⟩) (lt_of_cell cw11)).trans cw11; have cwk2 : wk.cell? ⟨bx, 2, none⟩ = some (.slice ha hn hc) := (qwk.cell (p := ⟨bx, 2, none⟩) (lt_of_cell cw12)).trans cw12; have mk : bx + 1 < gk := Nat.lt_of_lt_of_le hb2 (Nat.le_trans (Q.size (show Q w1 w1 from (Q.refl _))) lk); have Yk := hid (show In wk ⟨some ⟨gk, 0, none⟩, kn, kn⟩ kz from ⟨ok.seg, Lk.out, Zk.out⟩); clear ok lk))
  all_goals (
    have YK := hid (show In wh ⟨some ⟨gk, 0, none⟩, kn, kn⟩ kz from Yk.out.q (by repeat (first | (with_reducible exact Q.refl _) | (with_reducible apply Q.drew) | (with_reducible apply Q.drewN) | (with_reducible refine Q.trans ?_ qwh) | (with_reducible refine Q.trans ?_ qwi) | (with_reducible refine Q.trans ?_ qwk))))
    have YI := hid (show In wh ⟨some ⟨gi, 0, none⟩, n, n⟩ iz from Yi.out.q (by repeat (first | (with_reducible exact Q.refl _) | (with_reducible apply Q.drew) | (with_reducible apply Q.drewN) | (with_reducible refine Q.trans ?_ qwh) | (with_reducible refine Q.trans ?_ qwi) | (with_reducible refine Q.trans ?_ qwk))))
    have BF := hid (KB.sets (show KB wh (bx + 1) 30 nilS nilS nilS from hf) ⟨some ⟨gk, 0, none⟩, kn, kn⟩ ⟨some ⟨gi, 0, none⟩, n, n⟩ ⟨some ⟨gh, 0, none⟩, hn, hn⟩)
    have KF := hid ((((Keep.refl (fun i => i = bx + 1) wh).setCell (bx + 1) 0 (.slice (some ⟨gk, 0, none⟩) kn kn) (.inl rfl)).setCell (bx + 1) 1 (.slice (some ⟨gi, 0, none⟩) n n) (.inl rfl)).setCell (bx + 1) 2 (.slice (some ⟨gh, 0, none⟩) hn hn) (.inl rfl))
    have JH := hid jh
    have MM := hid (And.intro mk (And.intro mi mh))
    dsimp only at BF
    clear qwk jk mk Ck cwk0 cwk1 cwk2 qwi ji mi Ci cwi0 cwi1 cwi2 qwh jh mh Ch cwh0 cwh1 cwh2 hf x0 x1 x2 y0 y1 y2 cw10 cw11 cw12 s1
    go_wp2
    generalize World.setCell (World.setCell (World.setCell wh _ _) _ _) _ _ = wf at *
    refine ret_kc30 rfl rfl (bx + 1) ⟨some ⟨gk, 0, none⟩, kn, kn⟩ ⟨some ⟨gi, 0, none⟩, n, n⟩ ⟨some ⟨gh, 0, none⟩, hn, hn⟩ rfl BF.out ⟨gk, gi, gh, rfl, ?_, ?_⟩
    · exact KF.out.below JH.out JH.out.size (fun i e => by have := HBX.out; omega)
    · obtain ⟨mk, mi, mh⟩ := MM.out
      exact (show KI wf ⟨some ⟨gk, 0, none⟩, kn, kn⟩ ⟨some ⟨gi, 0, none⟩, n, n⟩ ⟨some ⟨gh, 0, none⟩, hn, hn⟩ kz iz hz from ⟨in_keepb YK.out KF.out (by omega), in_keepb YI.out KF.out (by omega), in_keepb Yh.out KF.out (by omega)⟩))
end Go.Proofs.Ytihmlfpfpadfpaa
