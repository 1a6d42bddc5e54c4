/-
  What the law's own copied and same do with a box: contracts that its walk uses.
-/
import Derived.Test.YtnoapfhbckebiaaOpenB
import Derived.Test.YtnoapfhbckebiaaSame
import Derived.Deep.RegionHeld3
namespace Go.Proofs.Ytnoapfhbckebiaa
open Go.RowKit
set_option linter.unusedVariables false
set_option maxRecDepth 20000

/-- A block that holds a box. -/
def BB (w : World) (g : Nat) (k n a d : Sv) : Prop := w.heap[g]? = some (.cells (bcells k n a d) 36 (0, 0))
section
variable {w w' : World} {g : Nat} {k n a d : Sv}
theorem BB.q (x : BB w g k n a d) (q : Q w w') : BB w' g k n a d := (Below.block q _ (lt_of_block x)).trans x
theorem BB.c0 (x : BB w g k n a d) : w.cell? ⟨g, 0, none⟩ = some (.slice k.a k.n k.c) := by rw [cell_of_row w g 0 _ 36 (0, 0) x]; rfl
theorem BB.c1 (x : BB w g k n a d) : w.cell? ⟨g, 1, none⟩ = some (.slice n.a n.n n.c) := by rw [cell_of_row w g 1 _ 36 (0, 0) x]; rfl
theorem BB.c2 (x : BB w g k n a d) : w.cell? ⟨g, 2, none⟩ = some (.slice a.a a.n a.c) := by rw [cell_of_row w g 2 _ 36 (0, 0) x]; rfl
theorem BB.c3 (x : BB w g k n a d) : w.cell? ⟨g, 3, none⟩ = some (.slice d.a d.n d.c) := by rw [cell_of_row w g 3 _ 36 (0, 0) x]; rfl
theorem BB.s0 (x : BB w g k n a d) (y : Sv) : BB (w.setCell ⟨g, 0, none⟩ (.slice y.a y.n y.c)) g y n a d := by
  have := heap_setCell_same w g 0 _ 36 (.slice y.a y.n y.c) x
  simpa [BB] using this
theorem BB.s1 (x : BB w g k n a d) (y : Sv) : BB (w.setCell ⟨g, 1, none⟩ (.slice y.a y.n y.c)) g k y a d := by
  have := heap_setCell_same w g 1 _ 36 (.slice y.a y.n y.c) x
  simpa [BB] using this
theorem BB.s2 (x : BB w g k n a d) (y : Sv) : BB (w.setCell ⟨g, 2, none⟩ (.slice y.a y.n y.c)) g k n y d := by
  have := heap_setCell_same w g 2 _ 36 (.slice y.a y.n y.c) x
  simpa [BB] using this
theorem BB.s3 (x : BB w g k n a d) (y : Sv) : BB (w.setCell ⟨g, 3, none⟩ (.slice y.a y.n y.c)) g k n a y := by
  have := heap_setCell_same w g 3 _ 36 (.slice y.a y.n y.c) x
  simpa [BB] using this
end
theorem ret_box {fn : Func} {p : Tmp} {a : Act} {w : World} {R : Ending → World → Prop} (hr : fn.results = #[.cell p 36]) (hd : a.defers = [])
    (g : Nat) (k n b d : Sv) (hp : a.tmps.getD p undef = .pointer (some ⟨g, 0, none⟩)) (hb : BB w g k n b d) (hR : R (.returned (.agg (bcells k n b d))) w) : bodyPost Try.prog fn R .ret a w :=
  ⟨hd, _, results_cell_row hr _ w g 36 _ (0, 0) _ hp hb Try.underlying36 rfl (by kernel_rfl), hR⟩
theorem dcel {W : World} {p : Addr} {v : Value} (h : W.cell? p = some v) : W.drew.cell? p = some v := h
theorem qset {w u : World} {b j : Nat} {v : Value} (h : Q w u) (hb : w.heap.size ≤ b) : Q w (u.setCell ⟨b, j, none⟩ v) := by
  have k : Keep (fun i => i = b) u (u.setCell ⟨b, j, none⟩ v) := (Keep.refl (fun i => i = b) u).setCell _ _ _ (.inl rfl)
  exact k.below h h.size (fun i e => by omega)
theorem scel {u : World} {b0 i b j : Nat} {v y : Value} (h : u.cell? ⟨b0, i, none⟩ = some v) (hne : b0 ≠ b) : (u.setCell ⟨b, j, none⟩ y).cell? ⟨b0, i, none⟩ = some v := by
  have k : Keep (fun i => i = b) u (u.setCell ⟨b, j, none⟩ y) := (Keep.refl (fun i => i = b) u).setCell _ _ _ (.inl rfl)
  exact k.cell h hne
theorem in_keep {g b : Nat} {u v : World} {n c : Nat} {zs : List Int} (h : In u ⟨some ⟨b, 0, none⟩, n, c⟩ zs) (k : Keep (fun i => i = g) u v) (hne : b ≠ g) : In v ⟨some ⟨b, 0, none⟩, n, c⟩ zs :=
  ⟨h.s.keep k (fun i e f => by simp [blk] at e; omega), h.l, h.z⟩
theorem same_in {w : World} {x y : Sv} {zs : List Int} (hx : In w x zs) (hy : In w y zs) (hb : x.n ≤ 140737488355328) :
    Calls Try.prog 12 #[.slice x.a x.n x.c, .slice y.a y.n y.c] w fun e w' => e = .returned (.bool true) ∧ Q w w' := by
  refine (same_any x.a y.a x.n y.n x.c y.c zs zs w hx.l hy.l (by omega) (by have := hx.l; have := hy.l; omega) hx.s hy.s).mono ?_
  rintro e w' ⟨rfl, h⟩
  exact ⟨by simp, h⟩
set_option maxHeartbeats 8000000 in
theorem copied_any (k n a d : Sv) (ks ns az ds : List Int) (w : World) (hb : Bx w k n a d ks ns az ds) (bk : k.n ≤ 140737488351232) (bn : n.n ≤ 140737488351232) (ba : a.n ≤ 140737488351232) (bd : d.n ≤ 140737488351232) :
    Calls Try.prog 16 #[.agg (bcells k n a d)] w fun e w' => ∃ gk gn ga gd, e = .returned (.agg (bcells ⟨some ⟨gk, 0, none⟩, k.n, k.n⟩ ⟨some ⟨gn, 0, none⟩, n.n, n.n⟩ ⟨some ⟨ga, 0, none⟩, a.n, a.n⟩ ⟨some ⟨gd, 0, none⟩, d.n, d.n⟩)) ∧ Q w w' ∧ Bx w' ⟨some ⟨gk, 0, none⟩, k.n, k.n⟩ ⟨some ⟨gn, 0, none⟩, n.n, n.n⟩ ⟨some ⟨ga, 0, none⟩, a.n, a.n⟩ ⟨some ⟨gd, 0, none⟩, d.n, d.n⟩ ks ns az ds := by
  have HB := hid hb
  clear hb
  obtain ⟨ka, kn, kc⟩ := k
  obtain ⟨na, nn, nc⟩ := n
  obtain ⟨aa, an, ac⟩ := a
  obtain ⟨da, dn, dc⟩ := d
  dsimp only at *
  have Lk := hid (show ks.length = kn from HB.out.ik.l)
  have Ln := hid (show ns.length = nn from HB.out.in_.l)
  have La := hid (show az.length = an from HB.out.ia.l)
  have Ld := hid (show ds.length = dn from HB.out.id_.l)
  have Zk := hid HB.out.ik.z
  have Zn := hid HB.out.in_.z
  have Za := hid HB.out.ia.z
  have Zd := hid HB.out.id_.z
  go_enter Try.func16, Try.ntmps16
  go_wp2_with fail
  generalize hw1 : World.alloc (World.alloc w _) _ = w1
  have q1 : Q w w1 := by rw [← hw1]; exact ((Q.refl w).alloc _).alloc _
  have hh1 : BB w1 w.heap.size ⟨ka, kn, kc⟩ ⟨na, nn, nc⟩ ⟨aa, an, ac⟩ ⟨da, dn, dc⟩ := by rw [← hw1]; exact heap_alloc2_old w _ _
  have hh2 : w1.heap[w.heap.size + 1]? = some (.cells (bcells nilS nilS nilS nilS) 36 (0, 0)) := by rw [← hw1]; exact heap_alloc2_new w _ _
  have hb1 := lt_of_block hh1
  have hb2 := lt_of_block hh2
  have HWS := hid (Nat.le_refl w.heap.size)
  have cw10 := hh1.c0
  have cw11 := hh1.c1
  have cw12 := hh1.c2
  have cw13 := hh1.c3
  have B1 := hid (HB.out.q q1)
  have Q1 := hid q1
  clear hw1 hh1
  generalize hbx : w.heap.size = bx at *
  have HBX := hid hbx
  clear hbx
  have s1 : Q w w1 := q1
  have hbx1 : w.heap.size ≤ bx + 1 := by have := HBX.out; omega
  have hbn : bx ≠ bx + 1 := by omega
  have Ck := hid (fun u (hu : Q w u) => rcopy_any ka kn kc ks u Lk.out (by omega) (HB.out.ik.s.q hu))
  have Cn := hid (fun u (hu : Q w u) => rcopy_any na nn nc ns u Ln.out (by omega) (HB.out.in_.s.q hu))
  have Ca := hid (fun u (hu : Q w u) => rcopy_any aa an ac az u La.out (by omega) (HB.out.ia.s.q hu))
  have Cd := hid (fun u (hu : Q w u) => rcopy_any da dn dc ds u Ld.out (by omega) (HB.out.id_.s.q hu))
  go_region_held3 (fun u => Q w u ∧ u.cell? ⟨bx, 0, none⟩ = some (.slice ka kn kc) ∧ u.cell? ⟨bx, 1, none⟩ = some (.slice na nn nc) ∧ u.cell? ⟨bx, 2, none⟩ = some (.slice aa an ac) ∧ u.cell? ⟨bx, 3, none⟩ = some (.slice da dn dc)) (repeat (first | (with_reducible assumption) | (with_reducible refine qset ?_ hbx1) | (with_reducible refine scel ?_ hbn) | (with_reducible refine dcel ?_) | (with_reducible apply Q.drew) | (with_reducible apply Q.drewN) | (with_reducible apply And.intro)))
    (first
      | (go_at_call 9; have t_ := Ya.out; clear t_; refine (Cd.out _ (by repeat (first | (with_reducible assumption) | (with_reducible exact Q.refl _) | (with_reducible apply Q.drew) | (with_reducible apply Q.drewN)))).mono ?_; rintro e wd ⟨gd, rfl, qd, od, lwd⟩; have jd : Q w wd := Q.trans (by repeat (first | (with_reducible assumption) | (with_reducible exact Q.refl _) | (with_reducible apply Q.drew) | (with_reducible apply Q.drewN))) qd; have cwd0 : wd.cell? ⟨bx, 0, none⟩ = some (.slice ka kn kc) := (qd.cell (p := ⟨bx, 0, none⟩) (lt_of_cell cwa0)).trans cwa0; have cwd1 : wd.cell? ⟨bx, 1, none⟩ = some (.slice na nn nc) := (qd.cell (p := ⟨bx, 1, none⟩) (lt_of_cell cwa1)).trans cwa1; have cwd2 : wd.cell? ⟨bx, 2, none⟩ = some (.slice aa an ac) := (qd.cell (p := ⟨bx, 2, none⟩) (lt_of_cell cwa2)).trans cwa2; have cwd3 : wd.cell? ⟨bx, 3, none⟩ = some (.slice da dn dc) := (qd.cell (p := ⟨bx, 3, none⟩) (lt_of_cell cwa3)).trans cwa3; have hwd : wd.heap[bx + 1]? = some (.cells (bcells nilS nilS nilS nilS) 36 (0, 0)) := (Below.block (show Q w1 wd from (by repeat (first | (with_reducible exact Q.refl _) | (with_reducible apply Q.drew) | (with_reducible apply Q.drewN) | (with_reducible refine Q.trans ?_ qd) | (with_reducible refine Q.trans ?_ qa) | (with_reducible refine Q.trans ?_ qn) | (with_reducible refine Q.trans ?_ qk)))) _ hb2).trans hh2; have ewd0 : wd.cell? ⟨bx + 1, 0, none⟩ = some (.slice none 0 0) := (by rw [cell_of_row wd _ 0 _ 36 (0, 0) hwd]; rfl); have ewd1 : wd.cell? ⟨bx + 1, 1, none⟩ = some (.slice none 0 0) := (by rw [cell_of_row wd _ 1 _ 36 (0, 0) hwd]; rfl); have ewd2 : wd.cell? ⟨bx + 1, 2, none⟩ = some (.slice none 0 0) := (by rw [cell_of_row wd _ 2 _ 36 (0, 0) hwd]; rfl); have ewd3 : wd.cell? ⟨bx + 1, 3, none⟩ = some (.slice none 0 0) := (by rw [cell_of_row wd _ 3 _ 36 (0, 0) hwd]; rfl); have fwd0 : wd.frozen? ⟨bx + 1, 0, none⟩ = false := frozen_of_row wd _ 0 _ 36 hwd; have fwd1 : wd.frozen? ⟨bx + 1, 1, none⟩ = false := frozen_of_row wd _ 1 _ 36 hwd; have fwd2 : wd.frozen? ⟨bx + 1, 2, none⟩ = false := frozen_of_row wd _ 2 _ 36 hwd; have fwd3 : wd.frozen? ⟨bx + 1, 3, none⟩ = false := frozen_of_row wd _ 3 _ 36 hwd; have md : bx + 1 < gd := Nat.lt_of_lt_of_le hb2 (Nat.le_trans (Q.size (show Q w1 wa from (by repeat (first | (with_reducible exact Q.refl _) | (with_reducible apply Q.drew) | (with_reducible apply Q.drewN) | (with_reducible refine Q.trans ?_ qa) | (with_reducible refine Q.trans ?_ qn) | (with_reducible refine Q.trans ?_ qk))))) lwd); have Yd := hid (show In wd ⟨some ⟨gd, 0, none⟩, dn, dn⟩ ds from ⟨od.seg, Ld.out, Zd.out⟩); clear od lwd)
      | (go_at_call 9; have t_ := Yn.out; clear t_; refine (Ca.out _ (by repeat (first | (with_reducible assumption) | (with_reducible exact Q.refl _) | (with_reducible apply Q.drew) | (with_reducible apply Q.drewN)))).mono ?_; rintro e wa ⟨ga, rfl, qa, oa, lwa⟩; have ja : Q w wa := Q.trans (by repeat (first | (with_reducible assumption) | (with_reducible exact Q.refl _) | (with_reducible apply Q.drew) | (with_reducible apply Q.drewN))) qa; have cwa0 : wa.cell? ⟨bx, 0, none⟩ = some (.slice ka kn kc) := (qa.cell (p := ⟨bx, 0, none⟩) (lt_of_cell cwn0)).trans cwn0; have cwa1 : wa.cell? ⟨bx, 1, none⟩ = some (.slice na nn nc) := (qa.cell (p := ⟨bx, 1, none⟩) (lt_of_cell cwn1)).trans cwn1; have cwa2 : wa.cell? ⟨bx, 2, none⟩ = some (.slice aa an ac) := (qa.cell (p := ⟨bx, 2, none⟩) (lt_of_cell cwn2)).trans cwn2; have cwa3 : wa.cell? ⟨bx, 3, none⟩ = some (.slice da dn dc) := (qa.cell (p := ⟨bx, 3, none⟩) (lt_of_cell cwn3)).trans cwn3; have ma : bx + 1 < ga := Nat.lt_of_lt_of_le hb2 (Nat.le_trans (Q.size (show Q w1 wn from (by repeat (first | (with_reducible exact Q.refl _) | (with_reducible apply Q.drew) | (with_reducible apply Q.drewN) | (with_reducible refine Q.trans ?_ qn) | (with_reducible refine Q.trans ?_ qk))))) lwa); have Ya := hid (show In wa ⟨some ⟨ga, 0, none⟩, an, an⟩ az from ⟨oa.seg, La.out, Za.out⟩); clear oa lwa)
      | (go_at_call 9; have t_ := Yk.out; clear t_; refine (Cn.out _ (by repeat (first | (with_reducible assumption) | (with_reducible exact Q.refl _) | (with_reducible apply Q.drew) | (with_reducible apply Q.drewN)))).mono ?_; rintro e wn ⟨gn, rfl, qn, on, lwn⟩; have jn : Q w wn := Q.trans (by repeat (first | (with_reducible assumption) | (with_reducible exact Q.refl _) | (with_reducible apply Q.drew) | (with_reducible apply Q.drewN))) qn; have cwn0 : wn.cell? ⟨bx, 0, none⟩ = some (.slice ka kn kc) := (qn.cell (p := ⟨bx, 0, none⟩) (lt_of_cell cwk0)).trans cwk0; have cwn1 : wn.cell? ⟨bx, 1, none⟩ = some (.slice na nn nc) := (qn.cell (p := ⟨bx, 1, none⟩) (lt_of_cell cwk1)).trans cwk1; have cwn2 : wn.cell? ⟨bx, 2, none⟩ = some (.slice aa an ac) := (qn.cell (p := ⟨bx, 2, none⟩) (lt_of_cell cwk2)).trans cwk2; have cwn3 : wn.cell? ⟨bx, 3, none⟩ = some (.slice da dn dc) := (qn.cell (p := ⟨bx, 3, none⟩) (lt_of_cell cwk3)).trans cwk3; have mn : bx + 1 < gn := Nat.lt_of_lt_of_le hb2 (Nat.le_trans (Q.size (show Q w1 wk from (by repeat (first | (with_reducible exact Q.refl _) | (with_reducible apply Q.drew) | (with_reducible apply Q.drewN) | (with_reducible refine Q.trans ?_ qk))))) lwn); have Yn := hid (show In wn ⟨some ⟨gn, 0, none⟩, nn, nn⟩ ns from ⟨on.seg, Ln.out, Zn.out⟩); clear on lwn)
      | (go_at_call 9; refine (Ck.out _ (by repeat (first | (with_reducible assumption) | (with_reducible exact Q.refl _) | (with_reducible apply Q.drew) | (with_reducible apply Q.drewN)))).mono ?_; rintro e wk ⟨gk, rfl, qk, ok, lwk⟩; have jk : Q w wk := Q.trans (by repeat (first | (with_reducible assumption) | (with_reducible exact Q.refl _) | (with_reducible apply Q.drew) | (with_reducible apply Q.drewN))) qk; have cwk0 : wk.cell? ⟨bx, 0, none⟩ = some (.slice ka kn kc) := (qk.cell (p := ⟨bx, 0, none⟩) (lt_of_cell cw10)).trans cw10; have cwk1 : wk.cell? ⟨bx, 1, none⟩ = some (.slice na nn nc) := (qk.cell (p := ⟨bx, 1, none⟩) (lt_of_cell cw11)).trans cw11; have cwk2 : wk.cell? ⟨bx, 2, none⟩ = some (.slice aa an ac) := (qk.cell (p := ⟨bx, 2, none⟩) (lt_of_cell cw12)).trans cw12; have cwk3 : wk.cell? ⟨bx, 3, none⟩ = some (.slice da dn dc) := (qk.cell (p := ⟨bx, 3, none⟩) (lt_of_cell cw13)).trans cw13; have mk : bx + 1 < gk := Nat.lt_of_lt_of_le hb2 lwk; have Yk := hid (show In wk ⟨some ⟨gk, 0, none⟩, kn, kn⟩ ks from ⟨ok.seg, Lk.out, Zk.out⟩); clear ok lwk))
  have KP := hid (show ∀ v0 v1 v2 v3, Keep (fun i => i = bx + 1) wd ((((wd.setCell ⟨bx + 1, 0, none⟩ v0).setCell ⟨bx + 1, 1, none⟩ v1).setCell ⟨bx + 1, 2, none⟩ v2).setCell ⟨bx + 1, 3, none⟩ v3) from fun v0 v1 v2 v3 => ((((Keep.refl (fun i => i = bx + 1) wd).setCell _ _ _ (.inl rfl)).setCell _ _ _ (.inl rfl)).setCell _ _ _ (.inl rfl)).setCell _ _ _ (.inl rfl))
  have BF := hid (((((show BB wd (bx + 1) nilS nilS nilS nilS from hwd).s0 ⟨some ⟨gk, 0, none⟩, kn, kn⟩).s1 ⟨some ⟨gn, 0, none⟩, nn, nn⟩).s2 ⟨some ⟨ga, 0, none⟩, an, an⟩).s3 ⟨some ⟨gd, 0, none⟩, dn, dn⟩)
  have YK := hid (show In wd ⟨some ⟨gk, 0, none⟩, kn, kn⟩ ks from Yk.out.q (by repeat (first | (with_reducible exact Q.refl _) | (with_reducible apply Q.drew) | (with_reducible apply Q.drewN) | (with_reducible refine Q.trans ?_ qd) | (with_reducible refine Q.trans ?_ qa) | (with_reducible refine Q.trans ?_ qn) | (with_reducible refine Q.trans ?_ qk))))
  have YN := hid (show In wd ⟨some ⟨gn, 0, none⟩, nn, nn⟩ ns from Yn.out.q (by repeat (first | (with_reducible exact Q.refl _) | (with_reducible apply Q.drew) | (with_reducible apply Q.drewN) | (with_reducible refine Q.trans ?_ qd) | (with_reducible refine Q.trans ?_ qa) | (with_reducible refine Q.trans ?_ qn) | (with_reducible refine Q.trans ?_ qk))))
  have YA := hid (show In wd ⟨some ⟨ga, 0, none⟩, an, an⟩ az from Ya.out.q (by repeat (first | (with_reducible exact Q.refl _) | (with_reducible apply Q.drew) | (with_reducible apply Q.drewN) | (with_reducible refine Q.trans ?_ qd) | (with_reducible refine Q.trans ?_ qa) | (with_reducible refine Q.trans ?_ qn) | (with_reducible refine Q.trans ?_ qk))))
  have JD := hid jd
  have MM := hid (And.intro mk (And.intro mn (And.intro ma md)))
  have KQ := hid (show ∀ v0 v1 v2 v3, Q w ((((wd.setCell ⟨bx + 1, 0, none⟩ v0).setCell ⟨bx + 1, 1, none⟩ v1).setCell ⟨bx + 1, 2, none⟩ v2).setCell ⟨bx + 1, 3, none⟩ v3) from fun v0 v1 v2 v3 => qset (qset (qset (qset jd hbx1) hbx1) hbx1) hbx1)
  clear qk jk mk Ck cwk0 cwk1 cwk2 cwk3 qn jn mn Cn cwn0 cwn1 cwn2 cwn3 qa ja ma Ca cwa0 cwa1 cwa2 cwa3 qd jd md Cd cwd0 cwd1 cwd2 cwd3 hwd ewd0 fwd0 ewd1 fwd1 ewd2 fwd2 ewd3 fwd3
  dsimp only at BF
  have KF := hid (KP.out (.slice (some ⟨gk, 0, none⟩) kn kn) (.slice (some ⟨gn, 0, none⟩) nn nn) (.slice (some ⟨ga, 0, none⟩) an an) (.slice (some ⟨gd, 0, none⟩) dn dn))
  have QF := hid (KQ.out (.slice (some ⟨gk, 0, none⟩) kn kn) (.slice (some ⟨gn, 0, none⟩) nn nn) (.slice (some ⟨ga, 0, none⟩) an an) (.slice (some ⟨gd, 0, none⟩) dn dn))
  clear KP KQ
  generalize World.setCell (World.setCell (World.setCell (World.setCell wd _ _) _ _) _ _) _ _ = wf at *
  go_wp2
  refine ret_box rfl rfl (bx + 1) ⟨some ⟨gk, 0, none⟩, kn, kn⟩ ⟨some ⟨gn, 0, none⟩, nn, nn⟩ ⟨some ⟨ga, 0, none⟩, an, an⟩ ⟨some ⟨gd, 0, none⟩, dn, dn⟩ rfl BF.out ⟨gk, gn, ga, gd, rfl, QF.out, ?_⟩
  obtain ⟨mk, mn, ma, md⟩ := MM.out
  exact ⟨in_keep YK.out KF.out (by omega), in_keep YN.out KF.out (by omega), in_keep YA.out KF.out (by omega), in_keep Yd.out KF.out (by omega)⟩

set_option maxHeartbeats 4000000 in
theorem sameB_any (k n a d k' n' a' d' : Sv) (ks ns az ds : List Int) (w : World) (x : Bx w k n a d ks ns az ds) (y : Bx w k' n' a' d' ks ns az ds) (bk : k.n ≤ 140737488351232) (bn : n.n ≤ 140737488351232) (ba : a.n ≤ 140737488351232) (bd : d.n ≤ 140737488351232) :
    Calls Try.prog 21 #[.agg (bcells k n a d), .agg (bcells k' n' a' d')] w fun e w' => e = .returned (.bool true) ∧ Q w w' := by
  have HX := hid x
  have HY := hid y
  clear x y
  have S0 := hid (fun u (hu : Q w u) => same_in (HX.out.ik.q hu) (HY.out.ik.q hu) (by omega))
  have S1 := hid (fun u (hu : Q w u) => same_in (HX.out.in_.q hu) (HY.out.in_.q hu) (by omega))
  have S2 := hid (fun u (hu : Q w u) => same_in (HX.out.ia.q hu) (HY.out.ia.q hu) (by omega))
  have S3 := hid (fun u (hu : Q w u) => same_in (HX.out.id_.q hu) (HY.out.id_.q hu) (by omega))
  go_enter Try.func21, Try.ntmps21
  go_wp2_with fail
  generalize hw1 : World.alloc (World.alloc w _) _ = w1
  have q1 : Q w w1 := by rw [← hw1]; exact ((Q.refl w).alloc _).alloc _
  have b1 : BB w1 w.heap.size k n a d := by rw [← hw1]; exact heap_alloc2_old w _ _
  have b2 : BB w1 (w.heap.size + 1) k' n' a' d' := by rw [← hw1]; exact heap_alloc2_new w _ _
  clear hw1
  have Q1 := hid q1
  have B1 := hid b1
  have B2 := hid b2
  clear q1 b1 b2
  generalize w.heap.size = bx at *
  refine (S0.out w1 Q1.out).mono ?_
  rintro e w2 ⟨rfl, q2⟩
  have Q2 := hid (Q1.out.trans q2)
  have C2 := hid (B1.out.q q2)
  have D2 := hid (B2.out.q q2)
  have c1 := C2.out.c1
  have d1 := D2.out.c1
  clear q2 Q1 B1 B2 S0
  go_wp2_with fail
  refine (S1.out w2 Q2.out).mono ?_
  rintro e w3 ⟨rfl, q3⟩
  have Q3 := hid (Q2.out.trans q3)
  have C3 := hid (C2.out.q q3)
  have D3 := hid (D2.out.q q3)
  have c2 := C3.out.c2
  have d2 := D3.out.c2
  clear q3 Q2 C2 D2 S1 c1 d1
  go_wp2_with fail
  refine (S2.out w3 Q3.out).mono ?_
  rintro e w4 ⟨rfl, q4⟩
  have Q4 := hid (Q3.out.trans q4)
  have C4 := hid (C3.out.q q4)
  have D4 := hid (D3.out.q q4)
  have c3 := C4.out.c3
  have d3 := D4.out.c3
  clear q4 Q3 C3 D3 S2 c2 d2
  go_wp2_with fail
  refine (S3.out w4 Q4.out).mono ?_
  rintro e w5 ⟨rfl, q5⟩
  have Q5 := hid (Q4.out.trans q5)
  clear q5
  go_wp2
  go_ret
  exact ⟨by first | rfl | simp, Q5.out⟩
end Go.Proofs.Ytnoapfhbckebiaa
