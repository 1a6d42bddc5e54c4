/-
  GuardProtects: Protect makes the document's packet of any keys, header, number and payload, or refuses for the first thing that is wrong; nothing that is handed in changes. No condition beyond the form's own reach.
-/
import Derived.Test.YtihmlfpfpadfpaaRows
import Derived.Test.YtihmlfpfpadfpaaAwk
import Derived.Test.YtihmlfpfpadfpaaKcp
import Derived.Test.YtihmlfpfpadfpaaOpenK
import Derived.Test.YtihmlfpfpadfpaaRPrt
import Derived.WalkKit
import Derived.ProofKit
import Derived.OpenShut
import Derived.ShutString
import Derived.ChangeOld
import Derived.Below
import Derived.SizedLaws
namespace Go.Proofs.Ytihmlfpfpadfpaa.guardProtects
open Go.ChangeShapes Go.WideShapes Go.ChangeAt Go.RowKit
open Go.ChangeMaps (open_string shut_string)
set_option linter.unusedVariables false

set_option maxRecDepth 20000
def PB (w : World) (g : Nat) (k i h hd pl : Sv) (num wd : Int) : Prop := w.heap[g]? = some (.cells (pcells k i h hd pl num wd) 44 (0, 0))
section
variable {w w' : World} {g : Nat} {k i h hd pl : Sv} {num wd : Int}
theorem PB.q (x : PB w g k i h hd pl num wd) (q : Q w w') : PB w' g k i h hd pl num wd := (Below.block q _ (lt_of_block x)).trans x
theorem PB.c0 (x : PB w g k i h hd pl num wd) : w.cell? ⟨g, 0, none⟩ = some (.slice k.a k.n k.c) := by rw [cell_of_row w g 0 _ 44 (0, 0) x]; rfl
theorem PB.c1 (x : PB w g k i h hd pl num wd) : w.cell? ⟨g, 1, none⟩ = some (.slice i.a i.n i.c) := by rw [cell_of_row w g 1 _ 44 (0, 0) x]; rfl
theorem PB.c2 (x : PB w g k i h hd pl num wd) : w.cell? ⟨g, 2, none⟩ = some (.slice h.a h.n h.c) := by rw [cell_of_row w g 2 _ 44 (0, 0) x]; rfl
theorem PB.c3 (x : PB w g k i h hd pl num wd) : w.cell? ⟨g, 3, none⟩ = some (.slice hd.a hd.n hd.c) := by rw [cell_of_row w g 3 _ 44 (0, 0) x]; rfl
theorem PB.c4 (x : PB w g k i h hd pl num wd) : w.cell? ⟨g, 4, none⟩ = some (.slice pl.a pl.n pl.c) := by rw [cell_of_row w g 4 _ 44 (0, 0) x]; rfl
theorem PB.c5 (x : PB w g k i h hd pl num wd) : w.cell? ⟨g, 5, none⟩ = some (.int .i64 num) := by rw [cell_of_row w g 5 _ 44 (0, 0) x]; rfl
theorem PB.c6 (x : PB w g k i h hd pl num wd) : w.cell? ⟨g, 6, none⟩ = some (.int .i64 wd) := by rw [cell_of_row w g 6 _ 44 (0, 0) x]; rfl
end
/-- What stands behind the law's first statement. -/
def Rel1 (w1 : World) (kz iz hz hs ps : List Int) (kn n hn dn pn : Nat) (s3 s4 s5 : Value) (wc : World) : Prop :=
  ∃ gk gi gh gd gp g3, s3 = .pointer (some ⟨g3, 0, none⟩) ∧ s4 = .slice (some ⟨gd, 0, none⟩) dn dn ∧ s5 = .slice (some ⟨gp, 0, none⟩) pn pn ∧ Q w1 wc ∧ KB wc g3 30 ⟨some ⟨gk, 0, none⟩, kn, kn⟩ ⟨some ⟨gi, 0, none⟩, n, n⟩ ⟨some ⟨gh, 0, none⟩, hn, hn⟩ ∧ KI wc ⟨some ⟨gk, 0, none⟩, kn, kn⟩ ⟨some ⟨gi, 0, none⟩, n, n⟩ ⟨some ⟨gh, 0, none⟩, hn, hn⟩ kz iz hz ∧ In wc ⟨some ⟨gd, 0, none⟩, dn, dn⟩ hs ∧ In wc ⟨some ⟨gp, 0, none⟩, pn, pn⟩ ps
theorem keep3 (w : World) (g : Nat) (v0 v1 v2 : Value) : Keep (fun i => i = g) w (((w.setCell ⟨g, 0, none⟩ v0).setCell ⟨g, 1, none⟩ v1).setCell ⟨g, 2, none⟩ v2) :=
  (((Keep.refl (fun i => i = g) w).setCell g 0 v0 (.inl rfl)).setCell g 1 v1 (.inl rfl)).setCell g 2 v2 (.inl rfl)
theorem in_keepz {u v : World} {b g n c l m : Nat} {a : Option Addr} {zs : List Int} (h : In u ⟨some ⟨b, 0, none⟩, n, c⟩ zs) (hx : u.cell? ⟨g, 0, none⟩ = some (.slice a l m)) (k : Keep (fun i => i = g) u v) : In v ⟨some ⟨b, 0, none⟩, n, c⟩ zs := by
  by_cases hz : zs = []
  · subst hz; exact ⟨seg_nil _ _, h.l, h.z⟩
  · refine in_keepb h k ?_
    rintro rfl
    obtain ⟨b2, o2, e, hc⟩ := h.s hz
    cases e
    have h0 := hc 0 (List.length_pos_iff.2 hz)
    rw [Nat.zero_add, hx] at h0
    cases h0
theorem rel_new {w1 wp : World} {kz iz hz hs ps : List Int} {kn n hn dn pn gk gi gh gd gp : Nat} (jp : Q w1 wp) (ki : KI wp ⟨some ⟨gk, 0, none⟩, kn, kn⟩ ⟨some ⟨gi, 0, none⟩, n, n⟩ ⟨some ⟨gh, 0, none⟩, hn, hn⟩ kz iz hz) (d : In wp ⟨some ⟨gd, 0, none⟩, dn, dn⟩ hs) (p : In wp ⟨some ⟨gp, 0, none⟩, pn, pn⟩ ps) :
    Rel1 w1 kz iz hz hs ps kn n hn dn pn (.pointer (some ⟨wp.heap.size, 0, none⟩)) (.slice (some ⟨gd, 0, none⟩) dn dn) (.slice (some ⟨gp, 0, none⟩) pn pn) (wp.alloc (.cells #[.slice (some ⟨gk, 0, none⟩) kn kn, .slice (some ⟨gi, 0, none⟩) n n, .slice (some ⟨gh, 0, none⟩) hn hn] 30)) :=
  ⟨gk, gi, gh, gd, gp, wp.heap.size, rfl, rfl, rfl, jp.alloc _, heap_alloc_new wp _, ki.q ((Q.refl _).alloc _), d.q ((Q.refl _).alloc _), p.q ((Q.refl _).alloc _)⟩
theorem rel_set {w1 wp : World} {kz iz hz hs ps : List Int} {kn n hn dn pn gk gi gh gd gp g3 : Nat} (hkb : KB wp g3 30 nilS nilS nilS) (hs3 : w1.heap.size ≤ g3) (jp : Q w1 wp) (ki : KI wp ⟨some ⟨gk, 0, none⟩, kn, kn⟩ ⟨some ⟨gi, 0, none⟩, n, n⟩ ⟨some ⟨gh, 0, none⟩, hn, hn⟩ kz iz hz) (d : In wp ⟨some ⟨gd, 0, none⟩, dn, dn⟩ hs) (p : In wp ⟨some ⟨gp, 0, none⟩, pn, pn⟩ ps) :
    Rel1 w1 kz iz hz hs ps kn n hn dn pn (.pointer (some ⟨g3, 0, none⟩)) (.slice (some ⟨gd, 0, none⟩) dn dn) (.slice (some ⟨gp, 0, none⟩) pn pn) (((wp.setCell ⟨g3, 0, none⟩ (.slice (some ⟨gk, 0, none⟩) kn kn)).setCell ⟨g3, 1, none⟩ (.slice (some ⟨gi, 0, none⟩) n n)).setCell ⟨g3, 2, none⟩ (.slice (some ⟨gh, 0, none⟩) hn hn)) :=
  have k3 := keep3 wp g3 (.slice (some ⟨gk, 0, none⟩) kn kn) (.slice (some ⟨gi, 0, none⟩) n n) (.slice (some ⟨gh, 0, none⟩) hn hn)
  have x0 : wp.cell? ⟨g3, 0, none⟩ = some (.slice none 0 0) := hkb.c0
  ⟨gk, gi, gh, gd, gp, g3, rfl, rfl, rfl, k3.below jp jp.size (fun i e => by omega), KB.sets hkb ⟨some ⟨gk, 0, none⟩, kn, kn⟩ ⟨some ⟨gi, 0, none⟩, n, n⟩ ⟨some ⟨gh, 0, none⟩, hn, hn⟩, ⟨in_keepz ki.k x0 k3, in_keepz ki.i x0 k3, in_keepz ki.h x0 k3⟩, in_keepz d x0 k3, in_keepz p x0 k3⟩
set_option maxHeartbeats 8000000 in
theorem walk (k i h hd pl : Sv) (num wd : Int) (kz iz hz hs ps : List Int) (w : World) (hk : KI w k i h kz iz hz) (hh : In w hd hs) (hp : In w pl ps) (bk : k.n ≤ 140737488351232) (bi : i.n ≤ 140737488351232) (bh : h.n ≤ 140737488351232) (bd : hd.n ≤ 140737488351232) (bp : pl.n ≤ 140737488351232) :
    Calls Try.prog 4 #[.agg (pcells k i h hd pl num wd)] w fun r w' => r = .returned (.bool true) ∧ Below w.heap.size w w' := by
  have HK := hid hk
  have HH := hid hh
  have HP := hid hp
  clear hk hh hp
  obtain ⟨ka, kn, kc⟩ := k
  obtain ⟨ia, n, ic⟩ := i
  obtain ⟨ha, hn, hc⟩ := h
  obtain ⟨da, dn, dc⟩ := hd
  obtain ⟨pa, pn, pc⟩ := pl
  dsimp only at *
  go_enter Try.func4, Try.ntmps4
  go_upto_region 1 with fail
  generalize hw1 : World.alloc w _ = w1
  have Q1 := hid (show Q w w1 from by rw [← hw1]; exact (Q.refl w).alloc _)
  have B1 := hid (show PB w1 w.heap.size ⟨ka, kn, kc⟩ ⟨ia, n, ic⟩ ⟨ha, hn, hc⟩ ⟨da, dn, dc⟩ ⟨pa, pn, pc⟩ num wd from by rw [← hw1]; exact heap_alloc_new w _)
  clear hw1
  generalize w.heap.size = bx at *
  have hb1 : bx < w1.heap.size := lt_of_block B1.out
  have c0 := B1.out.c0
  have c1 := B1.out.c1
  have c2 := B1.out.c2
  have c3 := B1.out.c3
  have c4 := B1.out.c4
  dsimp only at c0 c1 c2 c3 c4
  have CK := hid (fun u (hu : Q w1 u) => copied_any ⟨ka, kn, kc⟩ ⟨ia, n, ic⟩ ⟨ha, hn, hc⟩ kz iz hz u ((HK.out.q Q1.out).q hu) (by show kn ≤ _; omega) (by show n ≤ _; omega) (by show hn ≤ _; omega))
  have CD := hid (fun u (hu : Q w1 u) => rcopy_any da dn dc hs u HH.out.l (by omega) ((HH.out.s.q Q1.out).q hu))
  have CP := hid (fun u (hu : Q w1 u) => rcopy_any pa pn pc ps u HP.out.l (by omega) ((HP.out.s.q Q1.out).q hu))
  have s1 : Q w1 w1 := Q.refl _
  go_cut [3, 4, 5] from 10 (fun s3 s4 s5 wc => Rel1 w1 kz iz hz hs ps kn n hn dn pn s3 s4 s5 wc)
  case first =>
    go_region_held3 (fun u => Q w1 u ∧ u.cell? ⟨bx, 0, none⟩ = some (.slice ka kn kc) ∧ u.cell? ⟨bx, 1, none⟩ = some (.slice ia n ic) ∧ u.cell? ⟨bx, 2, none⟩ = some (.slice ha hn hc) ∧ u.cell? ⟨bx, 3, none⟩ = some (.slice da dn dc) ∧ u.cell? ⟨bx, 4, none⟩ = some (.slice pa pn pc)) (repeat (first | (with_reducible assumption) | (with_reducible apply Q.drew) | (with_reducible apply Q.drewN) | (with_reducible apply Q.alloc) | (with_reducible refine kset ?_ (by first | omega | (simp; omega))) | (with_reducible refine kscel ?_ (by first | omega | (simp; omega))) | (with_reducible refine dcel ?_) | (with_reducible refine dcelN ?_) | (with_reducible refine acel ?_) | (with_reducible apply And.intro)))
      (first
        | (go_at_call 10; have t_ := ID.out; clear t_; refine (CP.out _ (by repeat (first | (with_reducible assumption) | (with_reducible exact Q.refl _) | (with_reducible apply Q.drew) | (with_reducible apply Q.drewN) | (with_reducible apply Q.alloc)))).mono ?_; rintro e wp ⟨gp, rfl, qp, op, lp⟩; have jp : Q w1 wp := Q.trans (by repeat (first | (with_reducible assumption) | (with_reducible exact Q.refl _) | (with_reducible apply Q.drew) | (with_reducible apply Q.drewN) | (with_reducible apply Q.alloc))) qp; have zp := Q.size jp; have IP := hid (show In wp ⟨some ⟨gp, 0, none⟩, pn, pn⟩ ps from ⟨op.seg, HP.out.l, HP.out.z⟩); have bp := B1.out.q jp; have p0 := bp.c0; have p1 := bp.c1; have p2 := bp.c2; have p3 := bp.c3; have p4 := bp.c4; dsimp only at p0 p1 p2 p3 p4; clear op lp; (first | (refine absorb (A := Q (w1.alloc (.cells #[.slice none 0 0, .slice none 0 0, .slice none 0 0] 30)) wp) ?_ ?_; (focus ((repeat (first | (with_reducible exact Q.refl _) | (with_reducible apply Q.drew) | (with_reducible apply Q.drewN) | (with_reducible refine Q.trans ?_ qp) | (with_reducible refine Q.trans ?_ qd) | (with_reducible refine Q.trans ?_ qk))); done)); intro hqA; have hkb : KB wp w1.heap.size 30 nilS nilS nilS := (Below.block hqA _ (by simp)).trans (heap_alloc_new w1 _); have x0 := hkb.c0; have x1 := hkb.c1; have x2 := hkb.c2; have y0 : wp.frozen? ⟨w1.heap.size, 0, none⟩ = false := frozen_of_row wp _ 0 _ 30 hkb; have y1 : wp.frozen? ⟨w1.heap.size, 1, none⟩ = false := frozen_of_row wp _ 1 _ 30 hkb; have y2 : wp.frozen? ⟨w1.heap.size, 2, none⟩ = false := frozen_of_row wp _ 2 _ 30 hkb; dsimp only [nilS] at x0 x1 x2; clear hqA) | (refine absorb (A := Q (w1.drew.alloc (.cells #[.slice none 0 0, .slice none 0 0, .slice none 0 0] 30)) wp) ?_ ?_; (focus ((repeat (first | (with_reducible exact Q.refl _) | (with_reducible apply Q.drew) | (with_reducible apply Q.drewN) | (with_reducible refine Q.trans ?_ qp) | (with_reducible refine Q.trans ?_ qd) | (with_reducible refine Q.trans ?_ qk))); done)); intro hqA; have hkb : KB wp w1.heap.size 30 nilS nilS nilS := (Below.block hqA _ (by simp)).trans (heap_alloc_new w1.drew _); have x0 := hkb.c0; have x1 := hkb.c1; have x2 := hkb.c2; have y0 : wp.frozen? ⟨w1.heap.size, 0, none⟩ = false := frozen_of_row wp _ 0 _ 30 hkb; have y1 : wp.frozen? ⟨w1.heap.size, 1, none⟩ = false := frozen_of_row wp _ 1 _ 30 hkb; have y2 : wp.frozen? ⟨w1.heap.size, 2, none⟩ = false := frozen_of_row wp _ 2 _ 30 hkb; dsimp only [nilS] at x0 x1 x2; clear hqA) | (refine absorb (A := Q (wk.alloc (.cells #[.slice none 0 0, .slice none 0 0, .slice none 0 0] 30)) wp) ?_ ?_; (focus ((repeat (first | (with_reducible exact Q.refl _) | (with_reducible apply Q.drew) | (with_reducible apply Q.drewN) | (with_reducible refine Q.trans ?_ qp) | (with_reducible refine Q.trans ?_ qd) | (with_reducible refine Q.trans ?_ qk))); done)); intro hqA; have hkb : KB wp wk.heap.size 30 nilS nilS nilS := (Below.block hqA _ (by simp)).trans (heap_alloc_new wk _); have x0 := hkb.c0; have x1 := hkb.c1; have x2 := hkb.c2; have y0 : wp.frozen? ⟨wk.heap.size, 0, none⟩ = false := frozen_of_row wp _ 0 _ 30 hkb; have y1 : wp.frozen? ⟨wk.heap.size, 1, none⟩ = false := frozen_of_row wp _ 1 _ 30 hkb; have y2 : wp.frozen? ⟨wk.heap.size, 2, none⟩ = false := frozen_of_row wp _ 2 _ 30 hkb; dsimp only [nilS] at x0 x1 x2; clear hqA) | (refine absorb (A := Q (wk.drew.alloc (.cells #[.slice none 0 0, .slice none 0 0, .slice none 0 0] 30)) wp) ?_ ?_; (focus ((repeat (first | (with_reducible exact Q.refl _) | (with_reducible apply Q.drew) | (with_reducible apply Q.drewN) | (with_reducible refine Q.trans ?_ qp) | (with_reducible refine Q.trans ?_ qd) | (with_reducible refine Q.trans ?_ qk))); done)); intro hqA; have hkb : KB wp wk.heap.size 30 nilS nilS nilS := (Below.block hqA _ (by simp)).trans (heap_alloc_new wk.drew _); have x0 := hkb.c0; have x1 := hkb.c1; have x2 := hkb.c2; have y0 : wp.frozen? ⟨wk.heap.size, 0, none⟩ = false := frozen_of_row wp _ 0 _ 30 hkb; have y1 : wp.frozen? ⟨wk.heap.size, 1, none⟩ = false := frozen_of_row wp _ 1 _ 30 hkb; have y2 : wp.frozen? ⟨wk.heap.size, 2, none⟩ = false := frozen_of_row wp _ 2 _ 30 hkb; dsimp only [nilS] at x0 x1 x2; clear hqA) | (refine absorb (A := Q (wd.alloc (.cells #[.slice none 0 0, .slice none 0 0, .slice none 0 0] 30)) wp) ?_ ?_; (focus ((repeat (first | (with_reducible exact Q.refl _) | (with_reducible apply Q.drew) | (with_reducible apply Q.drewN) | (with_reducible refine Q.trans ?_ qp) | (with_reducible refine Q.trans ?_ qd) | (with_reducible refine Q.trans ?_ qk))); done)); intro hqA; have hkb : KB wp wd.heap.size 30 nilS nilS nilS := (Below.block hqA _ (by simp)).trans (heap_alloc_new wd _); have x0 := hkb.c0; have x1 := hkb.c1; have x2 := hkb.c2; have y0 : wp.frozen? ⟨wd.heap.size, 0, none⟩ = false := frozen_of_row wp _ 0 _ 30 hkb; have y1 : wp.frozen? ⟨wd.heap.size, 1, none⟩ = false := frozen_of_row wp _ 1 _ 30 hkb; have y2 : wp.frozen? ⟨wd.heap.size, 2, none⟩ = false := frozen_of_row wp _ 2 _ 30 hkb; dsimp only [nilS] at x0 x1 x2; clear hqA) | (refine absorb (A := Q (wd.drew.alloc (.cells #[.slice none 0 0, .slice none 0 0, .slice none 0 0] 30)) wp) ?_ ?_; (focus ((repeat (first | (with_reducible exact Q.refl _) | (with_reducible apply Q.drew) | (with_reducible apply Q.drewN) | (with_reducible refine Q.trans ?_ qp) | (with_reducible refine Q.trans ?_ qd) | (with_reducible refine Q.trans ?_ qk))); done)); intro hqA; have hkb : KB wp wd.heap.size 30 nilS nilS nilS := (Below.block hqA _ (by simp)).trans (heap_alloc_new wd.drew _); have x0 := hkb.c0; have x1 := hkb.c1; have x2 := hkb.c2; have y0 : wp.frozen? ⟨wd.heap.size, 0, none⟩ = false := frozen_of_row wp _ 0 _ 30 hkb; have y1 : wp.frozen? ⟨wd.heap.size, 1, none⟩ = false := frozen_of_row wp _ 1 _ 30 hkb; have y2 : wp.frozen? ⟨wd.heap.size, 2, none⟩ = false := frozen_of_row wp _ 2 _ 30 hkb; dsimp only [nilS] at x0 x1 x2; clear hqA) | skip))
        | (go_at_call 10; have t_ := IK.out; clear t_; refine (CD.out _ (by repeat (first | (with_reducible assumption) | (with_reducible exact Q.refl _) | (with_reducible apply Q.drew) | (with_reducible apply Q.drewN) | (with_reducible apply Q.alloc)))).mono ?_; rintro e wd ⟨gd, rfl, qd, od, ld⟩; have jd : Q w1 wd := Q.trans (by repeat (first | (with_reducible assumption) | (with_reducible exact Q.refl _) | (with_reducible apply Q.drew) | (with_reducible apply Q.drewN) | (with_reducible apply Q.alloc))) qd; have zd := Q.size jd; have ID := hid (show In wd ⟨some ⟨gd, 0, none⟩, dn, dn⟩ hs from ⟨od.seg, HH.out.l, HH.out.z⟩); have LD := hid (show w1.heap.size ≤ gd from Nat.le_trans (Q.size (show Q w1 _ from (by repeat (first | (with_reducible assumption) | (with_reducible exact Q.refl _) | (with_reducible apply Q.drew) | (with_reducible apply Q.drewN) | (with_reducible apply Q.alloc))))) ld); have bd := B1.out.q jd; have d0 := bd.c0; have d1 := bd.c1; have d2 := bd.c2; have d3 := bd.c3; have d4 := bd.c4; dsimp only at d0 d1 d2 d3 d4; clear od ld)
        | (go_at_call 19; refine (CK.out _ (by repeat (first | (with_reducible assumption) | (with_reducible exact Q.refl _) | (with_reducible apply Q.drew) | (with_reducible apply Q.drewN) | (with_reducible apply Q.alloc)))).mono ?_; rintro e wk ⟨gk, gi, gh, rfl, qk, ik⟩; have jk : Q w1 wk := Q.trans (by repeat (first | (with_reducible assumption) | (with_reducible exact Q.refl _) | (with_reducible apply Q.drew) | (with_reducible apply Q.drewN) | (with_reducible apply Q.alloc))) qk; have zk := Q.size jk; have IK := hid ik; have bk := B1.out.q jk; have k0 := bk.c0; have k1 := bk.c1; have k2 := bk.c2; have k3 := bk.c3; have k4 := bk.c4; dsimp only at k0 k1 k2 k3 k4; clear ik))
    all_goals (
      have KP := hid (IK.out.q (show Q wk wp from (by repeat (first | (with_reducible assumption) | (with_reducible exact Q.refl _) | (with_reducible apply Q.drew) | (with_reducible apply Q.drewN) | (with_reducible refine Q.trans ?_ qp) | (with_reducible refine Q.trans ?_ qd) | (with_reducible refine Q.trans ?_ qk) | (with_reducible apply Q.alloc)))))
      have DP := hid (ID.out.q (show Q wd wp from (by repeat (first | (with_reducible assumption) | (with_reducible exact Q.refl _) | (with_reducible apply Q.drew) | (with_reducible apply Q.drewN) | (with_reducible refine Q.trans ?_ qp) | (with_reducible refine Q.trans ?_ qd) | (with_reducible refine Q.trans ?_ qk) | (with_reducible apply Q.alloc)))))
      have JP := hid jp
      go_wp2_with fail
      go_meet
      case rel =>
        first
          | exact rel_set hkb (by omega) JP.out KP.out DP.out IP.out
          | exact rel_new JP.out KP.out DP.out IP.out)
  case rest =>
    obtain ⟨gk, gi, gh, gd, gp, g3, rfl, rfl, rfl, qc, kb, ki, id_, ip⟩ := hcut
    generalize hwz : wc = w2 at *
    clear hwz
    have Q2 := hid (Q1.out.trans qc)
    have B2 := hid (B1.out.q qc)
    have KB2 := hid kb
    have KI2 := hid ki
    have ID2 := hid id_
    have IP2 := hid ip
    clear qc kb ki id_ ip c0 c1 c2 c3 c4 CK CD CP s1 hb1
    have c0 := KB2.out.c0
    have c1 := KB2.out.c1
    have c2 := KB2.out.c2
    have c5 := B2.out.c5
    have c6 := B2.out.c6
    dsimp only at c0 c1 c2
    go_wp2_with fail
    refine (protect_any ⟨some ⟨gk, 0, none⟩, kn, kn⟩ ⟨some ⟨gi, 0, none⟩, n, n⟩ ⟨some ⟨gh, 0, none⟩, hn, hn⟩ ⟨some ⟨gd, 0, none⟩, dn, dn⟩ ⟨some ⟨gp, 0, none⟩, pn, pn⟩ kz iz hz hs ps num wd w2 KI2.out ID2.out IP2.out (by show dn ≤ _; omega) (by show pn ≤ _; omega)).mono ?_
    rintro e w3 ⟨⟨xa, xn, xc⟩, rfl, q3, r3⟩
    dsimp only
    have Q3 := hid (Q2.out.trans q3)
    have B3 := hid (B2.out.q q3)
    have KB3 := hid (KB2.out.q q3)
    have KI3 := hid (KI2.out.q q3)
    have ID3 := hid (ID2.out.q q3)
    have IP3 := hid (IP2.out.q q3)
    have ZPT := hid (show By (ptR kz iz hz hs num wd ps) from by
      unfold ptR
      split
      · exact mskA_lt _ (plnL_lt HH.out.z HP.out.z _ _) _ _
      · intro y hy; cases hy)
    have X3 := hid (row_in r3 ZPT.out)
    have BX3 := hid (show xn ≤ 140737488355328 from by
      have h1 := Row.len r3
      unfold ptR at h1
      split at h1
      · next he =>
        obtain ⟨_, _, _, _, e1, e2, _, e3, e4, _⟩ := ptE_ok he
        rw [proL_len] at h1
        dsimp only at h1
        omega
      · dsimp only at h1; simp at h1; omega)
    clear q3 r3 c0 c1 c2 c5 c6 B2 KB2 KI2 ID2 IP2 Q2
    generalize hE : ptE kn n hn dn num wd pn = E at *
    have HE := hid hE
    clear hE
    have c0 := B3.out.c0
    have c1 := B3.out.c1
    have c2 := B3.out.c2
    have c3 := B3.out.c3
    have c4 := B3.out.c4
    have c5 := B3.out.c5
    have c6 := B3.out.c6
    dsimp only at c0 c1 c2 c3 c4
    have CO := hid (fun u => of_any ⟨ka, kn, kc⟩ ⟨ia, n, ic⟩ ⟨ha, hn, hc⟩ u)
    have CR := hid (fun u (hu : Q w3 u) => rprotect_any ⟨ka, kn, kc⟩ ⟨ia, n, ic⟩ ⟨ha, hn, hc⟩ ⟨da, dn, dc⟩ ⟨pa, pn, pc⟩ kz iz hz hs ps num wd u ((HK.out.q Q3.out).q hu) ((HH.out.q Q3.out).q hu) ((HP.out.q Q3.out).q hu) (by show dn ≤ _; omega) (by show pn ≤ _; omega))
    dsimp only at CR
    rw [HE.out] at CR
    have s1 : Q w3 w3 := Q.refl _
    go_wp2
    go_region_held3 (fun u => Q w3 u ∧ u.cell? ⟨bx, 0, none⟩ = some (.slice ka kn kc) ∧ u.cell? ⟨bx, 1, none⟩ = some (.slice ia n ic) ∧ u.cell? ⟨bx, 2, none⟩ = some (.slice ha hn hc) ∧ u.cell? ⟨bx, 3, none⟩ = some (.slice da dn dc) ∧ u.cell? ⟨bx, 4, none⟩ = some (.slice pa pn pc) ∧ u.cell? ⟨bx, 5, none⟩ = some (.int .i64 num) ∧ u.cell? ⟨bx, 6, none⟩ = some (.int .i64 wd)) (repeat (first | (with_reducible assumption) | (with_reducible apply Q.drew) | (with_reducible apply Q.drewN) | (with_reducible refine dcel ?_) | (with_reducible refine dcelN ?_) | (with_reducible apply And.intro)))
      (first
        | (go_at_call 22; refine (CO.out _).mono ?_; rintro e wk ⟨rfl, qk⟩; have jk : Q w3 wk := Q.trans (by repeat (first | (with_reducible assumption) | (with_reducible exact Q.refl _) | (with_reducible apply Q.drew) | (with_reducible apply Q.drewN) | (with_reducible apply Q.alloc))) qk; have bk := B3.out.q jk; have k0 := bk.c0; have k1 := bk.c1; have k2 := bk.c2; have k3 := bk.c3; have k4 := bk.c4; have k5 := bk.c5; have k6 := bk.c6; dsimp only at k0 k1 k2 k3 k4)
        | (go_at_call 21; refine (CR.out _ (by repeat (first | (with_reducible assumption) | (with_reducible exact Q.refl _) | (with_reducible apply Q.drew) | (with_reducible apply Q.drewN) | (with_reducible apply Q.alloc)))).mono ?_; rintro e wt ⟨⟨ya, yn, yc⟩, rfl, qt, rt⟩; have jt : Q w3 wt := Q.trans (by repeat (first | (with_reducible assumption) | (with_reducible exact Q.refl _) | (with_reducible apply Q.drew) | (with_reducible apply Q.drewN) | (with_reducible apply Q.alloc))) qt; have bt := B3.out.q jt; have t0 := bt.c0; have t1 := bt.c1; have t2 := bt.c2; have t3 := bt.c3; have t4 := bt.c4; have t5 := bt.c5; have t6 := bt.c6; dsimp only at t0 t1 t2 t3 t4))
    generalize hwq : wt = w4 at *
    clear hwq
    have Q4 := hid (Q3.out.trans jt)
    have B4 := hid (B3.out.q jt)
    have KB4 := hid (KB3.out.q jt)
    have KI4 := hid (KI3.out.q jt)
    have ID4 := hid (ID3.out.q jt)
    have IP4 := hid (IP3.out.q jt)
    have X4 := hid (X3.out.q jt)
    have Y4 := hid (row_in rt ZPT.out)
    clear rt qt jt bt t0 t1 t2 t3 t4 t5 t6 qk jk bk k0 k1 k2 k3 k4 k5 k6 c0 c1 c2 c3 c4 c5 c6 CO CR s1 B3 KB3 KI3 ID3 IP3 X3 Q3
    have c0 := B4.out.c0
    have c1 := B4.out.c1
    have c2 := B4.out.c2
    have c3 := B4.out.c3
    have c4 := B4.out.c4
    have c5 := KB4.out.c0
    have c6 := KB4.out.c1
    have c7 := KB4.out.c2
    dsimp only at c0 c1 c2 c3 c4 c5 c6 c7
    have S1 := hid (fun u (hu : Q w4 u) => same_in (x := ⟨xa, xn, xc⟩) (y := ⟨ya, yn, yc⟩) (X4.out.q hu) (Y4.out.q hu) BX3.out)
    have CO := hid (fun u => of_any ⟨ka, kn, kc⟩ ⟨ia, n, ic⟩ ⟨ha, hn, hc⟩ u)
    have S2 := hid (fun u (hu : Q w4 u) => samek_any ⟨some ⟨gk, 0, none⟩, kn, kn⟩ ⟨some ⟨gi, 0, none⟩, n, n⟩ ⟨some ⟨gh, 0, none⟩, hn, hn⟩ ⟨ka, kn, kc⟩ ⟨ia, n, ic⟩ ⟨ha, hn, hc⟩ kz iz hz u (KI4.out.q hu) ((HK.out.q Q4.out).q hu) (by show kn ≤ _; omega) (by show n ≤ _; omega) (by show hn ≤ _; omega))
    have S3 := hid (fun u (hu : Q w4 u) => same_in (x := ⟨some ⟨gd, 0, none⟩, dn, dn⟩) (y := ⟨da, dn, dc⟩) (ID4.out.q hu) ((HH.out.q Q4.out).q hu) (by show dn ≤ _; omega))
    have S4 := hid (fun u (hu : Q w4 u) => same_in (x := ⟨some ⟨gp, 0, none⟩, pn, pn⟩) (y := ⟨pa, pn, pc⟩) (IP4.out.q hu) ((HP.out.q Q4.out).q hu) (by show pn ≤ _; omega))
    have s1 : Q w4 w4 := Q.refl _
    have hee : (E == E) = true := by simp
    go_wp2
    go_region_held3 (fun u => Q w4 u ∧ u.cell? ⟨bx, 0, none⟩ = some (.slice ka kn kc) ∧ u.cell? ⟨bx, 1, none⟩ = some (.slice ia n ic) ∧ u.cell? ⟨bx, 2, none⟩ = some (.slice ha hn hc) ∧ u.cell? ⟨bx, 3, none⟩ = some (.slice da dn dc) ∧ u.cell? ⟨bx, 4, none⟩ = some (.slice pa pn pc) ∧ u.cell? ⟨g3, 0, none⟩ = some (.slice (some ⟨gk, 0, none⟩) kn kn) ∧ u.cell? ⟨g3, 1, none⟩ = some (.slice (some ⟨gi, 0, none⟩) n n) ∧ u.cell? ⟨g3, 2, none⟩ = some (.slice (some ⟨gh, 0, none⟩) hn hn)) (repeat (first | (with_reducible assumption) | (with_reducible apply Q.drew) | (with_reducible apply Q.drewN) | (with_reducible refine dcel ?_) | (with_reducible refine dcelN ?_) | (with_reducible apply And.intro)))
      (first
        | (go_at_call 16; refine (awake_any _).mono ?_; rintro e wa ⟨rfl, qa⟩; have ja : Q w4 wa := Q.trans (by repeat (first | (with_reducible assumption) | (with_reducible exact Q.refl _) | (with_reducible apply Q.drew) | (with_reducible apply Q.drewN) | (with_reducible apply Q.alloc))) qa; have ba := B4.out.q ja; have na := KB4.out.q ja; have a0 := ba.c0; have a1 := ba.c1; have a2 := ba.c2; have a3 := ba.c3; have a4 := ba.c4; have a5 := na.c0; have a6 := na.c1; have a7 := na.c2; dsimp only at a0 a1 a2 a3 a4 a5 a6 a7; clear c0 c1 c2 c3 c4 c5 c6 c7)
        | (go_at_call_of 17 (Value.slice xa xn xc); refine (S1.out _ (by repeat (first | (with_reducible assumption) | (with_reducible exact Q.refl _) | (with_reducible apply Q.drew) | (with_reducible apply Q.drewN) | (with_reducible apply Q.alloc)))).mono ?_; rintro e wb ⟨rfl, qb⟩; have jb : Q w4 wb := Q.trans (by repeat (first | (with_reducible assumption) | (with_reducible exact Q.refl _) | (with_reducible apply Q.drew) | (with_reducible apply Q.drewN) | (with_reducible apply Q.alloc))) qb; have bb := B4.out.q jb; have nb := KB4.out.q jb; have b0 := bb.c0; have b1 := bb.c1; have b2 := bb.c2; have b3 := bb.c3; have b4 := bb.c4; have b5 := nb.c0; have b6 := nb.c1; have b7 := nb.c2; dsimp only at b0 b1 b2 b3 b4 b5 b6 b7; clear a0 a1 a2 a3 a4 a5 a6 a7 ba na qa)
        | (go_at_call 22; refine (CO.out _).mono ?_; rintro e wh ⟨rfl, qh⟩; have jh : Q w4 wh := Q.trans (by repeat (first | (with_reducible assumption) | (with_reducible exact Q.refl _) | (with_reducible apply Q.drew) | (with_reducible apply Q.drewN) | (with_reducible apply Q.alloc))) qh; have bh := B4.out.q jh; have nh := KB4.out.q jh; have h0 := bh.c0; have h1 := bh.c1; have h2 := bh.c2; have h3 := bh.c3; have h4 := bh.c4; have h5 := nh.c0; have h6 := nh.c1; have h7 := nh.c2; dsimp only at h0 h1 h2 h3 h4 h5 h6 h7; clear b0 b1 b2 b3 b4 b5 b6 b7 bb nb qb)
        | (go_at_call 18; refine (S2.out _ (by repeat (first | (with_reducible assumption) | (with_reducible exact Q.refl _) | (with_reducible apply Q.drew) | (with_reducible apply Q.drewN) | (with_reducible apply Q.alloc)))).mono ?_; rintro e we ⟨rfl, qe⟩; have je : Q w4 we := Q.trans (by repeat (first | (with_reducible assumption) | (with_reducible exact Q.refl _) | (with_reducible apply Q.drew) | (with_reducible apply Q.drewN) | (with_reducible apply Q.alloc))) qe; have be := B4.out.q je; have ne := KB4.out.q je; have e0 := be.c0; have e1 := be.c1; have e2 := be.c2; have e3 := be.c3; have e4 := be.c4; have e5 := ne.c0; have e6 := ne.c1; have e7 := ne.c2; dsimp only at e0 e1 e2 e3 e4 e5 e6 e7; clear h0 h1 h2 h3 h4 h5 h6 h7 bh nh qh)
        | (go_at_call_of 17 (Value.slice (some ⟨gd, 0, none⟩) dn dn); refine (S3.out _ (by repeat (first | (with_reducible assumption) | (with_reducible exact Q.refl _) | (with_reducible apply Q.drew) | (with_reducible apply Q.drewN) | (with_reducible apply Q.alloc)))).mono ?_; rintro e wf ⟨rfl, qf⟩; have jf : Q w4 wf := Q.trans (by repeat (first | (with_reducible assumption) | (with_reducible exact Q.refl _) | (with_reducible apply Q.drew) | (with_reducible apply Q.drewN) | (with_reducible apply Q.alloc))) qf; have bf := B4.out.q jf; have nf := KB4.out.q jf; have f0 := bf.c0; have f1 := bf.c1; have f2 := bf.c2; have f3 := bf.c3; have f4 := bf.c4; have f5 := nf.c0; have f6 := nf.c1; have f7 := nf.c2; dsimp only at f0 f1 f2 f3 f4 f5 f6 f7; clear e0 e1 e2 e3 e4 e5 e6 e7 be ne qe)
        | (go_at_call_of 17 (Value.slice (some ⟨gp, 0, none⟩) pn pn); refine (S4.out _ (by repeat (first | (with_reducible assumption) | (with_reducible exact Q.refl _) | (with_reducible apply Q.drew) | (with_reducible apply Q.drewN) | (with_reducible apply Q.alloc)))).mono ?_; rintro e wg ⟨rfl, qg⟩; have jg : Q w4 wg := Q.trans (by repeat (first | (with_reducible assumption) | (with_reducible exact Q.refl _) | (with_reducible apply Q.drew) | (with_reducible apply Q.drewN) | (with_reducible apply Q.alloc))) qg; have bg := B4.out.q jg; have ng := KB4.out.q jg; have g0 := bg.c0; have g1 := bg.c1; have g2 := bg.c2; have g3 := bg.c3; have g4 := bg.c4; have g5 := ng.c0; have g6 := ng.c1; have g7 := ng.c2; dsimp only at g0 g1 g2 g3 g4 g5 g6 g7; clear f0 f1 f2 f3 f4 f5 f6 f7 bf nf qf))
    all_goals (
      have QF := hid (Q4.out.trans jg)
      go_wp2
      go_ret
      exact ⟨by first | rfl | simp, QF.out⟩)

set_option maxRecDepth 100000 in
theorem lifted (os : Os) (started : os.Started) (H : Type) (enc : TypeId × Value → H) :
    ReturnsInHanded {} Try.checked os 4 .any (Rows.guardProtectsSpec.pre6 enc Try.prog Try.f4 Rows.guardProtectsRow.domain false) (Rows.guardProtectsSpec.post enc Try.prog Try.f4 false true false false) := by
  refine returnsInHanded_of_change_sized (C := Try.checked) own_knob started (by kernel_rfl) Try.func4
    (ChangeSpec.witness6 (enc := enc) (C := Try.checked) false ⟨#[], #[.agg #[.slice none 0 0, .slice none 0 0, .slice none 0 0, .slice none 0 0, .slice none 0 0, .int .i64 0, .int .i64 0]], []⟩ 8 (by kernel_rfl) (by kernel_rfl) (by kernel_rfl) (by kernel_rfl)) ?_
  intro W base args ds gs before hval0 hW hcnd hsz0 _
  have hval : ∀ (j : Nat) t v, Try.f4.params[j]? = some t → args[j]? = some v → Value.okWide Try.prog W .any base t v := hval0
  have hsz : (DataW.weightsEach Try.prog (Try.f4.params.toList ++ Rows.guardProtectsSpec.plain.varTypes Try.prog) (ds ++ gs)).all (· ≤ reachBytes) = true := hsz0
  have hW' := hW
  obtain ⟨p, q, hA0, hV, rfl, hfz, hnd⟩ := hW
  have hA : DataW.TrodAll enc Try.prog W 0 (fun _ => true) true Try.f4.params.toList args.toList ds p := hA0
  rw [Try.params4] at hA hval hsz
  obtain ⟨v0, vs0, d0, ds0, p0, q0, hargs, rfl, rfl, h0, r0⟩ := trodAll_cons hA
  obtain ⟨rfl, rfl, rfl⟩ := trodAll_nil r0
  obtain rfl : args = #[v0] := by cases args; simp_all
  obtain ⟨rfl, rfl⟩ := trodVars_none hV
  obtain ⟨cs0, rfl, hcs0⟩ := okWide_struct Try.underlying44 (hval 0 44 v0 rfl rfl)
  have k0 := h0
  have lt0 : ∀ x ∈ p0, x.block < W.heap.size := by obtain ⟨m, hm⟩ := k0; exact DataW.trod_lt m _ _ _ hm
  obtain ⟨kb0, ib0, hb0, db0, pb0, num0, wd0, kz0, iz0, hz0, dz0, pz0, rfl, hc0⟩ := open_packet h0 hcs0
  have ft0 := packet_fit hsz (j := 0) rfl rfl hc0
  clear hA0 hval0
  refine (walk kb0 ib0 hb0 db0 pb0 num0 wd0 kz0 iz0 hz0 dz0 pz0 W hc0.ck hc0.ch hc0.cp ft0.1 ft0.2.1 ft0.2.2.1 ft0.2.2.2.1 ft0.2.2.2.2).mono fun e W' ⟨he, bel⟩ => ?_
  subst he
  exact ⟨_, rfl, _, _, _, [], _, [], hW', trodAll_mk1 (shut_bool Try.underlying4 _), (trodAll_cons_mk (Below.trod laid_out (by kernel_rfl) (of_decide_eq_true (by kernel_rfl)) k0 bel lt0) trodAll_mk0), rfl, bel.frame _, fun h => by cases h⟩

theorem over : Rows.guardProtectsRow.holds Try.pinned (OpenSpec.ofChange Rows.guardProtectsSpec) :=
  OpenClaim.holds_of_wide 4 Try.f4 rfl rfl rfl rfl rfl rfl rfl ⟨rfl, rfl, rfl, rfl, rfl⟩ rfl rfl rfl rfl rfl (by kernel_rfl) Try.func4 (by kernel_rfl)
    (of_decide_eq_true (by kernel_rfl)) (by unfold Func.isWrapper; first | (rw [if_pos (by decide +kernel)]; kernel_rfl) | (rw [if_neg (by decide +kernel)]; exact ⟨rfl, rfl⟩))
    (fun os started H enc _ => lifted os started H enc)

end Go.Proofs.Ytihmlfpfpadfpaa.guardProtects
namespace Go.Proofs.Ytihmlfpfpadfpaa

/-- The statement. -/
theorem guardProtects_holds : Rows.GuardProtectsSaid := guardProtects.over
#print axioms guardProtects_holds
end Go.Proofs.Ytihmlfpfpadfpaa
