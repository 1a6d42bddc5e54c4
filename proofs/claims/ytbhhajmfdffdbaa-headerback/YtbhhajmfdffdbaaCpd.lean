/-
  What the law's own copy of a header does: a contract that the statements' walks use.
-/
import Derived.Test.YtbhhajmfdffdbaaSameH
import Derived.Test.YtbhhajmfdffdbaaCat
import Derived.Test.YtbhhajmfdffdbaaCopy
import Derived.Test.YtbhhajmfdffdbaaLong
import Derived.Deep.Cut
import Derived.Deep.CutRange
import Derived.Deep.RegionHeld3
namespace Go.Proofs.Ytbhhajmfdffdbaa
open Go.RowKit
set_option linter.unusedVariables false
set_option maxRecDepth 20000

/-- What a slice of ints brings to append. -/
theorem src_segN {w : World} {a : Option Addr} {n c : Nat} {zs : List Int} (h : SegN w a zs) (hl : zs.length = n) : Src Try.prog 1 24 (.slice a n c) n (i64s zs) w := by
  by_cases h0 : zs = []
  · subst h0
    obtain rfl : n = 0 := by simpa using hl.symm
    cases a with
    | none => exact Src.ofNil w Try.underlying24 c
    | some ad => exact Src.ofSlice (size := 1) w Try.underlying24 ad 0 c [] (by simp) (by intro j u hj; cases hj) (by intro u hu; cases hu)
  · obtain ⟨b, off, rfl, hc⟩ := h h0
    refine Src.ofSlice (size := 1) w Try.underlying24 ⟨b, off, none⟩ n c (i64s zs) (by simp [hl]) (fun j u hj => ?_) (ints_oneCell _ _)
    have hj' : j < zs.length := by
      rcases Nat.lt_or_ge j zs.length with hh | hh
      · exact hh
      · rw [List.getElem?_eq_none (by simpa using hh)] at hj; cases hj
    rw [addr_add, hc j hj']
    rw [List.getElem?_map, List.getElem?_eq_getElem hj'] at hj
    simp only [Option.map_some, Option.some.injEq] at hj
    rw [← hj, List.getD_eq_getElem?_getD, List.getElem?_eq_getElem hj']; rfl
/-- Ints behind an empty row. -/
theorem rowN_all {w : World} {a : Option Addr} {n c : Nat} {ys : List Int} (h : SegN w a ys) (hl : ys.length = n) (hn : n ≤ 17592186044416) :
    ∃ r w', (Builtin.append_ #[24, 24] 24 #[.slice (some ⟨w.heap.size, 0, none⟩) 0 0, .slice a n c]).run Try.prog (w.alloc (.cells #[] 3)) = .ok (.slice r.a r.n r.c) w' ∧ RowN w' r ys ∧ Keep (fun b => b = w.heap.size) w w' ∧ New w.heap.size r := by
  obtain ⟨i0, hi, hz0, hz1, hz2⟩ := info_parts info3
  have hq : Q w (w.alloc (.cells #[] 3)) := (Q.refl w).alloc _
  have hg : (w.alloc (.cells #[] 3)).heap[w.heap.size]? = some (.cells #[] 3 (0, 0)) := heap_alloc_new w _
  have h0 : RowN (w.alloc (.cells #[] 3)) ⟨some ⟨w.heap.size, 0, none⟩, 0, 0⟩ [] := ⟨rfl, .inr ⟨w.heap.size, 0, #[], rfl, hg, Nat.le_refl _, by show 0 ≤ maxLen; unfold maxLen; omega, by simp, fun j hj => by simp at hj⟩⟩
  obtain ⟨a', cap', w', hr, h1, h2, h3⟩ := sub_append (P := Try.prog) (ty := 24) Try.underlying24 hi hz0 hz1 hz2 rfl h0 (src_segN (c := c) (h.q hq) hl) (by show 0 + n ≤ _; unfold maxLen; omega) (by show ((0 + n) + (0 + n) / 4 + 192) * 8 ≤ 281474976710656; omega)
  refine ⟨⟨a', 0 + n, cap'⟩, w', hr, h1, (Keep.ofQ hq).trans (h2.mono (fun b _ hb => by have hb : some w.heap.size = some b := hb; exact (Option.some.inj hb).symm)), ?_⟩
  intro b hb
  rcases h3 with h3 | h3
  · have h4 : some b = some w.heap.size := by rw [← hb]; exact h3
    have h5 := Option.some.inj h4
    omega
  · have : some b = some (w.alloc (.cells #[] 3)).heap.size := by rw [← hb]; exact h3
    have h5 := Option.some.inj this
    simp at h5; omega
/-- A header's words hold it, and are not too long. -/
structure Fit (w : World) (H : Hd) (d s t v : Sv) : Prop where
  h : Reads w H d s t v
  nd : d.n ≤ 140737488355328
  ns : s.n ≤ 140737488355328
  nt : t.n ≤ 140737488355328
  nv : v.n ≤ 17592186044416
theorem Fit.q {w w' : World} {H : Hd} {d s t v : Sv} (h : Fit w H d s t v) (q : Q w w') : Fit w' H d s t v := ⟨h.h.q q, h.nd, h.ns, h.nt, h.nv⟩
theorem Own.new {w : World} {base g n cap : Nat} {zs : List Int} (h : Own w base (some ⟨g, 0, none⟩) n cap zs) : New base ⟨some ⟨g, 0, none⟩, n, cap⟩ := by
  intro x hx; cases hx; exact (h.lt g rfl).1
/-- Between the copies of bytes and that of ints. -/
structure Mid (w wc : World) (H : Hd) (x y z v : Sv) : Prop where
  b : Box wc 26 w.heap.size H x y z v
  r : Box wc 26 (w.heap.size + 1) zh nilS nilS nilS nilS
  q : Q w wc
  rx : Row wc x H.dst
  ry : Row wc y H.src
  rz : Row wc z H.tok
  nx : New (w.heap.size + 2) x
  ny : New (w.heap.size + 2) y
  nz : New (w.heap.size + 2) z

set_option maxHeartbeats 16000000 in
theorem copied_any (H : Hd) (d s t v : Sv) (w : World) (h : Fit w H d s t v) :
    Calls Try.prog 16 #[hv H d s t v] w fun e w' => ∃ d' s' t' v' : Sv, e = .returned (hv H d' s' t' v') ∧ Q w w' ∧ Holds w.heap.size w' H d' s' t' v' := by
  have HH := hid h
  clear h
  go_enter Try.func16, Try.ntmps16
  go_upto_region 1 with fail
  generalize hw1 : World.alloc (World.alloc w _) _ = w1
  have q1 : Q w w1 := by rw [← hw1]; exact ((Q.refl w).alloc _).alloc _
  have b1 : Box w1 26 w.heap.size H d s t v := by rw [← hw1]; exact heap_alloc2_old w _ _
  have r1 : Box w1 26 (w.heap.size + 1) zh nilS nilS nilS nilS := by rw [← hw1]; exact heap_alloc2_new w _ _
  have hsz : w1.heap.size = w.heap.size + 2 := by rw [← hw1]; simp
  clear hw1
  have CD := hid (show ∀ u, Q w1 u → Calls Try.prog 9 #[.slice d.a d.n d.c] u fun e w' => ∃ x : Sv, e = .returned (.slice x.a x.n x.c) ∧ Q u w' ∧ Q w1 w' ∧ Row w' x H.dst ∧ New w1.heap.size x from fun u hu =>
    (rcopy_any d.a d.n d.c H.dst u HH.out.h.dl HH.out.nd (HH.out.h.ds.q (q1.trans hu))).mono (by
      rintro e w' ⟨g, rfl, hq, ho, hg⟩
      exact ⟨⟨some ⟨g, 0, none⟩, d.n, d.n⟩, rfl, hq, hu.trans hq, ho.row (by simp), ho.new.mono hu.size⟩))
  have CS := hid (show ∀ u, Q w1 u → Calls Try.prog 9 #[.slice s.a s.n s.c] u fun e w' => ∃ x : Sv, e = .returned (.slice x.a x.n x.c) ∧ Q u w' ∧ Q w1 w' ∧ Row w' x H.src ∧ New w1.heap.size x from fun u hu =>
    (rcopy_any s.a s.n s.c H.src u HH.out.h.sl HH.out.ns (HH.out.h.ss.q (q1.trans hu))).mono (by
      rintro e w' ⟨g, rfl, hq, ho, hg⟩
      exact ⟨⟨some ⟨g, 0, none⟩, s.n, s.n⟩, rfl, hq, hu.trans hq, ho.row (by simp), ho.new.mono hu.size⟩))
  have CT := hid (show ∀ u, Q w1 u → Calls Try.prog 9 #[.slice t.a t.n t.c] u fun e w' => ∃ x : Sv, e = .returned (.slice x.a x.n x.c) ∧ Q u w' ∧ Q w1 w' ∧ Row w' x H.tok ∧ New w1.heap.size x from fun u hu =>
    (rcopy_any t.a t.n t.c H.tok u HH.out.h.tl HH.out.nt (HH.out.h.ts.q (q1.trans hu))).mono (by
      rintro e w' ⟨g, rfl, hq, ho, hg⟩
      exact ⟨⟨some ⟨g, 0, none⟩, t.n, t.n⟩, rfl, hq, hu.trans hq, ho.row (by simp), ho.new.mono hu.size⟩))
  have B1 := hid b1
  have Q1 := hid q1
  have c2 := b1.c2
  have c3 := b1.c3
  have c4 := b1.c4
  have FIN := hid (show ∀ (wA wB wC : World) (x y z : Sv), Q w1 wA → Q wA wB → Q wB wC → Row wA x H.dst → New w1.heap.size x → Row wB y H.src → New w1.heap.size y → Row wC z H.tok → New w1.heap.size z → Mid w (((wC.setCell ⟨w.heap.size, 2, none⟩ (.slice x.a x.n x.c)).setCell ⟨w.heap.size, 3, none⟩ (.slice y.a y.n y.c)).setCell ⟨w.heap.size, 4, none⟩ (.slice z.a z.n z.c)) H x y z v from by
    intro wA wB wC x y z qA qB qC rx nx ry ny rz nz
    have qAC := qB.trans qC
    have q1C := qA.trans qAC
    have bC := b1.q q1C
    have ks : Keep (fun i => i = w.heap.size) wC (((wC.setCell ⟨w.heap.size, 2, none⟩ (.slice x.a x.n x.c)).setCell ⟨w.heap.size, 3, none⟩ (.slice y.a y.n y.c)).setCell ⟨w.heap.size, 4, none⟩ (.slice z.a z.n z.c)) := (((Keep.refl (fun i => i = w.heap.size) wC).setCell _ _ _ (.inl rfl)).setCell _ _ _ (.inl rfl)).setCell _ _ _ (.inl rfl)
    have qw : Q w wC := q1.trans q1C
    rw [hsz] at nx ny nz
    exact ⟨((bC.dst_ x H.dst).src_ y H.src).tok_ z H.tok, (r1.q q1C).keep ks (by omega), ks.below qw qw.size (fun i e => by omega), sub_keepN (rx.q qAC) nx ks (fun i e => .inl (by omega)), sub_keepN (ry.q qC) ny ks (fun i e => .inl (by omega)), sub_keepN rz nz ks (fun i e => .inl (by omega)), nx, ny, nz⟩)
  clear q1 b1 r1
  go_cut [] from 3 (fun wc => ∃ x y z, Mid w wc H x y z v)
  case first =>
    go_region_with (first
      | (go_at_call_of 9 (Value.slice d.a d.n d.c); refine (CD.out _ (by first | assumption | (repeat (first | exact Q.refl _ | apply Q.drewN | apply Q.drew)))).mono ?_; rintro e wA ⟨x, rfl, qA', qA, rx, nx⟩; have y2 := (B1.out.q qA).c2; have y3 := (B1.out.q qA).c3; have y4 := (B1.out.q qA).c4)
      | (go_at_call_of 9 (Value.slice s.a s.n s.c); refine (CS.out _ (by first | assumption | (repeat (first | exact Q.refl _ | apply Q.drewN | apply Q.drew)))).mono ?_; rintro e wB ⟨y, rfl, qB', qB, ry, ny⟩; have y2 := (B1.out.q qB).c2; have y3 := (B1.out.q qB).c3; have y4 := (B1.out.q qB).c4)
      | (go_at_call_of 9 (Value.slice t.a t.n t.c); refine (CT.out _ (by first | assumption | (repeat (first | exact Q.refl _ | apply Q.drewN | apply Q.drew)))).mono ?_; rintro e wC ⟨z, rfl, qC', qC, rz, nz⟩; have y2 := (B1.out.q qC).c2; have y3 := (B1.out.q qC).c3; have y4 := (B1.out.q qC).c4; have g2 := (B1.out.q qC).free 2; have g3 := (B1.out.q qC).free 3; have g4 := (B1.out.q qC).free 4))
    all_goals
      go_wp2_with fail
      go_meet
      case rel => exact ⟨x, y, z, FIN.out wA wB wC x y z qA qB' qC' rx nx ry ny rz nz⟩
  case rest =>
    obtain ⟨x, y, z, hm⟩ := hcut
    have M := hid hm
    have c5 := hm.b.c5
    have g5 := hm.b.free 5
    have hlt : w.heap.size < wc.heap.size := hm.b.lt
    have hlt1 : w.heap.size + 1 < wc.heap.size := hm.r.lt
    obtain ⟨r, w3, hrun, hrow, hk, hnr⟩ := rowN_all (w := wc) (c := v.c) (HH.out.h.vs.q hm.q) HH.out.h.vl HH.out.nv
    have q3 : Q wc w3 := hk.toQ (fun i hi e => by omega)
    have d5 := (hm.b.q ((Q.refl wc).alloc (.cells #[] 3))).c5
    have e5 := (hm.b.q q3).c5
    have f5 := (hm.b.q q3).free 5
    have hz3 := q3.size
    have K3 := hid q3
    have R3 := hid hrow
    have N3 := hid hnr
    clear hm c2 c3 c4 c5 g5 hk q3 hrow hnr CD CS CT FIN B1
    have ks : Keep (fun i => i = w.heap.size) w3 (w3.setCell ⟨w.heap.size, 5, none⟩ (.slice r.a r.n r.c)) := (Keep.refl (fun i => i = w.heap.size) w3).setCell _ _ _ (.inl rfl)
    have b4 := (M.out.b.q K3.out).vers_ r H.vers
    have r4 : Box (w3.setCell ⟨w.heap.size, 5, none⟩ (.slice r.a r.n r.c)) 26 (w.heap.size + 1) zh nilS nilS nilS nilS := (M.out.r.q K3.out).keep ks (by omega)
    have qw : Q w w3 := M.out.q.trans K3.out
    have H3 := hid (show Holds (w.heap.size + 2) w3 H x y z r from ⟨M.out.rx.q K3.out, M.out.ry.q K3.out, M.out.rz.q K3.out, R3.out, M.out.nx, M.out.ny, M.out.nz, N3.out.mono (by omega)⟩)
    obtain ⟨a0, a1, a2, a3, a4, a5, a6⟩ := b4.all
    have R4 := hid r4
    clear b4 r4
    go_wp2_with (first | (at_builtin; refine Lib.wpList_append_run _ rfl _ _ _ _ rfl _ _ rfl rfl _ _ hrun ?_) | refine wpList_store_row rfl 26 _ _ rfl (w.heap.size + 1) (hcells H x y z r) rfl rfl 26 _ R4.out (hcells_info _ _ _ _ _) rfl (hcells_one _ _ _ _ _) ?_)
    have k5 : Keep (fun i => i = w.heap.size + 1) (w3.setCell ⟨w.heap.size, 5, none⟩ (.slice r.a r.n r.c)) ((w3.setCell ⟨w.heap.size, 5, none⟩ (.slice r.a r.n r.c)).setRow (w.heap.size + 1) (hcells H x y z r)) := (Keep.refl _ _).setRow _ _ (.inl rfl)
    have h5 := (H3.out.keep ks (fun i e => .inl (by omega))).keep k5 (fun i e => .inl (by omega))
    have q4 : Q w (w3.setCell ⟨w.heap.size, 5, none⟩ (.slice r.a r.n r.c)) := ks.below qw qw.size (fun i e => by omega)
    exact ret_hd rfl rfl (w.heap.size + 1) 26 H x y z r rfl (R4.out.row_ _ _ _ _ _) ⟨x, y, z, r, rfl, k5.below q4 q4.size (fun i e => by omega), h5.mono (by omega)⟩
end Go.Proofs.Ytbhhajmfdffdbaa
