/-
  What the law's own copied does: a contract that the statements' walks use. Its region draws its order: loads and calls are gone through in every order that may come up.
-/
import Derived.Test.YtidbimhcebfjfaaDcB
namespace Go.Proofs.Ytidbimhcebfjfaa
open Go.RowKit
set_option linter.unusedVariables false
set_option maxRecDepth 20000

/-- What the four copies are. -/
def Cq (m : Pm) (s : Nat → Sv) (w : World) (i : Nat) : Prop := ∀ u, Q w u → Calls Try.prog 18 #[.slice (s i).a (s i).n (s i).c] u fun e w' => ∃ g, e = .returned (.slice (some ⟨g, 0, none⟩) (s i).n (s i).n) ∧ Q u w' ∧ Own w' u.heap.size (some ⟨g, 0, none⟩) (s i).n (s i).n (m.byt i) ∧ u.heap.size ≤ g
def Cy (pb : Nat) (W : World) (g : Nat) (zs : List Int) : Prop := Seg W (some ⟨g, 0, none⟩) zs ∧ pb + 1 < g
theorem Cy.q {pb g : Nat} {W W' : World} {zs : List Int} (h : Cy pb W g zs) (q : Q W W') : Cy pb W' g zs := ⟨h.1.q q, h.2⟩
theorem wpOp_callx {ops : Array Oper} {i : Nat} {a : Act} {w : World} {K : Act → World → Prop} {R : Exit → Act → World → Prop} (d : Option Tmp) (hi : (ops[i]?).isSome = true) (hd : (ops[i]?).bind (·.dst) = d) (hw : Region.wanted ((ops[i]?).getD default) (yielded ops a.tmps) = true)
    (f : FuncId) (args : Array Value) (hr : (execOp a.eval ((ops[i]?).getD default)).run Try.prog w = .ok (.enter f args) w) {R0 : Ending → World → Prop} (hc : Calls Try.prog f args w R0) (hR : ∀ e w', R0 e w' → ∃ v, e = .returned v ∧ K (a.put d v) w') : wpOp Try.prog ops R i K a w := by
  obtain ⟨o, ho⟩ := Option.isSome_iff_exists.1 hi
  rw [ho] at hd hw hr
  unfold wpOp
  simp only [ho]
  have hw' : Region.wanted o (yielded ops a.tmps) = true := hw
  rw [if_pos hw']
  refine .inl ?_
  unfold Oper.wp
  have hr' : (execOp a.eval o).run Try.prog w = .ok (.enter f args) w := hr
  rw [hr']
  have hd' : o.dst = d := hd
  refine hc.mono ?_
  intro e w' h
  obtain ⟨v, rfl, h2⟩ := hR e w' h
  rw [← hd'] at h2
  exact h2
theorem any_step {ops : Array Oper} {R : Exit → Act → World → Prop} {fuel : Nat} {L L' : Array Bool} {A A' : Act} {w : World} (eL : L = L') (eA : A = A') (h : wpAnyH Try.prog .any ops R (fun _ => True) fuel L' A' w) : True ∧ wpAnyH Try.prog .any ops R (fun _ => True) fuel L A w := by
  rw [eL, eA]; exact ⟨trivial, h⟩
abbrev Fin8 (ops : Array Oper) (R : Exit → Act → World → Prop) (m : Pm) (s : Nat → Sv) (w : World) (pb rb : Nat) : Prop := ∀ (W : World) (g0 g1 g2 g3 : Nat), Q w W → PB W pb m s → Cy pb W g0 (m.byt 0) → Cy pb W g1 (m.byt 2) → Cy pb W g2 (m.byt 15) → Cy pb W g3 (m.byt 16) → wpAnyH Try.prog .any ops R (fun _ => True) 7 #[true, true, true, true, true, true, true, true, true, true, true, true, true, false, false, false, false, false, false, false] ⟨#[.agg (pc m s), .pointer (some ⟨pb, 0, none⟩), .pointer (some ⟨rb, 0, none⟩), .pointer (some ⟨pb, 4, none⟩), sv (s 0), .slice (some ⟨g0, 0, none⟩) (s 0).n (s 0).n, .pointer (some ⟨pb, 5, none⟩), sv (s 2), .slice (some ⟨g1, 0, none⟩) (s 2).n (s 2).n, .pointer (some ⟨pb, 6, none⟩), sv (s 15), .slice (some ⟨g2, 0, none⟩) (s 15).n (s 15).n, .pointer (some ⟨pb, 7, none⟩), sv (s 16), .slice (some ⟨g3, 0, none⟩) (s 16).n (s 16).n, .pointer (some ⟨pb, 4, none⟩), undef, undef, undef, undef], []⟩ W
theorem cs_4_1111_1 (R : Exit → Act → World → Prop) (m : Pm) (s : Nat → Sv) (w : World) (pb rb : Nat) (C0 : Cq m s w 0) (C1 : Cq m s w 2) (C2 : Cq m s w 15) (C3 : Cq m s w 16) (F : Fin8 (RofN Try.f8 1) R m s w pb rb) (hpb : pb + 1 < w.heap.size) (W : World) (g0 g1 g2 g3 : Nat) (hq : Q w W) (hp : PB W pb m s) (y0 : Cy pb W g0 (m.byt 0)) (y1 : Cy pb W g1 (m.byt 2)) (y2 : Cy pb W g2 (m.byt 15)) (y3 : Cy pb W g3 (m.byt 16)) :
    wpAnyH Try.prog .any (RofN Try.f8 1) R (fun _ => True) 7 #[true, true, true, true, true, true, true, true, true, true, true, true, true, false, false, false, false, false, false, false] ⟨#[.agg (pc m s), .pointer (some ⟨pb, 0, none⟩), .pointer (some ⟨rb, 0, none⟩), .pointer (some ⟨pb, 4, none⟩), sv (s 0), .slice (some ⟨g0, 0, none⟩) (s 0).n (s 0).n, .pointer (some ⟨pb, 5, none⟩), sv (s 2), .slice (some ⟨g1, 0, none⟩) (s 2).n (s 2).n, .pointer (some ⟨pb, 6, none⟩), sv (s 15), .slice (some ⟨g2, 0, none⟩) (s 15).n (s 15).n, .pointer (some ⟨pb, 7, none⟩), sv (s 16), .slice (some ⟨g3, 0, none⟩) (s 16).n (s 16).n, .pointer (some ⟨pb, 4, none⟩), undef, undef, undef, undef], []⟩ W := by
  exact F W g0 g1 g2 g3 hq hp y0 y1 y2 y3
theorem cs_3_1111_1 (R : Exit → Act → World → Prop) (m : Pm) (s : Nat → Sv) (w : World) (pb rb : Nat) (C0 : Cq m s w 0) (C1 : Cq m s w 2) (C2 : Cq m s w 15) (C3 : Cq m s w 16) (F : Fin8 (RofN Try.f8 1) R m s w pb rb) (hpb : pb + 1 < w.heap.size) (W : World) (g0 g1 g2 : Nat) (hq : Q w W) (hp : PB W pb m s) (y0 : Cy pb W g0 (m.byt 0)) (y1 : Cy pb W g1 (m.byt 2)) (y2 : Cy pb W g2 (m.byt 15)) :
    wpAnyH Try.prog .any (RofN Try.f8 1) R (fun _ => True) 8 #[true, true, true, true, true, true, true, true, true, true, true, false, true, false, false, false, false, false, false, false] ⟨#[.agg (pc m s), .pointer (some ⟨pb, 0, none⟩), .pointer (some ⟨rb, 0, none⟩), .pointer (some ⟨pb, 4, none⟩), sv (s 0), .slice (some ⟨g0, 0, none⟩) (s 0).n (s 0).n, .pointer (some ⟨pb, 5, none⟩), sv (s 2), .slice (some ⟨g1, 0, none⟩) (s 2).n (s 2).n, .pointer (some ⟨pb, 6, none⟩), sv (s 15), .slice (some ⟨g2, 0, none⟩) (s 15).n (s 15).n, .pointer (some ⟨pb, 7, none⟩), sv (s 16), undef, .pointer (some ⟨pb, 4, none⟩), undef, undef, undef, undef], []⟩ W := by
  refine wpAnyH_all (rs := [11]) (by kernel_rfl) (by simp) ?_
  intro i hi
  obtain rfl : i = 11 := by simpa using hi
  refine wpOp_callx (some 14) (by kernel_rfl) (by kernel_rfl) (by kernel_rfl) 18 #[.slice (s 16).a (s 16).n (s 16).c] (by kernel_rfl) (C3 W hq) ?_
  rintro e w2 ⟨g3, rfl, q2, o2, l2⟩
  exact ⟨_, rfl, any_step (by kernel_rfl) (by kernel_rfl) (cs_4_1111_1 R m s w pb rb C0 C1 C2 C3 F hpb w2 g0 g1 g2 g3 (hq.trans q2) (hp.q q2) (y0.q q2) (y1.q q2) (y2.q q2) ⟨o2.seg, by have := hq.size; omega⟩)⟩
theorem cs_4_1111_0 (R : Exit → Act → World → Prop) (m : Pm) (s : Nat → Sv) (w : World) (pb rb : Nat) (C0 : Cq m s w 0) (C1 : Cq m s w 2) (C2 : Cq m s w 15) (C3 : Cq m s w 16) (F : Fin8 (RofN Try.f8 1) R m s w pb rb) (hpb : pb + 1 < w.heap.size) (W : World) (g0 g1 g2 g3 : Nat) (hq : Q w W) (hp : PB W pb m s) (y0 : Cy pb W g0 (m.byt 0)) (y1 : Cy pb W g1 (m.byt 2)) (y2 : Cy pb W g2 (m.byt 15)) (y3 : Cy pb W g3 (m.byt 16)) :
    wpAnyH Try.prog .any (RofN Try.f8 1) R (fun _ => True) 8 #[true, true, true, true, true, true, true, true, true, true, true, true, false, false, false, false, false, false, false, false] ⟨#[.agg (pc m s), .pointer (some ⟨pb, 0, none⟩), .pointer (some ⟨rb, 0, none⟩), .pointer (some ⟨pb, 4, none⟩), sv (s 0), .slice (some ⟨g0, 0, none⟩) (s 0).n (s 0).n, .pointer (some ⟨pb, 5, none⟩), sv (s 2), .slice (some ⟨g1, 0, none⟩) (s 2).n (s 2).n, .pointer (some ⟨pb, 6, none⟩), sv (s 15), .slice (some ⟨g2, 0, none⟩) (s 15).n (s 15).n, .pointer (some ⟨pb, 7, none⟩), sv (s 16), .slice (some ⟨g3, 0, none⟩) (s 16).n (s 16).n, undef, undef, undef, undef, undef], []⟩ W := by
  refine wpAnyH_all (rs := [12]) (by kernel_rfl) (by simp) ?_
  intro i hi
  obtain rfl : i = 12 := by simpa using hi
  exact wpOp_val (v := .pointer (some ⟨pb, 4, none⟩)) (some 15) (by kernel_rfl) (by kernel_rfl) (by kernel_rfl) (by kernel_rfl) (any_step (by kernel_rfl) (by kernel_rfl) (cs_4_1111_1 R m s w pb rb C0 C1 C2 C3 F hpb W g0 g1 g2 g3 hq hp y0 y1 y2 y3))
theorem cs_2_1111_1 (R : Exit → Act → World → Prop) (m : Pm) (s : Nat → Sv) (w : World) (pb rb : Nat) (C0 : Cq m s w 0) (C1 : Cq m s w 2) (C2 : Cq m s w 15) (C3 : Cq m s w 16) (F : Fin8 (RofN Try.f8 1) R m s w pb rb) (hpb : pb + 1 < w.heap.size) (W : World) (g0 g1 : Nat) (hq : Q w W) (hp : PB W pb m s) (y0 : Cy pb W g0 (m.byt 0)) (y1 : Cy pb W g1 (m.byt 2)) :
    wpAnyH Try.prog .any (RofN Try.f8 1) R (fun _ => True) 9 #[true, true, true, true, true, true, true, true, false, true, true, false, true, false, false, false, false, false, false, false] ⟨#[.agg (pc m s), .pointer (some ⟨pb, 0, none⟩), .pointer (some ⟨rb, 0, none⟩), .pointer (some ⟨pb, 4, none⟩), sv (s 0), .slice (some ⟨g0, 0, none⟩) (s 0).n (s 0).n, .pointer (some ⟨pb, 5, none⟩), sv (s 2), .slice (some ⟨g1, 0, none⟩) (s 2).n (s 2).n, .pointer (some ⟨pb, 6, none⟩), sv (s 15), undef, .pointer (some ⟨pb, 7, none⟩), sv (s 16), undef, .pointer (some ⟨pb, 4, none⟩), undef, undef, undef, undef], []⟩ W := by
  refine wpAnyH_all (rs := [8]) (by kernel_rfl) (by simp) ?_
  intro i hi
  obtain rfl : i = 8 := by simpa using hi
  refine wpOp_callx (some 11) (by kernel_rfl) (by kernel_rfl) (by kernel_rfl) 18 #[.slice (s 15).a (s 15).n (s 15).c] (by kernel_rfl) (C2 W hq) ?_
  rintro e w2 ⟨g2, rfl, q2, o2, l2⟩
  exact ⟨_, rfl, any_step (by kernel_rfl) (by kernel_rfl) (cs_3_1111_1 R m s w pb rb C0 C1 C2 C3 F hpb w2 g0 g1 g2 (hq.trans q2) (hp.q q2) (y0.q q2) (y1.q q2) ⟨o2.seg, by have := hq.size; omega⟩)⟩
theorem cs_3_1111_0 (R : Exit → Act → World → Prop) (m : Pm) (s : Nat → Sv) (w : World) (pb rb : Nat) (C0 : Cq m s w 0) (C1 : Cq m s w 2) (C2 : Cq m s w 15) (C3 : Cq m s w 16) (F : Fin8 (RofN Try.f8 1) R m s w pb rb) (hpb : pb + 1 < w.heap.size) (W : World) (g0 g1 g2 : Nat) (hq : Q w W) (hp : PB W pb m s) (y0 : Cy pb W g0 (m.byt 0)) (y1 : Cy pb W g1 (m.byt 2)) (y2 : Cy pb W g2 (m.byt 15)) :
    wpAnyH Try.prog .any (RofN Try.f8 1) R (fun _ => True) 9 #[true, true, true, true, true, true, true, true, true, true, true, false, false, false, false, false, false, false, false, false] ⟨#[.agg (pc m s), .pointer (some ⟨pb, 0, none⟩), .pointer (some ⟨rb, 0, none⟩), .pointer (some ⟨pb, 4, none⟩), sv (s 0), .slice (some ⟨g0, 0, none⟩) (s 0).n (s 0).n, .pointer (some ⟨pb, 5, none⟩), sv (s 2), .slice (some ⟨g1, 0, none⟩) (s 2).n (s 2).n, .pointer (some ⟨pb, 6, none⟩), sv (s 15), .slice (some ⟨g2, 0, none⟩) (s 15).n (s 15).n, .pointer (some ⟨pb, 7, none⟩), sv (s 16), undef, undef, undef, undef, undef, undef], []⟩ W := by
  refine wpAnyH_all (rs := [11, 12]) (by kernel_rfl) (by simp) ?_
  intro i hi
  rcases (show i = 11 ∨ i = 12 by simpa using hi) with rfl | rfl
  · refine wpOp_callx (some 14) (by kernel_rfl) (by kernel_rfl) (by kernel_rfl) 18 #[.slice (s 16).a (s 16).n (s 16).c] (by kernel_rfl) (C3 W hq) ?_
    rintro e w2 ⟨g3, rfl, q2, o2, l2⟩
    exact ⟨_, rfl, any_step (by kernel_rfl) (by kernel_rfl) (cs_4_1111_0 R m s w pb rb C0 C1 C2 C3 F hpb w2 g0 g1 g2 g3 (hq.trans q2) (hp.q q2) (y0.q q2) (y1.q q2) (y2.q q2) ⟨o2.seg, by have := hq.size; omega⟩)⟩
  · exact wpOp_val (v := .pointer (some ⟨pb, 4, none⟩)) (some 15) (by kernel_rfl) (by kernel_rfl) (by kernel_rfl) (by kernel_rfl) (any_step (by kernel_rfl) (by kernel_rfl) (cs_3_1111_1 R m s w pb rb C0 C1 C2 C3 F hpb W g0 g1 g2 hq hp y0 y1 y2))
theorem cs_1_1111_1 (R : Exit → Act → World → Prop) (m : Pm) (s : Nat → Sv) (w : World) (pb rb : Nat) (C0 : Cq m s w 0) (C1 : Cq m s w 2) (C2 : Cq m s w 15) (C3 : Cq m s w 16) (F : Fin8 (RofN Try.f8 1) R m s w pb rb) (hpb : pb + 1 < w.heap.size) (W : World) (g0 : Nat) (hq : Q w W) (hp : PB W pb m s) (y0 : Cy pb W g0 (m.byt 0)) :
    wpAnyH Try.prog .any (RofN Try.f8 1) R (fun _ => True) 10 #[true, true, true, true, true, false, true, true, false, true, true, false, true, false, false, false, false, false, false, false] ⟨#[.agg (pc m s), .pointer (some ⟨pb, 0, none⟩), .pointer (some ⟨rb, 0, none⟩), .pointer (some ⟨pb, 4, none⟩), sv (s 0), .slice (some ⟨g0, 0, none⟩) (s 0).n (s 0).n, .pointer (some ⟨pb, 5, none⟩), sv (s 2), undef, .pointer (some ⟨pb, 6, none⟩), sv (s 15), undef, .pointer (some ⟨pb, 7, none⟩), sv (s 16), undef, .pointer (some ⟨pb, 4, none⟩), undef, undef, undef, undef], []⟩ W := by
  refine wpAnyH_all (rs := [5]) (by kernel_rfl) (by simp) ?_
  intro i hi
  obtain rfl : i = 5 := by simpa using hi
  refine wpOp_callx (some 8) (by kernel_rfl) (by kernel_rfl) (by kernel_rfl) 18 #[.slice (s 2).a (s 2).n (s 2).c] (by kernel_rfl) (C1 W hq) ?_
  rintro e w2 ⟨g1, rfl, q2, o2, l2⟩
  exact ⟨_, rfl, any_step (by kernel_rfl) (by kernel_rfl) (cs_2_1111_1 R m s w pb rb C0 C1 C2 C3 F hpb w2 g0 g1 (hq.trans q2) (hp.q q2) (y0.q q2) ⟨o2.seg, by have := hq.size; omega⟩)⟩
theorem cs_2_1111_0 (R : Exit → Act → World → Prop) (m : Pm) (s : Nat → Sv) (w : World) (pb rb : Nat) (C0 : Cq m s w 0) (C1 : Cq m s w 2) (C2 : Cq m s w 15) (C3 : Cq m s w 16) (F : Fin8 (RofN Try.f8 1) R m s w pb rb) (hpb : pb + 1 < w.heap.size) (W : World) (g0 g1 : Nat) (hq : Q w W) (hp : PB W pb m s) (y0 : Cy pb W g0 (m.byt 0)) (y1 : Cy pb W g1 (m.byt 2)) :
    wpAnyH Try.prog .any (RofN Try.f8 1) R (fun _ => True) 10 #[true, true, true, true, true, true, true, true, false, true, true, false, false, false, false, false, false, false, false, false] ⟨#[.agg (pc m s), .pointer (some ⟨pb, 0, none⟩), .pointer (some ⟨rb, 0, none⟩), .pointer (some ⟨pb, 4, none⟩), sv (s 0), .slice (some ⟨g0, 0, none⟩) (s 0).n (s 0).n, .pointer (some ⟨pb, 5, none⟩), sv (s 2), .slice (some ⟨g1, 0, none⟩) (s 2).n (s 2).n, .pointer (some ⟨pb, 6, none⟩), sv (s 15), undef, .pointer (some ⟨pb, 7, none⟩), sv (s 16), undef, undef, undef, undef, undef, undef], []⟩ W := by
  refine wpAnyH_all (rs := [8, 12]) (by kernel_rfl) (by simp) ?_
  intro i hi
  rcases (show i = 8 ∨ i = 12 by simpa using hi) with rfl | rfl
  · refine wpOp_callx (some 11) (by kernel_rfl) (by kernel_rfl) (by kernel_rfl) 18 #[.slice (s 15).a (s 15).n (s 15).c] (by kernel_rfl) (C2 W hq) ?_
    rintro e w2 ⟨g2, rfl, q2, o2, l2⟩
    exact ⟨_, rfl, any_step (by kernel_rfl) (by kernel_rfl) (cs_3_1111_0 R m s w pb rb C0 C1 C2 C3 F hpb w2 g0 g1 g2 (hq.trans q2) (hp.q q2) (y0.q q2) (y1.q q2) ⟨o2.seg, by have := hq.size; omega⟩)⟩
  · exact wpOp_val (v := .pointer (some ⟨pb, 4, none⟩)) (some 15) (by kernel_rfl) (by kernel_rfl) (by kernel_rfl) (by kernel_rfl) (any_step (by kernel_rfl) (by kernel_rfl) (cs_2_1111_1 R m s w pb rb C0 C1 C2 C3 F hpb W g0 g1 hq hp y0 y1))
theorem cs_3_1110_0 (R : Exit → Act → World → Prop) (m : Pm) (s : Nat → Sv) (w : World) (pb rb : Nat) (C0 : Cq m s w 0) (C1 : Cq m s w 2) (C2 : Cq m s w 15) (C3 : Cq m s w 16) (F : Fin8 (RofN Try.f8 1) R m s w pb rb) (hpb : pb + 1 < w.heap.size) (W : World) (g0 g1 g2 : Nat) (hq : Q w W) (hp : PB W pb m s) (y0 : Cy pb W g0 (m.byt 0)) (y1 : Cy pb W g1 (m.byt 2)) (y2 : Cy pb W g2 (m.byt 15)) :
    wpAnyH Try.prog .any (RofN Try.f8 1) R (fun _ => True) 10 #[true, true, true, true, true, true, true, true, true, true, false, false, false, false, false, false, false, false, false, false] ⟨#[.agg (pc m s), .pointer (some ⟨pb, 0, none⟩), .pointer (some ⟨rb, 0, none⟩), .pointer (some ⟨pb, 4, none⟩), sv (s 0), .slice (some ⟨g0, 0, none⟩) (s 0).n (s 0).n, .pointer (some ⟨pb, 5, none⟩), sv (s 2), .slice (some ⟨g1, 0, none⟩) (s 2).n (s 2).n, .pointer (some ⟨pb, 6, none⟩), sv (s 15), .slice (some ⟨g2, 0, none⟩) (s 15).n (s 15).n, .pointer (some ⟨pb, 7, none⟩), undef, undef, undef, undef, undef, undef, undef], []⟩ W := by
  refine wpAnyH_all (rs := [10]) (by kernel_rfl) (by simp) ?_
  intro i hi
  obtain rfl : i = 10 := by simpa using hi
  exact wpOp_val (v := sv (s 16)) (some 13) (by kernel_rfl) (by kernel_rfl) (by kernel_rfl) (ld_sl (.tmp 12) pb 7 (s 16) (by kernel_rfl) (by kernel_rfl) (hp.cell rfl)) (any_step (by kernel_rfl) (by kernel_rfl) (cs_3_1111_0 R m s w pb rb C0 C1 C2 C3 F hpb W g0 g1 g2 hq hp y0 y1 y2))
theorem cs_1_1111_0 (R : Exit → Act → World → Prop) (m : Pm) (s : Nat → Sv) (w : World) (pb rb : Nat) (C0 : Cq m s w 0) (C1 : Cq m s w 2) (C2 : Cq m s w 15) (C3 : Cq m s w 16) (F : Fin8 (RofN Try.f8 1) R m s w pb rb) (hpb : pb + 1 < w.heap.size) (W : World) (g0 : Nat) (hq : Q w W) (hp : PB W pb m s) (y0 : Cy pb W g0 (m.byt 0)) :
    wpAnyH Try.prog .any (RofN Try.f8 1) R (fun _ => True) 11 #[true, true, true, true, true, false, true, true, false, true, true, false, false, false, false, false, false, false, false, false] ⟨#[.agg (pc m s), .pointer (some ⟨pb, 0, none⟩), .pointer (some ⟨rb, 0, none⟩), .pointer (some ⟨pb, 4, none⟩), sv (s 0), .slice (some ⟨g0, 0, none⟩) (s 0).n (s 0).n, .pointer (some ⟨pb, 5, none⟩), sv (s 2), undef, .pointer (some ⟨pb, 6, none⟩), sv (s 15), undef, .pointer (some ⟨pb, 7, none⟩), sv (s 16), undef, undef, undef, undef, undef, undef], []⟩ W := by
  refine wpAnyH_all (rs := [5, 12]) (by kernel_rfl) (by simp) ?_
  intro i hi
  rcases (show i = 5 ∨ i = 12 by simpa using hi) with rfl | rfl
  · refine wpOp_callx (some 8) (by kernel_rfl) (by kernel_rfl) (by kernel_rfl) 18 #[.slice (s 2).a (s 2).n (s 2).c] (by kernel_rfl) (C1 W hq) ?_
    rintro e w2 ⟨g1, rfl, q2, o2, l2⟩
    exact ⟨_, rfl, any_step (by kernel_rfl) (by kernel_rfl) (cs_2_1111_0 R m s w pb rb C0 C1 C2 C3 F hpb w2 g0 g1 (hq.trans q2) (hp.q q2) (y0.q q2) ⟨o2.seg, by have := hq.size; omega⟩)⟩
  · exact wpOp_val (v := .pointer (some ⟨pb, 4, none⟩)) (some 15) (by kernel_rfl) (by kernel_rfl) (by kernel_rfl) (by kernel_rfl) (any_step (by kernel_rfl) (by kernel_rfl) (cs_1_1111_1 R m s w pb rb C0 C1 C2 C3 F hpb W g0 hq hp y0))
theorem cs_2_1101_0 (R : Exit → Act → World → Prop) (m : Pm) (s : Nat → Sv) (w : World) (pb rb : Nat) (C0 : Cq m s w 0) (C1 : Cq m s w 2) (C2 : Cq m s w 15) (C3 : Cq m s w 16) (F : Fin8 (RofN Try.f8 1) R m s w pb rb) (hpb : pb + 1 < w.heap.size) (W : World) (g0 g1 : Nat) (hq : Q w W) (hp : PB W pb m s) (y0 : Cy pb W g0 (m.byt 0)) (y1 : Cy pb W g1 (m.byt 2)) :
    wpAnyH Try.prog .any (RofN Try.f8 1) R (fun _ => True) 11 #[true, true, true, true, true, true, true, false, false, true, true, false, false, false, false, false, false, false, false, false] ⟨#[.agg (pc m s), .pointer (some ⟨pb, 0, none⟩), .pointer (some ⟨rb, 0, none⟩), .pointer (some ⟨pb, 4, none⟩), sv (s 0), .slice (some ⟨g0, 0, none⟩) (s 0).n (s 0).n, .pointer (some ⟨pb, 5, none⟩), sv (s 2), .slice (some ⟨g1, 0, none⟩) (s 2).n (s 2).n, .pointer (some ⟨pb, 6, none⟩), undef, undef, .pointer (some ⟨pb, 7, none⟩), sv (s 16), undef, undef, undef, undef, undef, undef], []⟩ W := by
  refine wpAnyH_all (rs := [7]) (by kernel_rfl) (by simp) ?_
  intro i hi
  obtain rfl : i = 7 := by simpa using hi
  exact wpOp_val (v := sv (s 15)) (some 10) (by kernel_rfl) (by kernel_rfl) (by kernel_rfl) (ld_sl (.tmp 9) pb 6 (s 15) (by kernel_rfl) (by kernel_rfl) (hp.cell rfl)) (any_step (by kernel_rfl) (by kernel_rfl) (cs_2_1111_0 R m s w pb rb C0 C1 C2 C3 F hpb W g0 g1 hq hp y0 y1))
theorem cs_2_1110_0 (R : Exit → Act → World → Prop) (m : Pm) (s : Nat → Sv) (w : World) (pb rb : Nat) (C0 : Cq m s w 0) (C1 : Cq m s w 2) (C2 : Cq m s w 15) (C3 : Cq m s w 16) (F : Fin8 (RofN Try.f8 1) R m s w pb rb) (hpb : pb + 1 < w.heap.size) (W : World) (g0 g1 : Nat) (hq : Q w W) (hp : PB W pb m s) (y0 : Cy pb W g0 (m.byt 0)) (y1 : Cy pb W g1 (m.byt 2)) :
    wpAnyH Try.prog .any (RofN Try.f8 1) R (fun _ => True) 11 #[true, true, true, true, true, true, true, true, false, true, false, false, false, false, false, false, false, false, false, false] ⟨#[.agg (pc m s), .pointer (some ⟨pb, 0, none⟩), .pointer (some ⟨rb, 0, none⟩), .pointer (some ⟨pb, 4, none⟩), sv (s 0), .slice (some ⟨g0, 0, none⟩) (s 0).n (s 0).n, .pointer (some ⟨pb, 5, none⟩), sv (s 2), .slice (some ⟨g1, 0, none⟩) (s 2).n (s 2).n, .pointer (some ⟨pb, 6, none⟩), sv (s 15), undef, .pointer (some ⟨pb, 7, none⟩), undef, undef, undef, undef, undef, undef, undef], []⟩ W := by
  refine wpAnyH_all (rs := [8, 10]) (by kernel_rfl) (by simp) ?_
  intro i hi
  rcases (show i = 8 ∨ i = 10 by simpa using hi) with rfl | rfl
  · refine wpOp_callx (some 11) (by kernel_rfl) (by kernel_rfl) (by kernel_rfl) 18 #[.slice (s 15).a (s 15).n (s 15).c] (by kernel_rfl) (C2 W hq) ?_
    rintro e w2 ⟨g2, rfl, q2, o2, l2⟩
    exact ⟨_, rfl, any_step (by kernel_rfl) (by kernel_rfl) (cs_3_1110_0 R m s w pb rb C0 C1 C2 C3 F hpb w2 g0 g1 g2 (hq.trans q2) (hp.q q2) (y0.q q2) (y1.q q2) ⟨o2.seg, by have := hq.size; omega⟩)⟩
  · exact wpOp_val (v := sv (s 16)) (some 13) (by kernel_rfl) (by kernel_rfl) (by kernel_rfl) (ld_sl (.tmp 12) pb 7 (s 16) (by kernel_rfl) (by kernel_rfl) (hp.cell rfl)) (any_step (by kernel_rfl) (by kernel_rfl) (cs_2_1111_0 R m s w pb rb C0 C1 C2 C3 F hpb W g0 g1 hq hp y0 y1))
theorem cs_0_1111_0 (R : Exit → Act → World → Prop) (m : Pm) (s : Nat → Sv) (w : World) (pb rb : Nat) (C0 : Cq m s w 0) (C1 : Cq m s w 2) (C2 : Cq m s w 15) (C3 : Cq m s w 16) (F : Fin8 (RofN Try.f8 1) R m s w pb rb) (hpb : pb + 1 < w.heap.size) (W : World) (hq : Q w W) (hp : PB W pb m s) :
    wpAnyH Try.prog .any (RofN Try.f8 1) R (fun _ => True) 12 #[true, true, false, true, true, false, true, true, false, true, true, false, false, false, false, false, false, false, false, false] ⟨#[.agg (pc m s), .pointer (some ⟨pb, 0, none⟩), .pointer (some ⟨rb, 0, none⟩), .pointer (some ⟨pb, 4, none⟩), sv (s 0), undef, .pointer (some ⟨pb, 5, none⟩), sv (s 2), undef, .pointer (some ⟨pb, 6, none⟩), sv (s 15), undef, .pointer (some ⟨pb, 7, none⟩), sv (s 16), undef, undef, undef, undef, undef, undef], []⟩ W := by
  refine wpAnyH_all (rs := [2]) (by kernel_rfl) (by simp) ?_
  intro i hi
  obtain rfl : i = 2 := by simpa using hi
  refine wpOp_callx (some 5) (by kernel_rfl) (by kernel_rfl) (by kernel_rfl) 18 #[.slice (s 0).a (s 0).n (s 0).c] (by kernel_rfl) (C0 W hq) ?_
  rintro e w2 ⟨g0, rfl, q2, o2, l2⟩
  exact ⟨_, rfl, any_step (by kernel_rfl) (by kernel_rfl) (cs_1_1111_0 R m s w pb rb C0 C1 C2 C3 F hpb w2 g0 (hq.trans q2) (hp.q q2) ⟨o2.seg, by have := hq.size; omega⟩)⟩
theorem cs_1_1011_0 (R : Exit → Act → World → Prop) (m : Pm) (s : Nat → Sv) (w : World) (pb rb : Nat) (C0 : Cq m s w 0) (C1 : Cq m s w 2) (C2 : Cq m s w 15) (C3 : Cq m s w 16) (F : Fin8 (RofN Try.f8 1) R m s w pb rb) (hpb : pb + 1 < w.heap.size) (W : World) (g0 : Nat) (hq : Q w W) (hp : PB W pb m s) (y0 : Cy pb W g0 (m.byt 0)) :
    wpAnyH Try.prog .any (RofN Try.f8 1) R (fun _ => True) 12 #[true, true, true, true, false, false, true, true, false, true, true, false, false, false, false, false, false, false, false, false] ⟨#[.agg (pc m s), .pointer (some ⟨pb, 0, none⟩), .pointer (some ⟨rb, 0, none⟩), .pointer (some ⟨pb, 4, none⟩), sv (s 0), .slice (some ⟨g0, 0, none⟩) (s 0).n (s 0).n, .pointer (some ⟨pb, 5, none⟩), undef, undef, .pointer (some ⟨pb, 6, none⟩), sv (s 15), undef, .pointer (some ⟨pb, 7, none⟩), sv (s 16), undef, undef, undef, undef, undef, undef], []⟩ W := by
  refine wpAnyH_all (rs := [4]) (by kernel_rfl) (by simp) ?_
  intro i hi
  obtain rfl : i = 4 := by simpa using hi
  exact wpOp_val (v := sv (s 2)) (some 7) (by kernel_rfl) (by kernel_rfl) (by kernel_rfl) (ld_sl (.tmp 6) pb 5 (s 2) (by kernel_rfl) (by kernel_rfl) (hp.cell rfl)) (any_step (by kernel_rfl) (by kernel_rfl) (cs_1_1111_0 R m s w pb rb C0 C1 C2 C3 F hpb W g0 hq hp y0))
theorem cs_1_1101_0 (R : Exit → Act → World → Prop) (m : Pm) (s : Nat → Sv) (w : World) (pb rb : Nat) (C0 : Cq m s w 0) (C1 : Cq m s w 2) (C2 : Cq m s w 15) (C3 : Cq m s w 16) (F : Fin8 (RofN Try.f8 1) R m s w pb rb) (hpb : pb + 1 < w.heap.size) (W : World) (g0 : Nat) (hq : Q w W) (hp : PB W pb m s) (y0 : Cy pb W g0 (m.byt 0)) :
    wpAnyH Try.prog .any (RofN Try.f8 1) R (fun _ => True) 12 #[true, true, true, true, true, false, true, false, false, true, true, false, false, false, false, false, false, false, false, false] ⟨#[.agg (pc m s), .pointer (some ⟨pb, 0, none⟩), .pointer (some ⟨rb, 0, none⟩), .pointer (some ⟨pb, 4, none⟩), sv (s 0), .slice (some ⟨g0, 0, none⟩) (s 0).n (s 0).n, .pointer (some ⟨pb, 5, none⟩), sv (s 2), undef, .pointer (some ⟨pb, 6, none⟩), undef, undef, .pointer (some ⟨pb, 7, none⟩), sv (s 16), undef, undef, undef, undef, undef, undef], []⟩ W := by
  refine wpAnyH_all (rs := [5, 7]) (by kernel_rfl) (by simp) ?_
  intro i hi
  rcases (show i = 5 ∨ i = 7 by simpa using hi) with rfl | rfl
  · refine wpOp_callx (some 8) (by kernel_rfl) (by kernel_rfl) (by kernel_rfl) 18 #[.slice (s 2).a (s 2).n (s 2).c] (by kernel_rfl) (C1 W hq) ?_
    rintro e w2 ⟨g1, rfl, q2, o2, l2⟩
    exact ⟨_, rfl, any_step (by kernel_rfl) (by kernel_rfl) (cs_2_1101_0 R m s w pb rb C0 C1 C2 C3 F hpb w2 g0 g1 (hq.trans q2) (hp.q q2) (y0.q q2) ⟨o2.seg, by have := hq.size; omega⟩)⟩
  · exact wpOp_val (v := sv (s 15)) (some 10) (by kernel_rfl) (by kernel_rfl) (by kernel_rfl) (ld_sl (.tmp 9) pb 6 (s 15) (by kernel_rfl) (by kernel_rfl) (hp.cell rfl)) (any_step (by kernel_rfl) (by kernel_rfl) (cs_1_1111_0 R m s w pb rb C0 C1 C2 C3 F hpb W g0 hq hp y0))
theorem cs_1_1110_0 (R : Exit → Act → World → Prop) (m : Pm) (s : Nat → Sv) (w : World) (pb rb : Nat) (C0 : Cq m s w 0) (C1 : Cq m s w 2) (C2 : Cq m s w 15) (C3 : Cq m s w 16) (F : Fin8 (RofN Try.f8 1) R m s w pb rb) (hpb : pb + 1 < w.heap.size) (W : World) (g0 : Nat) (hq : Q w W) (hp : PB W pb m s) (y0 : Cy pb W g0 (m.byt 0)) :
    wpAnyH Try.prog .any (RofN Try.f8 1) R (fun _ => True) 12 #[true, true, true, true, true, false, true, true, false, true, false, false, false, false, false, false, false, false, false, false] ⟨#[.agg (pc m s), .pointer (some ⟨pb, 0, none⟩), .pointer (some ⟨rb, 0, none⟩), .pointer (some ⟨pb, 4, none⟩), sv (s 0), .slice (some ⟨g0, 0, none⟩) (s 0).n (s 0).n, .pointer (some ⟨pb, 5, none⟩), sv (s 2), undef, .pointer (some ⟨pb, 6, none⟩), sv (s 15), undef, .pointer (some ⟨pb, 7, none⟩), undef, undef, undef, undef, undef, undef, undef], []⟩ W := by
  refine wpAnyH_all (rs := [5, 10]) (by kernel_rfl) (by simp) ?_
  intro i hi
  rcases (show i = 5 ∨ i = 10 by simpa using hi) with rfl | rfl
  · refine wpOp_callx (some 8) (by kernel_rfl) (by kernel_rfl) (by kernel_rfl) 18 #[.slice (s 2).a (s 2).n (s 2).c] (by kernel_rfl) (C1 W hq) ?_
    rintro e w2 ⟨g1, rfl, q2, o2, l2⟩
    exact ⟨_, rfl, any_step (by kernel_rfl) (by kernel_rfl) (cs_2_1110_0 R m s w pb rb C0 C1 C2 C3 F hpb w2 g0 g1 (hq.trans q2) (hp.q q2) (y0.q q2) ⟨o2.seg, by have := hq.size; omega⟩)⟩
  · exact wpOp_val (v := sv (s 16)) (some 13) (by kernel_rfl) (by kernel_rfl) (by kernel_rfl) (ld_sl (.tmp 12) pb 7 (s 16) (by kernel_rfl) (by kernel_rfl) (hp.cell rfl)) (any_step (by kernel_rfl) (by kernel_rfl) (cs_1_1111_0 R m s w pb rb C0 C1 C2 C3 F hpb W g0 hq hp y0))
theorem cs_2_1100_0 (R : Exit → Act → World → Prop) (m : Pm) (s : Nat → Sv) (w : World) (pb rb : Nat) (C0 : Cq m s w 0) (C1 : Cq m s w 2) (C2 : Cq m s w 15) (C3 : Cq m s w 16) (F : Fin8 (RofN Try.f8 1) R m s w pb rb) (hpb : pb + 1 < w.heap.size) (W : World) (g0 g1 : Nat) (hq : Q w W) (hp : PB W pb m s) (y0 : Cy pb W g0 (m.byt 0)) (y1 : Cy pb W g1 (m.byt 2)) :
    wpAnyH Try.prog .any (RofN Try.f8 1) R (fun _ => True) 12 #[true, true, true, true, true, true, true, false, false, true, false, false, false, false, false, false, false, false, false, false] ⟨#[.agg (pc m s), .pointer (some ⟨pb, 0, none⟩), .pointer (some ⟨rb, 0, none⟩), .pointer (some ⟨pb, 4, none⟩), sv (s 0), .slice (some ⟨g0, 0, none⟩) (s 0).n (s 0).n, .pointer (some ⟨pb, 5, none⟩), sv (s 2), .slice (some ⟨g1, 0, none⟩) (s 2).n (s 2).n, .pointer (some ⟨pb, 6, none⟩), undef, undef, .pointer (some ⟨pb, 7, none⟩), undef, undef, undef, undef, undef, undef, undef], []⟩ W := by
  refine wpAnyH_all (rs := [7, 10]) (by kernel_rfl) (by simp) ?_
  intro i hi
  rcases (show i = 7 ∨ i = 10 by simpa using hi) with rfl | rfl
  · exact wpOp_val (v := sv (s 15)) (some 10) (by kernel_rfl) (by kernel_rfl) (by kernel_rfl) (ld_sl (.tmp 9) pb 6 (s 15) (by kernel_rfl) (by kernel_rfl) (hp.cell rfl)) (any_step (by kernel_rfl) (by kernel_rfl) (cs_2_1110_0 R m s w pb rb C0 C1 C2 C3 F hpb W g0 g1 hq hp y0 y1))
  · exact wpOp_val (v := sv (s 16)) (some 13) (by kernel_rfl) (by kernel_rfl) (by kernel_rfl) (ld_sl (.tmp 12) pb 7 (s 16) (by kernel_rfl) (by kernel_rfl) (hp.cell rfl)) (any_step (by kernel_rfl) (by kernel_rfl) (cs_2_1101_0 R m s w pb rb C0 C1 C2 C3 F hpb W g0 g1 hq hp y0 y1))
theorem cs_0_0111_0 (R : Exit → Act → World → Prop) (m : Pm) (s : Nat → Sv) (w : World) (pb rb : Nat) (C0 : Cq m s w 0) (C1 : Cq m s w 2) (C2 : Cq m s w 15) (C3 : Cq m s w 16) (F : Fin8 (RofN Try.f8 1) R m s w pb rb) (hpb : pb + 1 < w.heap.size) (W : World) (hq : Q w W) (hp : PB W pb m s) :
    wpAnyH Try.prog .any (RofN Try.f8 1) R (fun _ => True) 13 #[true, false, false, true, true, false, true, true, false, true, true, false, false, false, false, false, false, false, false, false] ⟨#[.agg (pc m s), .pointer (some ⟨pb, 0, none⟩), .pointer (some ⟨rb, 0, none⟩), .pointer (some ⟨pb, 4, none⟩), undef, undef, .pointer (some ⟨pb, 5, none⟩), sv (s 2), undef, .pointer (some ⟨pb, 6, none⟩), sv (s 15), undef, .pointer (some ⟨pb, 7, none⟩), sv (s 16), undef, undef, undef, undef, undef, undef], []⟩ W := by
  refine wpAnyH_all (rs := [1]) (by kernel_rfl) (by simp) ?_
  intro i hi
  obtain rfl : i = 1 := by simpa using hi
  exact wpOp_val (v := sv (s 0)) (some 4) (by kernel_rfl) (by kernel_rfl) (by kernel_rfl) (ld_sl (.tmp 3) pb 4 (s 0) (by kernel_rfl) (by kernel_rfl) (hp.cell rfl)) (any_step (by kernel_rfl) (by kernel_rfl) (cs_0_1111_0 R m s w pb rb C0 C1 C2 C3 F hpb W hq hp))
theorem cs_0_1011_0 (R : Exit → Act → World → Prop) (m : Pm) (s : Nat → Sv) (w : World) (pb rb : Nat) (C0 : Cq m s w 0) (C1 : Cq m s w 2) (C2 : Cq m s w 15) (C3 : Cq m s w 16) (F : Fin8 (RofN Try.f8 1) R m s w pb rb) (hpb : pb + 1 < w.heap.size) (W : World) (hq : Q w W) (hp : PB W pb m s) :
    wpAnyH Try.prog .any (RofN Try.f8 1) R (fun _ => True) 13 #[true, true, false, true, false, false, true, true, false, true, true, false, false, false, false, false, false, false, false, false] ⟨#[.agg (pc m s), .pointer (some ⟨pb, 0, none⟩), .pointer (some ⟨rb, 0, none⟩), .pointer (some ⟨pb, 4, none⟩), sv (s 0), undef, .pointer (some ⟨pb, 5, none⟩), undef, undef, .pointer (some ⟨pb, 6, none⟩), sv (s 15), undef, .pointer (some ⟨pb, 7, none⟩), sv (s 16), undef, undef, undef, undef, undef, undef], []⟩ W := by
  refine wpAnyH_all (rs := [2, 4]) (by kernel_rfl) (by simp) ?_
  intro i hi
  rcases (show i = 2 ∨ i = 4 by simpa using hi) with rfl | rfl
  · refine wpOp_callx (some 5) (by kernel_rfl) (by kernel_rfl) (by kernel_rfl) 18 #[.slice (s 0).a (s 0).n (s 0).c] (by kernel_rfl) (C0 W hq) ?_
    rintro e w2 ⟨g0, rfl, q2, o2, l2⟩
    exact ⟨_, rfl, any_step (by kernel_rfl) (by kernel_rfl) (cs_1_1011_0 R m s w pb rb C0 C1 C2 C3 F hpb w2 g0 (hq.trans q2) (hp.q q2) ⟨o2.seg, by have := hq.size; omega⟩)⟩
  · exact wpOp_val (v := sv (s 2)) (some 7) (by kernel_rfl) (by kernel_rfl) (by kernel_rfl) (ld_sl (.tmp 6) pb 5 (s 2) (by kernel_rfl) (by kernel_rfl) (hp.cell rfl)) (any_step (by kernel_rfl) (by kernel_rfl) (cs_0_1111_0 R m s w pb rb C0 C1 C2 C3 F hpb W hq hp))
theorem cs_0_1101_0 (R : Exit → Act → World → Prop) (m : Pm) (s : Nat → Sv) (w : World) (pb rb : Nat) (C0 : Cq m s w 0) (C1 : Cq m s w 2) (C2 : Cq m s w 15) (C3 : Cq m s w 16) (F : Fin8 (RofN Try.f8 1) R m s w pb rb) (hpb : pb + 1 < w.heap.size) (W : World) (hq : Q w W) (hp : PB W pb m s) :
    wpAnyH Try.prog .any (RofN Try.f8 1) R (fun _ => True) 13 #[true, true, false, true, true, false, true, false, false, true, true, false, false, false, false, false, false, false, false, false] ⟨#[.agg (pc m s), .pointer (some ⟨pb, 0, none⟩), .pointer (some ⟨rb, 0, none⟩), .pointer (some ⟨pb, 4, none⟩), sv (s 0), undef, .pointer (some ⟨pb, 5, none⟩), sv (s 2), undef, .pointer (some ⟨pb, 6, none⟩), undef, undef, .pointer (some ⟨pb, 7, none⟩), sv (s 16), undef, undef, undef, undef, undef, undef], []⟩ W := by
  refine wpAnyH_all (rs := [2, 7]) (by kernel_rfl) (by simp) ?_
  intro i hi
  rcases (show i = 2 ∨ i = 7 by simpa using hi) with rfl | rfl
  · refine wpOp_callx (some 5) (by kernel_rfl) (by kernel_rfl) (by kernel_rfl) 18 #[.slice (s 0).a (s 0).n (s 0).c] (by kernel_rfl) (C0 W hq) ?_
    rintro e w2 ⟨g0, rfl, q2, o2, l2⟩
    exact ⟨_, rfl, any_step (by kernel_rfl) (by kernel_rfl) (cs_1_1101_0 R m s w pb rb C0 C1 C2 C3 F hpb w2 g0 (hq.trans q2) (hp.q q2) ⟨o2.seg, by have := hq.size; omega⟩)⟩
  · exact wpOp_val (v := sv (s 15)) (some 10) (by kernel_rfl) (by kernel_rfl) (by kernel_rfl) (ld_sl (.tmp 9) pb 6 (s 15) (by kernel_rfl) (by kernel_rfl) (hp.cell rfl)) (any_step (by kernel_rfl) (by kernel_rfl) (cs_0_1111_0 R m s w pb rb C0 C1 C2 C3 F hpb W hq hp))
theorem cs_0_1110_0 (R : Exit → Act → World → Prop) (m : Pm) (s : Nat → Sv) (w : World) (pb rb : Nat) (C0 : Cq m s w 0) (C1 : Cq m s w 2) (C2 : Cq m s w 15) (C3 : Cq m s w 16) (F : Fin8 (RofN Try.f8 1) R m s w pb rb) (hpb : pb + 1 < w.heap.size) (W : World) (hq : Q w W) (hp : PB W pb m s) :
    wpAnyH Try.prog .any (RofN Try.f8 1) R (fun _ => True) 13 #[true, true, false, true, true, false, true, true, false, true, false, false, false, false, false, false, false, false, false, false] ⟨#[.agg (pc m s), .pointer (some ⟨pb, 0, none⟩), .pointer (some ⟨rb, 0, none⟩), .pointer (some ⟨pb, 4, none⟩), sv (s 0), undef, .pointer (some ⟨pb, 5, none⟩), sv (s 2), undef, .pointer (some ⟨pb, 6, none⟩), sv (s 15), undef, .pointer (some ⟨pb, 7, none⟩), undef, undef, undef, undef, undef, undef, undef], []⟩ W := by
  refine wpAnyH_all (rs := [2, 10]) (by kernel_rfl) (by simp) ?_
  intro i hi
  rcases (show i = 2 ∨ i = 10 by simpa using hi) with rfl | rfl
  · refine wpOp_callx (some 5) (by kernel_rfl) (by kernel_rfl) (by kernel_rfl) 18 #[.slice (s 0).a (s 0).n (s 0).c] (by kernel_rfl) (C0 W hq) ?_
    rintro e w2 ⟨g0, rfl, q2, o2, l2⟩
    exact ⟨_, rfl, any_step (by kernel_rfl) (by kernel_rfl) (cs_1_1110_0 R m s w pb rb C0 C1 C2 C3 F hpb w2 g0 (hq.trans q2) (hp.q q2) ⟨o2.seg, by have := hq.size; omega⟩)⟩
  · exact wpOp_val (v := sv (s 16)) (some 13) (by kernel_rfl) (by kernel_rfl) (by kernel_rfl) (ld_sl (.tmp 12) pb 7 (s 16) (by kernel_rfl) (by kernel_rfl) (hp.cell rfl)) (any_step (by kernel_rfl) (by kernel_rfl) (cs_0_1111_0 R m s w pb rb C0 C1 C2 C3 F hpb W hq hp))
theorem cs_1_1001_0 (R : Exit → Act → World → Prop) (m : Pm) (s : Nat → Sv) (w : World) (pb rb : Nat) (C0 : Cq m s w 0) (C1 : Cq m s w 2) (C2 : Cq m s w 15) (C3 : Cq m s w 16) (F : Fin8 (RofN Try.f8 1) R m s w pb rb) (hpb : pb + 1 < w.heap.size) (W : World) (g0 : Nat) (hq : Q w W) (hp : PB W pb m s) (y0 : Cy pb W g0 (m.byt 0)) :
    wpAnyH Try.prog .any (RofN Try.f8 1) R (fun _ => True) 13 #[true, true, true, true, false, false, true, false, false, true, true, false, false, false, false, false, false, false, false, false] ⟨#[.agg (pc m s), .pointer (some ⟨pb, 0, none⟩), .pointer (some ⟨rb, 0, none⟩), .pointer (some ⟨pb, 4, none⟩), sv (s 0), .slice (some ⟨g0, 0, none⟩) (s 0).n (s 0).n, .pointer (some ⟨pb, 5, none⟩), undef, undef, .pointer (some ⟨pb, 6, none⟩), undef, undef, .pointer (some ⟨pb, 7, none⟩), sv (s 16), undef, undef, undef, undef, undef, undef], []⟩ W := by
  refine wpAnyH_all (rs := [4, 7]) (by kernel_rfl) (by simp) ?_
  intro i hi
  rcases (show i = 4 ∨ i = 7 by simpa using hi) with rfl | rfl
  · exact wpOp_val (v := sv (s 2)) (some 7) (by kernel_rfl) (by kernel_rfl) (by kernel_rfl) (ld_sl (.tmp 6) pb 5 (s 2) (by kernel_rfl) (by kernel_rfl) (hp.cell rfl)) (any_step (by kernel_rfl) (by kernel_rfl) (cs_1_1101_0 R m s w pb rb C0 C1 C2 C3 F hpb W g0 hq hp y0))
  · exact wpOp_val (v := sv (s 15)) (some 10) (by kernel_rfl) (by kernel_rfl) (by kernel_rfl) (ld_sl (.tmp 9) pb 6 (s 15) (by kernel_rfl) (by kernel_rfl) (hp.cell rfl)) (any_step (by kernel_rfl) (by kernel_rfl) (cs_1_1011_0 R m s w pb rb C0 C1 C2 C3 F hpb W g0 hq hp y0))
theorem cs_1_1010_0 (R : Exit → Act → World → Prop) (m : Pm) (s : Nat → Sv) (w : World) (pb rb : Nat) (C0 : Cq m s w 0) (C1 : Cq m s w 2) (C2 : Cq m s w 15) (C3 : Cq m s w 16) (F : Fin8 (RofN Try.f8 1) R m s w pb rb) (hpb : pb + 1 < w.heap.size) (W : World) (g0 : Nat) (hq : Q w W) (hp : PB W pb m s) (y0 : Cy pb W g0 (m.byt 0)) :
    wpAnyH Try.prog .any (RofN Try.f8 1) R (fun _ => True) 13 #[true, true, true, true, false, false, true, true, false, true, false, false, false, false, false, false, false, false, false, false] ⟨#[.agg (pc m s), .pointer (some ⟨pb, 0, none⟩), .pointer (some ⟨rb, 0, none⟩), .pointer (some ⟨pb, 4, none⟩), sv (s 0), .slice (some ⟨g0, 0, none⟩) (s 0).n (s 0).n, .pointer (some ⟨pb, 5, none⟩), undef, undef, .pointer (some ⟨pb, 6, none⟩), sv (s 15), undef, .pointer (some ⟨pb, 7, none⟩), undef, undef, undef, undef, undef, undef, undef], []⟩ W := by
  refine wpAnyH_all (rs := [4, 10]) (by kernel_rfl) (by simp) ?_
  intro i hi
  rcases (show i = 4 ∨ i = 10 by simpa using hi) with rfl | rfl
  · exact wpOp_val (v := sv (s 2)) (some 7) (by kernel_rfl) (by kernel_rfl) (by kernel_rfl) (ld_sl (.tmp 6) pb 5 (s 2) (by kernel_rfl) (by kernel_rfl) (hp.cell rfl)) (any_step (by kernel_rfl) (by kernel_rfl) (cs_1_1110_0 R m s w pb rb C0 C1 C2 C3 F hpb W g0 hq hp y0))
  · exact wpOp_val (v := sv (s 16)) (some 13) (by kernel_rfl) (by kernel_rfl) (by kernel_rfl) (ld_sl (.tmp 12) pb 7 (s 16) (by kernel_rfl) (by kernel_rfl) (hp.cell rfl)) (any_step (by kernel_rfl) (by kernel_rfl) (cs_1_1011_0 R m s w pb rb C0 C1 C2 C3 F hpb W g0 hq hp y0))
theorem cs_1_1100_0 (R : Exit → Act → World → Prop) (m : Pm) (s : Nat → Sv) (w : World) (pb rb : Nat) (C0 : Cq m s w 0) (C1 : Cq m s w 2) (C2 : Cq m s w 15) (C3 : Cq m s w 16) (F : Fin8 (RofN Try.f8 1) R m s w pb rb) (hpb : pb + 1 < w.heap.size) (W : World) (g0 : Nat) (hq : Q w W) (hp : PB W pb m s) (y0 : Cy pb W g0 (m.byt 0)) :
    wpAnyH Try.prog .any (RofN Try.f8 1) R (fun _ => True) 13 #[true, true, true, true, true, false, true, false, false, true, false, false, false, false, false, false, false, false, false, false] ⟨#[.agg (pc m s), .pointer (some ⟨pb, 0, none⟩), .pointer (some ⟨rb, 0, none⟩), .pointer (some ⟨pb, 4, none⟩), sv (s 0), .slice (some ⟨g0, 0, none⟩) (s 0).n (s 0).n, .pointer (some ⟨pb, 5, none⟩), sv (s 2), undef, .pointer (some ⟨pb, 6, none⟩), undef, undef, .pointer (some ⟨pb, 7, none⟩), undef, undef, undef, undef, undef, undef, undef], []⟩ W := by
  refine wpAnyH_all (rs := [5, 7, 10]) (by kernel_rfl) (by simp) ?_
  intro i hi
  rcases (show i = 5 ∨ i = 7 ∨ i = 10 by simpa using hi) with rfl | rfl | rfl
  · refine wpOp_callx (some 8) (by kernel_rfl) (by kernel_rfl) (by kernel_rfl) 18 #[.slice (s 2).a (s 2).n (s 2).c] (by kernel_rfl) (C1 W hq) ?_
    rintro e w2 ⟨g1, rfl, q2, o2, l2⟩
    exact ⟨_, rfl, any_step (by kernel_rfl) (by kernel_rfl) (cs_2_1100_0 R m s w pb rb C0 C1 C2 C3 F hpb w2 g0 g1 (hq.trans q2) (hp.q q2) (y0.q q2) ⟨o2.seg, by have := hq.size; omega⟩)⟩
  · exact wpOp_val (v := sv (s 15)) (some 10) (by kernel_rfl) (by kernel_rfl) (by kernel_rfl) (ld_sl (.tmp 9) pb 6 (s 15) (by kernel_rfl) (by kernel_rfl) (hp.cell rfl)) (any_step (by kernel_rfl) (by kernel_rfl) (cs_1_1110_0 R m s w pb rb C0 C1 C2 C3 F hpb W g0 hq hp y0))
  · exact wpOp_val (v := sv (s 16)) (some 13) (by kernel_rfl) (by kernel_rfl) (by kernel_rfl) (ld_sl (.tmp 12) pb 7 (s 16) (by kernel_rfl) (by kernel_rfl) (hp.cell rfl)) (any_step (by kernel_rfl) (by kernel_rfl) (cs_1_1101_0 R m s w pb rb C0 C1 C2 C3 F hpb W g0 hq hp y0))
theorem cs_0_0011_0 (R : Exit → Act → World → Prop) (m : Pm) (s : Nat → Sv) (w : World) (pb rb : Nat) (C0 : Cq m s w 0) (C1 : Cq m s w 2) (C2 : Cq m s w 15) (C3 : Cq m s w 16) (F : Fin8 (RofN Try.f8 1) R m s w pb rb) (hpb : pb + 1 < w.heap.size) (W : World) (hq : Q w W) (hp : PB W pb m s) :
    wpAnyH Try.prog .any (RofN Try.f8 1) R (fun _ => True) 14 #[true, false, false, true, false, false, true, true, false, true, true, false, false, false, false, false, false, false, false, false] ⟨#[.agg (pc m s), .pointer (some ⟨pb, 0, none⟩), .pointer (some ⟨rb, 0, none⟩), .pointer (some ⟨pb, 4, none⟩), undef, undef, .pointer (some ⟨pb, 5, none⟩), undef, undef, .pointer (some ⟨pb, 6, none⟩), sv (s 15), undef, .pointer (some ⟨pb, 7, none⟩), sv (s 16), undef, undef, undef, undef, undef, undef], []⟩ W := by
  refine wpAnyH_all (rs := [1, 4]) (by kernel_rfl) (by simp) ?_
  intro i hi
  rcases (show i = 1 ∨ i = 4 by simpa using hi) with rfl | rfl
  · exact wpOp_val (v := sv (s 0)) (some 4) (by kernel_rfl) (by kernel_rfl) (by kernel_rfl) (ld_sl (.tmp 3) pb 4 (s 0) (by kernel_rfl) (by kernel_rfl) (hp.cell rfl)) (any_step (by kernel_rfl) (by kernel_rfl) (cs_0_1011_0 R m s w pb rb C0 C1 C2 C3 F hpb W hq hp))
  · exact wpOp_val (v := sv (s 2)) (some 7) (by kernel_rfl) (by kernel_rfl) (by kernel_rfl) (ld_sl (.tmp 6) pb 5 (s 2) (by kernel_rfl) (by kernel_rfl) (hp.cell rfl)) (any_step (by kernel_rfl) (by kernel_rfl) (cs_0_0111_0 R m s w pb rb C0 C1 C2 C3 F hpb W hq hp))
theorem cs_0_0101_0 (R : Exit → Act → World → Prop) (m : Pm) (s : Nat → Sv) (w : World) (pb rb : Nat) (C0 : Cq m s w 0) (C1 : Cq m s w 2) (C2 : Cq m s w 15) (C3 : Cq m s w 16) (F : Fin8 (RofN Try.f8 1) R m s w pb rb) (hpb : pb + 1 < w.heap.size) (W : World) (hq : Q w W) (hp : PB W pb m s) :
    wpAnyH Try.prog .any (RofN Try.f8 1) R (fun _ => True) 14 #[true, false, false, true, true, false, true, false, false, true, true, false, false, false, false, false, false, false, false, false] ⟨#[.agg (pc m s), .pointer (some ⟨pb, 0, none⟩), .pointer (some ⟨rb, 0, none⟩), .pointer (some ⟨pb, 4, none⟩), undef, undef, .pointer (some ⟨pb, 5, none⟩), sv (s 2), undef, .pointer (some ⟨pb, 6, none⟩), undef, undef, .pointer (some ⟨pb, 7, none⟩), sv (s 16), undef, undef, undef, undef, undef, undef], []⟩ W := by
  refine wpAnyH_all (rs := [1, 7]) (by kernel_rfl) (by simp) ?_
  intro i hi
  rcases (show i = 1 ∨ i = 7 by simpa using hi) with rfl | rfl
  · exact wpOp_val (v := sv (s 0)) (some 4) (by kernel_rfl) (by kernel_rfl) (by kernel_rfl) (ld_sl (.tmp 3) pb 4 (s 0) (by kernel_rfl) (by kernel_rfl) (hp.cell rfl)) (any_step (by kernel_rfl) (by kernel_rfl) (cs_0_1101_0 R m s w pb rb C0 C1 C2 C3 F hpb W hq hp))
  · exact wpOp_val (v := sv (s 15)) (some 10) (by kernel_rfl) (by kernel_rfl) (by kernel_rfl) (ld_sl (.tmp 9) pb 6 (s 15) (by kernel_rfl) (by kernel_rfl) (hp.cell rfl)) (any_step (by kernel_rfl) (by kernel_rfl) (cs_0_0111_0 R m s w pb rb C0 C1 C2 C3 F hpb W hq hp))
theorem cs_0_0110_0 (R : Exit → Act → World → Prop) (m : Pm) (s : Nat → Sv) (w : World) (pb rb : Nat) (C0 : Cq m s w 0) (C1 : Cq m s w 2) (C2 : Cq m s w 15) (C3 : Cq m s w 16) (F : Fin8 (RofN Try.f8 1) R m s w pb rb) (hpb : pb + 1 < w.heap.size) (W : World) (hq : Q w W) (hp : PB W pb m s) :
    wpAnyH Try.prog .any (RofN Try.f8 1) R (fun _ => True) 14 #[true, false, false, true, true, false, true, true, false, true, false, false, false, false, false, false, false, false, false, false] ⟨#[.agg (pc m s), .pointer (some ⟨pb, 0, none⟩), .pointer (some ⟨rb, 0, none⟩), .pointer (some ⟨pb, 4, none⟩), undef, undef, .pointer (some ⟨pb, 5, none⟩), sv (s 2), undef, .pointer (some ⟨pb, 6, none⟩), sv (s 15), undef, .pointer (some ⟨pb, 7, none⟩), undef, undef, undef, undef, undef, undef, undef], []⟩ W := by
  refine wpAnyH_all (rs := [1, 10]) (by kernel_rfl) (by simp) ?_
  intro i hi
  rcases (show i = 1 ∨ i = 10 by simpa using hi) with rfl | rfl
  · exact wpOp_val (v := sv (s 0)) (some 4) (by kernel_rfl) (by kernel_rfl) (by kernel_rfl) (ld_sl (.tmp 3) pb 4 (s 0) (by kernel_rfl) (by kernel_rfl) (hp.cell rfl)) (any_step (by kernel_rfl) (by kernel_rfl) (cs_0_1110_0 R m s w pb rb C0 C1 C2 C3 F hpb W hq hp))
  · exact wpOp_val (v := sv (s 16)) (some 13) (by kernel_rfl) (by kernel_rfl) (by kernel_rfl) (ld_sl (.tmp 12) pb 7 (s 16) (by kernel_rfl) (by kernel_rfl) (hp.cell rfl)) (any_step (by kernel_rfl) (by kernel_rfl) (cs_0_0111_0 R m s w pb rb C0 C1 C2 C3 F hpb W hq hp))
theorem cs_0_1001_0 (R : Exit → Act → World → Prop) (m : Pm) (s : Nat → Sv) (w : World) (pb rb : Nat) (C0 : Cq m s w 0) (C1 : Cq m s w 2) (C2 : Cq m s w 15) (C3 : Cq m s w 16) (F : Fin8 (RofN Try.f8 1) R m s w pb rb) (hpb : pb + 1 < w.heap.size) (W : World) (hq : Q w W) (hp : PB W pb m s) :
    wpAnyH Try.prog .any (RofN Try.f8 1) R (fun _ => True) 14 #[true, true, false, true, false, false, true, false, false, true, true, false, false, false, false, false, false, false, false, false] ⟨#[.agg (pc m s), .pointer (some ⟨pb, 0, none⟩), .pointer (some ⟨rb, 0, none⟩), .pointer (some ⟨pb, 4, none⟩), sv (s 0), undef, .pointer (some ⟨pb, 5, none⟩), undef, undef, .pointer (some ⟨pb, 6, none⟩), undef, undef, .pointer (some ⟨pb, 7, none⟩), sv (s 16), undef, undef, undef, undef, undef, undef], []⟩ W := by
  refine wpAnyH_all (rs := [2, 4, 7]) (by kernel_rfl) (by simp) ?_
  intro i hi
  rcases (show i = 2 ∨ i = 4 ∨ i = 7 by simpa using hi) with rfl | rfl | rfl
  · refine wpOp_callx (some 5) (by kernel_rfl) (by kernel_rfl) (by kernel_rfl) 18 #[.slice (s 0).a (s 0).n (s 0).c] (by kernel_rfl) (C0 W hq) ?_
    rintro e w2 ⟨g0, rfl, q2, o2, l2⟩
    exact ⟨_, rfl, any_step (by kernel_rfl) (by kernel_rfl) (cs_1_1001_0 R m s w pb rb C0 C1 C2 C3 F hpb w2 g0 (hq.trans q2) (hp.q q2) ⟨o2.seg, by have := hq.size; omega⟩)⟩
  · exact wpOp_val (v := sv (s 2)) (some 7) (by kernel_rfl) (by kernel_rfl) (by kernel_rfl) (ld_sl (.tmp 6) pb 5 (s 2) (by kernel_rfl) (by kernel_rfl) (hp.cell rfl)) (any_step (by kernel_rfl) (by kernel_rfl) (cs_0_1101_0 R m s w pb rb C0 C1 C2 C3 F hpb W hq hp))
  · exact wpOp_val (v := sv (s 15)) (some 10) (by kernel_rfl) (by kernel_rfl) (by kernel_rfl) (ld_sl (.tmp 9) pb 6 (s 15) (by kernel_rfl) (by kernel_rfl) (hp.cell rfl)) (any_step (by kernel_rfl) (by kernel_rfl) (cs_0_1011_0 R m s w pb rb C0 C1 C2 C3 F hpb W hq hp))
theorem cs_0_1010_0 (R : Exit → Act → World → Prop) (m : Pm) (s : Nat → Sv) (w : World) (pb rb : Nat) (C0 : Cq m s w 0) (C1 : Cq m s w 2) (C2 : Cq m s w 15) (C3 : Cq m s w 16) (F : Fin8 (RofN Try.f8 1) R m s w pb rb) (hpb : pb + 1 < w.heap.size) (W : World) (hq : Q w W) (hp : PB W pb m s) :
    wpAnyH Try.prog .any (RofN Try.f8 1) R (fun _ => True) 14 #[true, true, false, true, false, false, true, true, false, true, false, false, false, false, false, false, false, false, false, false] ⟨#[.agg (pc m s), .pointer (some ⟨pb, 0, none⟩), .pointer (some ⟨rb, 0, none⟩), .pointer (some ⟨pb, 4, none⟩), sv (s 0), undef, .pointer (some ⟨pb, 5, none⟩), undef, undef, .pointer (some ⟨pb, 6, none⟩), sv (s 15), undef, .pointer (some ⟨pb, 7, none⟩), undef, undef, undef, undef, undef, undef, undef], []⟩ W := by
  refine wpAnyH_all (rs := [2, 4, 10]) (by kernel_rfl) (by simp) ?_
  intro i hi
  rcases (show i = 2 ∨ i = 4 ∨ i = 10 by simpa using hi) with rfl | rfl | rfl
  · refine wpOp_callx (some 5) (by kernel_rfl) (by kernel_rfl) (by kernel_rfl) 18 #[.slice (s 0).a (s 0).n (s 0).c] (by kernel_rfl) (C0 W hq) ?_
    rintro e w2 ⟨g0, rfl, q2, o2, l2⟩
    exact ⟨_, rfl, any_step (by kernel_rfl) (by kernel_rfl) (cs_1_1010_0 R m s w pb rb C0 C1 C2 C3 F hpb w2 g0 (hq.trans q2) (hp.q q2) ⟨o2.seg, by have := hq.size; omega⟩)⟩
  · exact wpOp_val (v := sv (s 2)) (some 7) (by kernel_rfl) (by kernel_rfl) (by kernel_rfl) (ld_sl (.tmp 6) pb 5 (s 2) (by kernel_rfl) (by kernel_rfl) (hp.cell rfl)) (any_step (by kernel_rfl) (by kernel_rfl) (cs_0_1110_0 R m s w pb rb C0 C1 C2 C3 F hpb W hq hp))
  · exact wpOp_val (v := sv (s 16)) (some 13) (by kernel_rfl) (by kernel_rfl) (by kernel_rfl) (ld_sl (.tmp 12) pb 7 (s 16) (by kernel_rfl) (by kernel_rfl) (hp.cell rfl)) (any_step (by kernel_rfl) (by kernel_rfl) (cs_0_1011_0 R m s w pb rb C0 C1 C2 C3 F hpb W hq hp))
theorem cs_0_1100_0 (R : Exit → Act → World → Prop) (m : Pm) (s : Nat → Sv) (w : World) (pb rb : Nat) (C0 : Cq m s w 0) (C1 : Cq m s w 2) (C2 : Cq m s w 15) (C3 : Cq m s w 16) (F : Fin8 (RofN Try.f8 1) R m s w pb rb) (hpb : pb + 1 < w.heap.size) (W : World) (hq : Q w W) (hp : PB W pb m s) :
    wpAnyH Try.prog .any (RofN Try.f8 1) R (fun _ => True) 14 #[true, true, false, true, true, false, true, false, false, true, false, false, false, false, false, false, false, false, false, false] ⟨#[.agg (pc m s), .pointer (some ⟨pb, 0, none⟩), .pointer (some ⟨rb, 0, none⟩), .pointer (some ⟨pb, 4, none⟩), sv (s 0), undef, .pointer (some ⟨pb, 5, none⟩), sv (s 2), undef, .pointer (some ⟨pb, 6, none⟩), undef, undef, .pointer (some ⟨pb, 7, none⟩), undef, undef, undef, undef, undef, undef, undef], []⟩ W := by
  refine wpAnyH_all (rs := [2, 7, 10]) (by kernel_rfl) (by simp) ?_
  intro i hi
  rcases (show i = 2 ∨ i = 7 ∨ i = 10 by simpa using hi) with rfl | rfl | rfl
  · refine wpOp_callx (some 5) (by kernel_rfl) (by kernel_rfl) (by kernel_rfl) 18 #[.slice (s 0).a (s 0).n (s 0).c] (by kernel_rfl) (C0 W hq) ?_
    rintro e w2 ⟨g0, rfl, q2, o2, l2⟩
    exact ⟨_, rfl, any_step (by kernel_rfl) (by kernel_rfl) (cs_1_1100_0 R m s w pb rb C0 C1 C2 C3 F hpb w2 g0 (hq.trans q2) (hp.q q2) ⟨o2.seg, by have := hq.size; omega⟩)⟩
  · exact wpOp_val (v := sv (s 15)) (some 10) (by kernel_rfl) (by kernel_rfl) (by kernel_rfl) (ld_sl (.tmp 9) pb 6 (s 15) (by kernel_rfl) (by kernel_rfl) (hp.cell rfl)) (any_step (by kernel_rfl) (by kernel_rfl) (cs_0_1110_0 R m s w pb rb C0 C1 C2 C3 F hpb W hq hp))
  · exact wpOp_val (v := sv (s 16)) (some 13) (by kernel_rfl) (by kernel_rfl) (by kernel_rfl) (ld_sl (.tmp 12) pb 7 (s 16) (by kernel_rfl) (by kernel_rfl) (hp.cell rfl)) (any_step (by kernel_rfl) (by kernel_rfl) (cs_0_1101_0 R m s w pb rb C0 C1 C2 C3 F hpb W hq hp))
theorem cs_1_1000_0 (R : Exit → Act → World → Prop) (m : Pm) (s : Nat → Sv) (w : World) (pb rb : Nat) (C0 : Cq m s w 0) (C1 : Cq m s w 2) (C2 : Cq m s w 15) (C3 : Cq m s w 16) (F : Fin8 (RofN Try.f8 1) R m s w pb rb) (hpb : pb + 1 < w.heap.size) (W : World) (g0 : Nat) (hq : Q w W) (hp : PB W pb m s) (y0 : Cy pb W g0 (m.byt 0)) :
    wpAnyH Try.prog .any (RofN Try.f8 1) R (fun _ => True) 14 #[true, true, true, true, false, false, true, false, false, true, false, false, false, false, false, false, false, false, false, false] ⟨#[.agg (pc m s), .pointer (some ⟨pb, 0, none⟩), .pointer (some ⟨rb, 0, none⟩), .pointer (some ⟨pb, 4, none⟩), sv (s 0), .slice (some ⟨g0, 0, none⟩) (s 0).n (s 0).n, .pointer (some ⟨pb, 5, none⟩), undef, undef, .pointer (some ⟨pb, 6, none⟩), undef, undef, .pointer (some ⟨pb, 7, none⟩), undef, undef, undef, undef, undef, undef, undef], []⟩ W := by
  refine wpAnyH_all (rs := [4, 7, 10]) (by kernel_rfl) (by simp) ?_
  intro i hi
  rcases (show i = 4 ∨ i = 7 ∨ i = 10 by simpa using hi) with rfl | rfl | rfl
  · exact wpOp_val (v := sv (s 2)) (some 7) (by kernel_rfl) (by kernel_rfl) (by kernel_rfl) (ld_sl (.tmp 6) pb 5 (s 2) (by kernel_rfl) (by kernel_rfl) (hp.cell rfl)) (any_step (by kernel_rfl) (by kernel_rfl) (cs_1_1100_0 R m s w pb rb C0 C1 C2 C3 F hpb W g0 hq hp y0))
  · exact wpOp_val (v := sv (s 15)) (some 10) (by kernel_rfl) (by kernel_rfl) (by kernel_rfl) (ld_sl (.tmp 9) pb 6 (s 15) (by kernel_rfl) (by kernel_rfl) (hp.cell rfl)) (any_step (by kernel_rfl) (by kernel_rfl) (cs_1_1010_0 R m s w pb rb C0 C1 C2 C3 F hpb W g0 hq hp y0))
  · exact wpOp_val (v := sv (s 16)) (some 13) (by kernel_rfl) (by kernel_rfl) (by kernel_rfl) (ld_sl (.tmp 12) pb 7 (s 16) (by kernel_rfl) (by kernel_rfl) (hp.cell rfl)) (any_step (by kernel_rfl) (by kernel_rfl) (cs_1_1001_0 R m s w pb rb C0 C1 C2 C3 F hpb W g0 hq hp y0))
theorem cs_0_0001_0 (R : Exit → Act → World → Prop) (m : Pm) (s : Nat → Sv) (w : World) (pb rb : Nat) (C0 : Cq m s w 0) (C1 : Cq m s w 2) (C2 : Cq m s w 15) (C3 : Cq m s w 16) (F : Fin8 (RofN Try.f8 1) R m s w pb rb) (hpb : pb + 1 < w.heap.size) (W : World) (hq : Q w W) (hp : PB W pb m s) :
    wpAnyH Try.prog .any (RofN Try.f8 1) R (fun _ => True) 15 #[true, false, false, true, false, false, true, false, false, true, true, false, false, false, false, false, false, false, false, false] ⟨#[.agg (pc m s), .pointer (some ⟨pb, 0, none⟩), .pointer (some ⟨rb, 0, none⟩), .pointer (some ⟨pb, 4, none⟩), undef, undef, .pointer (some ⟨pb, 5, none⟩), undef, undef, .pointer (some ⟨pb, 6, none⟩), undef, undef, .pointer (some ⟨pb, 7, none⟩), sv (s 16), undef, undef, undef, undef, undef, undef], []⟩ W := by
  refine wpAnyH_all (rs := [1, 4, 7]) (by kernel_rfl) (by simp) ?_
  intro i hi
  rcases (show i = 1 ∨ i = 4 ∨ i = 7 by simpa using hi) with rfl | rfl | rfl
  · exact wpOp_val (v := sv (s 0)) (some 4) (by kernel_rfl) (by kernel_rfl) (by kernel_rfl) (ld_sl (.tmp 3) pb 4 (s 0) (by kernel_rfl) (by kernel_rfl) (hp.cell rfl)) (any_step (by kernel_rfl) (by kernel_rfl) (cs_0_1001_0 R m s w pb rb C0 C1 C2 C3 F hpb W hq hp))
  · exact wpOp_val (v := sv (s 2)) (some 7) (by kernel_rfl) (by kernel_rfl) (by kernel_rfl) (ld_sl (.tmp 6) pb 5 (s 2) (by kernel_rfl) (by kernel_rfl) (hp.cell rfl)) (any_step (by kernel_rfl) (by kernel_rfl) (cs_0_0101_0 R m s w pb rb C0 C1 C2 C3 F hpb W hq hp))
  · exact wpOp_val (v := sv (s 15)) (some 10) (by kernel_rfl) (by kernel_rfl) (by kernel_rfl) (ld_sl (.tmp 9) pb 6 (s 15) (by kernel_rfl) (by kernel_rfl) (hp.cell rfl)) (any_step (by kernel_rfl) (by kernel_rfl) (cs_0_0011_0 R m s w pb rb C0 C1 C2 C3 F hpb W hq hp))
theorem cs_0_0010_0 (R : Exit → Act → World → Prop) (m : Pm) (s : Nat → Sv) (w : World) (pb rb : Nat) (C0 : Cq m s w 0) (C1 : Cq m s w 2) (C2 : Cq m s w 15) (C3 : Cq m s w 16) (F : Fin8 (RofN Try.f8 1) R m s w pb rb) (hpb : pb + 1 < w.heap.size) (W : World) (hq : Q w W) (hp : PB W pb m s) :
    wpAnyH Try.prog .any (RofN Try.f8 1) R (fun _ => True) 15 #[true, false, false, true, false, false, true, true, false, true, false, false, false, false, false, false, false, false, false, false] ⟨#[.agg (pc m s), .pointer (some ⟨pb, 0, none⟩), .pointer (some ⟨rb, 0, none⟩), .pointer (some ⟨pb, 4, none⟩), undef, undef, .pointer (some ⟨pb, 5, none⟩), undef, undef, .pointer (some ⟨pb, 6, none⟩), sv (s 15), undef, .pointer (some ⟨pb, 7, none⟩), undef, undef, undef, undef, undef, undef, undef], []⟩ W := by
  refine wpAnyH_all (rs := [1, 4, 10]) (by kernel_rfl) (by simp) ?_
  intro i hi
  rcases (show i = 1 ∨ i = 4 ∨ i = 10 by simpa using hi) with rfl | rfl | rfl
  · exact wpOp_val (v := sv (s 0)) (some 4) (by kernel_rfl) (by kernel_rfl) (by kernel_rfl) (ld_sl (.tmp 3) pb 4 (s 0) (by kernel_rfl) (by kernel_rfl) (hp.cell rfl)) (any_step (by kernel_rfl) (by kernel_rfl) (cs_0_1010_0 R m s w pb rb C0 C1 C2 C3 F hpb W hq hp))
  · exact wpOp_val (v := sv (s 2)) (some 7) (by kernel_rfl) (by kernel_rfl) (by kernel_rfl) (ld_sl (.tmp 6) pb 5 (s 2) (by kernel_rfl) (by kernel_rfl) (hp.cell rfl)) (any_step (by kernel_rfl) (by kernel_rfl) (cs_0_0110_0 R m s w pb rb C0 C1 C2 C3 F hpb W hq hp))
  · exact wpOp_val (v := sv (s 16)) (some 13) (by kernel_rfl) (by kernel_rfl) (by kernel_rfl) (ld_sl (.tmp 12) pb 7 (s 16) (by kernel_rfl) (by kernel_rfl) (hp.cell rfl)) (any_step (by kernel_rfl) (by kernel_rfl) (cs_0_0011_0 R m s w pb rb C0 C1 C2 C3 F hpb W hq hp))
theorem cs_0_0100_0 (R : Exit → Act → World → Prop) (m : Pm) (s : Nat → Sv) (w : World) (pb rb : Nat) (C0 : Cq m s w 0) (C1 : Cq m s w 2) (C2 : Cq m s w 15) (C3 : Cq m s w 16) (F : Fin8 (RofN Try.f8 1) R m s w pb rb) (hpb : pb + 1 < w.heap.size) (W : World) (hq : Q w W) (hp : PB W pb m s) :
    wpAnyH Try.prog .any (RofN Try.f8 1) R (fun _ => True) 15 #[true, false, false, true, true, false, true, false, false, true, false, false, false, false, false, false, false, false, false, false] ⟨#[.agg (pc m s), .pointer (some ⟨pb, 0, none⟩), .pointer (some ⟨rb, 0, none⟩), .pointer (some ⟨pb, 4, none⟩), undef, undef, .pointer (some ⟨pb, 5, none⟩), sv (s 2), undef, .pointer (some ⟨pb, 6, none⟩), undef, undef, .pointer (some ⟨pb, 7, none⟩), undef, undef, undef, undef, undef, undef, undef], []⟩ W := by
  refine wpAnyH_all (rs := [1, 7, 10]) (by kernel_rfl) (by simp) ?_
  intro i hi
  rcases (show i = 1 ∨ i = 7 ∨ i = 10 by simpa using hi) with rfl | rfl | rfl
  · exact wpOp_val (v := sv (s 0)) (some 4) (by kernel_rfl) (by kernel_rfl) (by kernel_rfl) (ld_sl (.tmp 3) pb 4 (s 0) (by kernel_rfl) (by kernel_rfl) (hp.cell rfl)) (any_step (by kernel_rfl) (by kernel_rfl) (cs_0_1100_0 R m s w pb rb C0 C1 C2 C3 F hpb W hq hp))
  · exact wpOp_val (v := sv (s 15)) (some 10) (by kernel_rfl) (by kernel_rfl) (by kernel_rfl) (ld_sl (.tmp 9) pb 6 (s 15) (by kernel_rfl) (by kernel_rfl) (hp.cell rfl)) (any_step (by kernel_rfl) (by kernel_rfl) (cs_0_0110_0 R m s w pb rb C0 C1 C2 C3 F hpb W hq hp))
  · exact wpOp_val (v := sv (s 16)) (some 13) (by kernel_rfl) (by kernel_rfl) (by kernel_rfl) (ld_sl (.tmp 12) pb 7 (s 16) (by kernel_rfl) (by kernel_rfl) (hp.cell rfl)) (any_step (by kernel_rfl) (by kernel_rfl) (cs_0_0101_0 R m s w pb rb C0 C1 C2 C3 F hpb W hq hp))
theorem cs_0_1000_0 (R : Exit → Act → World → Prop) (m : Pm) (s : Nat → Sv) (w : World) (pb rb : Nat) (C0 : Cq m s w 0) (C1 : Cq m s w 2) (C2 : Cq m s w 15) (C3 : Cq m s w 16) (F : Fin8 (RofN Try.f8 1) R m s w pb rb) (hpb : pb + 1 < w.heap.size) (W : World) (hq : Q w W) (hp : PB W pb m s) :
    wpAnyH Try.prog .any (RofN Try.f8 1) R (fun _ => True) 15 #[true, true, false, true, false, false, true, false, false, true, false, false, false, false, false, false, false, false, false, false] ⟨#[.agg (pc m s), .pointer (some ⟨pb, 0, none⟩), .pointer (some ⟨rb, 0, none⟩), .pointer (some ⟨pb, 4, none⟩), sv (s 0), undef, .pointer (some ⟨pb, 5, none⟩), undef, undef, .pointer (some ⟨pb, 6, none⟩), undef, undef, .pointer (some ⟨pb, 7, none⟩), undef, undef, undef, undef, undef, undef, undef], []⟩ W := by
  refine wpAnyH_all (rs := [2, 4, 7, 10]) (by kernel_rfl) (by simp) ?_
  intro i hi
  rcases (show i = 2 ∨ i = 4 ∨ i = 7 ∨ i = 10 by simpa using hi) with rfl | rfl | rfl | rfl
  · refine wpOp_callx (some 5) (by kernel_rfl) (by kernel_rfl) (by kernel_rfl) 18 #[.slice (s 0).a (s 0).n (s 0).c] (by kernel_rfl) (C0 W hq) ?_
    rintro e w2 ⟨g0, rfl, q2, o2, l2⟩
    exact ⟨_, rfl, any_step (by kernel_rfl) (by kernel_rfl) (cs_1_1000_0 R m s w pb rb C0 C1 C2 C3 F hpb w2 g0 (hq.trans q2) (hp.q q2) ⟨o2.seg, by have := hq.size; omega⟩)⟩
  · exact wpOp_val (v := sv (s 2)) (some 7) (by kernel_rfl) (by kernel_rfl) (by kernel_rfl) (ld_sl (.tmp 6) pb 5 (s 2) (by kernel_rfl) (by kernel_rfl) (hp.cell rfl)) (any_step (by kernel_rfl) (by kernel_rfl) (cs_0_1100_0 R m s w pb rb C0 C1 C2 C3 F hpb W hq hp))
  · exact wpOp_val (v := sv (s 15)) (some 10) (by kernel_rfl) (by kernel_rfl) (by kernel_rfl) (ld_sl (.tmp 9) pb 6 (s 15) (by kernel_rfl) (by kernel_rfl) (hp.cell rfl)) (any_step (by kernel_rfl) (by kernel_rfl) (cs_0_1010_0 R m s w pb rb C0 C1 C2 C3 F hpb W hq hp))
  · exact wpOp_val (v := sv (s 16)) (some 13) (by kernel_rfl) (by kernel_rfl) (by kernel_rfl) (ld_sl (.tmp 12) pb 7 (s 16) (by kernel_rfl) (by kernel_rfl) (hp.cell rfl)) (any_step (by kernel_rfl) (by kernel_rfl) (cs_0_1001_0 R m s w pb rb C0 C1 C2 C3 F hpb W hq hp))
theorem cs_0_0000_0 (R : Exit → Act → World → Prop) (m : Pm) (s : Nat → Sv) (w : World) (pb rb : Nat) (C0 : Cq m s w 0) (C1 : Cq m s w 2) (C2 : Cq m s w 15) (C3 : Cq m s w 16) (F : Fin8 (RofN Try.f8 1) R m s w pb rb) (hpb : pb + 1 < w.heap.size) (W : World) (hq : Q w W) (hp : PB W pb m s) :
    wpAnyH Try.prog .any (RofN Try.f8 1) R (fun _ => True) 16 #[true, false, false, true, false, false, true, false, false, true, false, false, false, false, false, false, false, false, false, false] ⟨#[.agg (pc m s), .pointer (some ⟨pb, 0, none⟩), .pointer (some ⟨rb, 0, none⟩), .pointer (some ⟨pb, 4, none⟩), undef, undef, .pointer (some ⟨pb, 5, none⟩), undef, undef, .pointer (some ⟨pb, 6, none⟩), undef, undef, .pointer (some ⟨pb, 7, none⟩), undef, undef, undef, undef, undef, undef, undef], []⟩ W := by
  refine wpAnyH_all (rs := [1, 4, 7, 10]) (by kernel_rfl) (by simp) ?_
  intro i hi
  rcases (show i = 1 ∨ i = 4 ∨ i = 7 ∨ i = 10 by simpa using hi) with rfl | rfl | rfl | rfl
  · exact wpOp_val (v := sv (s 0)) (some 4) (by kernel_rfl) (by kernel_rfl) (by kernel_rfl) (ld_sl (.tmp 3) pb 4 (s 0) (by kernel_rfl) (by kernel_rfl) (hp.cell rfl)) (any_step (by kernel_rfl) (by kernel_rfl) (cs_0_1000_0 R m s w pb rb C0 C1 C2 C3 F hpb W hq hp))
  · exact wpOp_val (v := sv (s 2)) (some 7) (by kernel_rfl) (by kernel_rfl) (by kernel_rfl) (ld_sl (.tmp 6) pb 5 (s 2) (by kernel_rfl) (by kernel_rfl) (hp.cell rfl)) (any_step (by kernel_rfl) (by kernel_rfl) (cs_0_0100_0 R m s w pb rb C0 C1 C2 C3 F hpb W hq hp))
  · exact wpOp_val (v := sv (s 15)) (some 10) (by kernel_rfl) (by kernel_rfl) (by kernel_rfl) (ld_sl (.tmp 9) pb 6 (s 15) (by kernel_rfl) (by kernel_rfl) (hp.cell rfl)) (any_step (by kernel_rfl) (by kernel_rfl) (cs_0_0010_0 R m s w pb rb C0 C1 C2 C3 F hpb W hq hp))
  · exact wpOp_val (v := sv (s 16)) (some 13) (by kernel_rfl) (by kernel_rfl) (by kernel_rfl) (ld_sl (.tmp 12) pb 7 (s 16) (by kernel_rfl) (by kernel_rfl) (hp.cell rfl)) (any_step (by kernel_rfl) (by kernel_rfl) (cs_0_0001_0 R m s w pb rb C0 C1 C2 C3 F hpb W hq hp))
end Go.Proofs.Ytidbimhcebfjfaa
