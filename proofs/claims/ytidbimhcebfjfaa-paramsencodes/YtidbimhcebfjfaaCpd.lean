/-
  What the law's own copied does: a contract that the statements' walks use.
-/
import Derived.Test.YtidbimhcebfjfaaCpS
namespace Go.Proofs.Ytidbimhcebfjfaa
open Go.RowKit
set_option linter.unusedVariables false
set_option maxRecDepth 20000

theorem wpOp_pure {ops : Array Oper} {i : Nat} {a : Act} {w : World} {K : Act → World → Prop} {R : Exit → Act → World → Prop} {v : Value} (d : Option Tmp) (hi : (ops[i]?).isSome = true) (hd : (ops[i]?).bind (·.dst) = d) (hw : Region.wanted ((ops[i]?).getD default) (yielded ops a.tmps) = true)
    (hr : (execOp a.eval ((ops[i]?).getD default)).run Try.prog w = .ok (.value v) w) (h : K (a.put d v) w) : wpOp Try.prog ops R i K a w := wpOp_val d hi hd hw hr h
def cpS (s : Nat → Sv) (g0 g1 g2 g3 : Nat) : Nat → Sv := fun i => if i = 0 then ⟨some ⟨g0, 0, none⟩, (s 0).n, (s 0).n⟩ else if i = 2 then ⟨some ⟨g1, 0, none⟩, (s 2).n, (s 2).n⟩ else if i = 15 then ⟨some ⟨g2, 0, none⟩, (s 15).n, (s 15).n⟩ else if i = 16 then ⟨some ⟨g3, 0, none⟩, (s 16).n, (s 16).n⟩ else s i
abbrev l8 (pb : Nat) : List (Nat × Value) := [(0, .pointer (some ⟨pb, 4, none⟩)), (3, .pointer (some ⟨pb, 5, none⟩)), (6, .pointer (some ⟨pb, 6, none⟩)), (9, .pointer (some ⟨pb, 7, none⟩))]
abbrev AF8 (m : Pm) (s : Nat → Sv) (pb rb g0 g1 g2 g3 : Nat) : Act := ⟨#[.agg (pc m s), .pointer (some ⟨pb, 0, none⟩), .pointer (some ⟨rb, 0, none⟩), .pointer (some ⟨pb, 4, none⟩), sv (s 0), .slice (some ⟨g0, 0, none⟩) (s 0).n (s 0).n, .pointer (some ⟨pb, 5, none⟩), sv (s 2), .slice (some ⟨g1, 0, none⟩) (s 2).n (s 2).n, .pointer (some ⟨pb, 6, none⟩), sv (s 15), .slice (some ⟨g2, 0, none⟩) (s 15).n (s 15).n, .pointer (some ⟨pb, 7, none⟩), sv (s 16), .slice (some ⟨g3, 0, none⟩) (s 16).n (s 16).n, .pointer (some ⟨pb, 4, none⟩), .pointer (some ⟨pb, 5, none⟩), .pointer (some ⟨pb, 6, none⟩), .pointer (some ⟨pb, 7, none⟩), undef], []⟩
abbrev B0 (m : Pm) (s : Nat → Sv) (pb rb : Nat) : Act := actO [.agg (pc m s), .pointer (some ⟨pb, 0, none⟩), .pointer (some ⟨rb, 0, none⟩)] 17
theorem k8 (m : Pm) (s : Nat → Sv) (pb rb : Nat) : Chn Try.prog (RofN Try.f8 1) (fun _ => True) (l8 pb) (Array.replicate 20 false) (B0 m s pb rb) :=
  ⟨⟨by kernel_rfl, by kernel_rfl, by kernel_rfl, by kernel_rfl, fun w h => by kernel_rfl⟩, ⟨by kernel_rfl, by kernel_rfl, by kernel_rfl, by kernel_rfl, fun w h => by kernel_rfl⟩, ⟨by kernel_rfl, by kernel_rfl, by kernel_rfl, by kernel_rfl, fun w h => by kernel_rfl⟩, ⟨by kernel_rfl, by kernel_rfl, by kernel_rfl, by kernel_rfl, fun w h => by kernel_rfl⟩, trivial⟩
set_option maxHeartbeats 1000000 in
/-- The region: the four slices are new. -/
theorem rg8 (R : Exit → Act → World → Prop) (m : Pm) (s : Nat → Sv) (w : World) (pb rb : Nat) (C0 : Cq m s w 0) (C1 : Cq m s w 2) (C2 : Cq m s w 15) (C3 : Cq m s w 16) (hpb : pb + 1 < w.heap.size) (w1 : World) (hq : Q w w1) (hp : PB w1 pb m s) (hQ : ∀ c a d v w, R (.panic c) (a.put d v) w → R (.panic c) a w)
    (h : ∀ (W W' : World) (g0 g1 g2 g3 : Nat), Q w W → Keep (fun i => i = pb) W W' → PB W' pb m (cpS s g0 g1 g2 g3) → Cy pb W' g0 (m.byt 0) → Cy pb W' g1 (m.byt 2) → Cy pb W' g2 (m.byt 15) → Cy pb W' g3 (m.byt 16) → R .normal (AF8 m s pb rb g0 g1 g2 g3) W') :
    (Code.region 1 (RofN Try.f8 1) true).wp Try.prog R (B0 m s pb rb) w1 := by
  refine wp_region_held (S := fun _ => True) (by kernel_rfl) ?_
  have hsz : (RofN Try.f8 1).size = 20 := by kernel_rfl
  rw [hsz]
  have hq1 : Q w w1.drew := hq.drew
  have hp1 : PB w1.drew pb m s := hp
  refine chn_take (by kernel_rfl) hQ trivial 16 (l8 pb) _ _ (k8 m s pb rb) ?_
  refine (any_step (by kernel_rfl) (by kernel_rfl) (cs_0_0000_0 R m s w pb rb C0 C1 C2 C3 ?_ hpb w1.drew hq1 hp1)).2
  intro W g0 g1 g2 g3 hq hp y0 y1 y2 y3
  refine wpAnyH_one (i := 13) (by kernel_rfl) ?_
  refine wpOp_skip none (by kernel_rfl) (by kernel_rfl) (by kernel_rfl) (st_sl (.tmp 15) (.tmp 5) pb 4 ⟨some ⟨g0, 0, none⟩, (s 0).n, (s 0).n⟩ (s 0) (by kernel_rfl) (by kernel_rfl) (by kernel_rfl) (by rw [cell_of_row _ pb 4 _ 24 (0, 0) (show W.heap[pb]? = some (.cells (pc m s) 24 (0, 0)) from hp)]; rfl) (frozen_of_row _ pb 4 _ 24 (show W.heap[pb]? = some (.cells (pc m s) 24 (0, 0)) from hp))) ⟨trivial, ?_⟩
  refine wpAnyH_one (i := 14) (by kernel_rfl) ?_
  refine wpOp_pure (v := .pointer (some ⟨pb, 5, none⟩)) (some 16) (by kernel_rfl) (by kernel_rfl) (by kernel_rfl) (by kernel_rfl) ⟨trivial, ?_⟩
  refine wpAnyH_one (i := 15) (by kernel_rfl) ?_
  refine wpOp_skip none (by kernel_rfl) (by kernel_rfl) (by kernel_rfl) (st_sl (.tmp 16) (.tmp 8) pb 5 ⟨some ⟨g1, 0, none⟩, (s 2).n, (s 2).n⟩ (s 2) (by kernel_rfl) (by kernel_rfl) (by kernel_rfl) (by rw [cell_of_row _ pb 5 _ 24 (0, 0) (heap_setCell_same _ pb 4 _ 24 (sv ⟨some ⟨g0, 0, none⟩, (s 0).n, (s 0).n⟩) (show W.heap[pb]? = some (.cells (pc m s) 24 (0, 0)) from hp))]; rfl) (frozen_of_row _ pb 5 _ 24 (heap_setCell_same _ pb 4 _ 24 (sv ⟨some ⟨g0, 0, none⟩, (s 0).n, (s 0).n⟩) (show W.heap[pb]? = some (.cells (pc m s) 24 (0, 0)) from hp)))) ⟨trivial, ?_⟩
  refine wpAnyH_one (i := 16) (by kernel_rfl) ?_
  refine wpOp_pure (v := .pointer (some ⟨pb, 6, none⟩)) (some 17) (by kernel_rfl) (by kernel_rfl) (by kernel_rfl) (by kernel_rfl) ⟨trivial, ?_⟩
  refine wpAnyH_one (i := 17) (by kernel_rfl) ?_
  refine wpOp_skip none (by kernel_rfl) (by kernel_rfl) (by kernel_rfl) (st_sl (.tmp 17) (.tmp 11) pb 6 ⟨some ⟨g2, 0, none⟩, (s 15).n, (s 15).n⟩ (s 15) (by kernel_rfl) (by kernel_rfl) (by kernel_rfl) (by rw [cell_of_row _ pb 6 _ 24 (0, 0) (heap_setCell_same _ pb 5 _ 24 (sv ⟨some ⟨g1, 0, none⟩, (s 2).n, (s 2).n⟩) (heap_setCell_same _ pb 4 _ 24 (sv ⟨some ⟨g0, 0, none⟩, (s 0).n, (s 0).n⟩) (show W.heap[pb]? = some (.cells (pc m s) 24 (0, 0)) from hp)))]; rfl) (frozen_of_row _ pb 6 _ 24 (heap_setCell_same _ pb 5 _ 24 (sv ⟨some ⟨g1, 0, none⟩, (s 2).n, (s 2).n⟩) (heap_setCell_same _ pb 4 _ 24 (sv ⟨some ⟨g0, 0, none⟩, (s 0).n, (s 0).n⟩) (show W.heap[pb]? = some (.cells (pc m s) 24 (0, 0)) from hp))))) ⟨trivial, ?_⟩
  refine wpAnyH_one (i := 18) (by kernel_rfl) ?_
  refine wpOp_pure (v := .pointer (some ⟨pb, 7, none⟩)) (some 18) (by kernel_rfl) (by kernel_rfl) (by kernel_rfl) (by kernel_rfl) ⟨trivial, ?_⟩
  refine wpAnyH_one (i := 19) (by kernel_rfl) ?_
  refine wpOp_skip none (by kernel_rfl) (by kernel_rfl) (by kernel_rfl) (st_sl (.tmp 18) (.tmp 14) pb 7 ⟨some ⟨g3, 0, none⟩, (s 16).n, (s 16).n⟩ (s 16) (by kernel_rfl) (by kernel_rfl) (by kernel_rfl) (by rw [cell_of_row _ pb 7 _ 24 (0, 0) (heap_setCell_same _ pb 6 _ 24 (sv ⟨some ⟨g2, 0, none⟩, (s 15).n, (s 15).n⟩) (heap_setCell_same _ pb 5 _ 24 (sv ⟨some ⟨g1, 0, none⟩, (s 2).n, (s 2).n⟩) (heap_setCell_same _ pb 4 _ 24 (sv ⟨some ⟨g0, 0, none⟩, (s 0).n, (s 0).n⟩) (show W.heap[pb]? = some (.cells (pc m s) 24 (0, 0)) from hp))))]; rfl) (frozen_of_row _ pb 7 _ 24 (heap_setCell_same _ pb 6 _ 24 (sv ⟨some ⟨g2, 0, none⟩, (s 15).n, (s 15).n⟩) (heap_setCell_same _ pb 5 _ 24 (sv ⟨some ⟨g1, 0, none⟩, (s 2).n, (s 2).n⟩) (heap_setCell_same _ pb 4 _ 24 (sv ⟨some ⟨g0, 0, none⟩, (s 0).n, (s 0).n⟩) (show W.heap[pb]? = some (.cells (pc m s) 24 (0, 0)) from hp)))))) ⟨trivial, ?_⟩
  refine wpAnyH_done (by kernel_rfl) ?_ _
  have kk : Keep (fun i => i = pb) W ((((W.setCell ⟨pb, 4, none⟩ (sv ⟨some ⟨g0, 0, none⟩, (s 0).n, (s 0).n⟩)).setCell ⟨pb, 5, none⟩ (sv ⟨some ⟨g1, 0, none⟩, (s 2).n, (s 2).n⟩)).setCell ⟨pb, 6, none⟩ (sv ⟨some ⟨g2, 0, none⟩, (s 15).n, (s 15).n⟩)).setCell ⟨pb, 7, none⟩ (sv ⟨some ⟨g3, 0, none⟩, (s 16).n, (s 16).n⟩)) := (((((Keep.refl (fun i => i = pb) W).setCell _ _ _ (.inl rfl)).setCell _ _ _ (.inl rfl)).setCell _ _ _ (.inl rfl)).setCell _ _ _ (.inl rfl))
  have cy : ∀ g zs, Cy pb W g zs → Cy pb ((((W.setCell ⟨pb, 4, none⟩ (sv ⟨some ⟨g0, 0, none⟩, (s 0).n, (s 0).n⟩)).setCell ⟨pb, 5, none⟩ (sv ⟨some ⟨g1, 0, none⟩, (s 2).n, (s 2).n⟩)).setCell ⟨pb, 6, none⟩ (sv ⟨some ⟨g2, 0, none⟩, (s 15).n, (s 15).n⟩)).setCell ⟨pb, 7, none⟩ (sv ⟨some ⟨g3, 0, none⟩, (s 16).n, (s 16).n⟩)) g zs := fun g zs y => ⟨y.1.keep kk (fun b hb e => by cases hb; have e2 : g = pb := e; have := y.2; omega), y.2⟩
  have hfin := h W _ g0 g1 g2 g3 hq kk (heap_setCell_same _ pb 7 _ 24 (sv ⟨some ⟨g3, 0, none⟩, (s 16).n, (s 16).n⟩) (heap_setCell_same _ pb 6 _ 24 (sv ⟨some ⟨g2, 0, none⟩, (s 15).n, (s 15).n⟩) (heap_setCell_same _ pb 5 _ 24 (sv ⟨some ⟨g1, 0, none⟩, (s 2).n, (s 2).n⟩) (heap_setCell_same _ pb 4 _ 24 (sv ⟨some ⟨g0, 0, none⟩, (s 0).n, (s 0).n⟩) (show W.heap[pb]? = some (.cells (pc m s) 24 (0, 0)) from hp))))) (cy _ _ y0) (cy _ _ y1) (cy _ _ y2) (cy _ _ y3)
  generalize hA : Act.put _ _ _ = A
  have e : A = AF8 m s pb rb g0 g1 g2 g3 := hA.symm.trans (by kernel_rfl)
  rw [e]
  exact hfin

set_option maxHeartbeats 4000000 in
theorem copied_any (m : Pm) (s : Nat → Sv) (w : World) (hb : By w m s) (hn : ∀ i, kd i = 2 ∨ kd i = 3 → (s i).n ≤ 140737488355328) :
    Calls Try.prog 8 #[.agg (pc m s)] w fun e w' => ∃ s', e = .returned (.agg (pc m s')) ∧ Q w w' ∧ By w' m s' := by
  have cq : ∀ i, kd i = 2 ∨ kd i = 3 → Cq m s w i := fun i hi u hu => rcopy_any (s i).a (s i).n (s i).c (m.byt i) u (hb i hi).2 (hn i hi) ((hb i hi).1.q hu)
  have HC := hid cq
  have HLN := hid (hb.len)
  clear hb hn cq
  go_enter Try.func8, Try.ntmps8
  go_upto_region 1 with fail
  generalize hw1 : World.alloc (World.alloc w _) _ = w1
  have P1 := hid (show PB w1 w.heap.size m s from by rw [← hw1]; exact (pb_new w m s).q ((Q.refl _).alloc _))
  have T1 := hid (show w1.heap[w.heap.size + 1]? = some (.cells zeA 24 (0, 0)) from by
    rw [← hw1]
    have e : (w.alloc (.cells (pc m s) 24)).heap.size = w.heap.size + 1 := by simp
    rw [← e]; exact heap_alloc_new _ _)
  have Q1 := hid (show Q w w1 from by rw [← hw1]; exact ((Q.refl w).alloc _).alloc _)
  have HS1 := hid (show w.heap.size + 1 < w1.heap.size from lt_of_block T1.out)
  clear hw1
  generalize hpb : w.heap.size = pb at *
  have HPB := hid hpb
  clear hpb
  generalize hR : Code.region 1 _ true = C
  have eR : C = Code.region 1 (RofN Try.f8 1) true := hR.symm.trans (by kernel_rfl)
  clear hR
  subst eR
  refine wp_region_noPanic ?_
  have c1 : ∀ i, kd i = 2 ∨ kd i = 3 → Cq m s w1 i := fun i hi u hu => HC.out i hi u (Q1.out.trans hu)
  refine rgA (A := B0 m s pb (pb + 1)) ?_ (rg8 _ m s w1 pb (pb + 1) (c1 0 (by decide)) (c1 2 (by decide)) (c1 15 (by decide)) (c1 16 (by decide)) HS1.out w1 (Q.refl _) P1.out (fun c a d v w h => h) ?_)
  · kernel_rfl
  intro W W' g0 g1 g2 g3 hqW kk hp y0 y1 y2 y3
  have tq : W.heap[pb + 1]? = some (.cells zeA 24 (0, 0)) := (Below.block hqW _ (lt_of_block T1.out)).trans T1.out
  have T2 := hid (show W'.heap[pb + 1]? = some (.cells zeA 24 (0, 0)) from (kk.block _ (lt_of_block tq) (by omega)).trans tq)
  have Q2 := hid (show Q w W' from kk.below (Q1.out.trans hqW) (Q1.out.trans hqW).size (fun i e => by have := HPB.out; omega))
  have P2 := hid hp
  have HY := hid (show ∀ i, kd i = 2 ∨ kd i = 3 → Seg W' (cpS s g0 g1 g2 g3 i).a (m.byt i) ∧ (m.byt i).length = (cpS s g0 g1 g2 g3 i).n ∧ ∀ b, blk (cpS s g0 g1 g2 g3 i).a = some b → b ≠ pb + 1 from fun i hi => by
    have hln := HLN.out i hi
    have h4 : i = 0 ∨ i = 2 ∨ i = 15 ∨ i = 16 := by
      unfold kd at hi
      by_cases a1 : i = 0 ∨ i = 2 ∨ i = 16
      · omega
      · by_cases a2 : i = 15
        · omega
        · rw [if_neg a1, if_neg a2] at hi
          by_cases a3 : i = 12
          · rw [if_pos a3] at hi; omega
          · rw [if_neg a3] at hi
            by_cases a4 : i = 13 ∨ 16 < i
            · rw [if_pos a4] at hi; omega
            · rw [if_neg a4] at hi; omega
    rcases h4 with rfl | rfl | rfl | rfl
    · exact ⟨y0.1, hln, fun b hb => by cases hb; have := y0.2; show g0 ≠ pb + 1; omega⟩
    · exact ⟨y1.1, hln, fun b hb => by cases hb; have := y1.2; show g1 ≠ pb + 1; omega⟩
    · exact ⟨y2.1, hln, fun b hb => by cases hb; have := y2.2; show g2 ≠ pb + 1; omega⟩
    · exact ⟨y3.1, hln, fun b hb => by cases hb; have := y3.2; show g3 ≠ pb + 1; omega⟩)
  clear tq kk hp y0 y1 y2 y3 hqW c1 T1 P1 Q1 HC HLN HS1
  refine NoPanic.normal ?_
  refine ‹∀ a w, Code.wp Try.prog _ _ a w → _› _ _ ?_
  generalize cpS s g0 g1 g2 g3 = s' at *
  go_wp2_with (first
    | (refine wpList_load_row rfl 24 _ rfl pb rfl 24 (pc m s') (0, 0) _ P2.out Try.underlying24 rfl (pc_info m s') ?_)
    | (refine wpList_store_row rfl 24 _ _ rfl (pb + 1) (pc m s') rfl rfl 24 _ T2.out (pc_info m s') rfl (pc_one m s') ?_; refine Hid.out ?_))
  refine hid ?_
  generalize hw7 : World.setRow _ _ _ = w7
  have k7 : Keep (fun i => i = pb + 1) W' w7 := by rw [← hw7]; exact (Keep.refl _ W').setRow _ _ (.inl rfl)
  have b7 : w7.heap[pb + 1]? = some (.cells (pc m s') 24 (0, 0)) := by rw [← hw7]; exact setRow_heap _ _ _ _ 24 _ T2.out
  clear hw7
  have q7 : Q w w7 := k7.below Q2.out Q2.out.size (fun i e => by have := HPB.out; omega)
  go_wp2
  refine ret_ps rfl rfl (pb + 1) 24 (pc m s') rfl rfl b7 ⟨s', rfl, q7, fun i hi => ?_⟩
  obtain ⟨z1, z2, z3⟩ := HY.out i hi
  exact ⟨z1.keep k7 (fun b hb e => z3 b hb e), z2⟩
end Go.Proofs.Ytidbimhcebfjfaa
