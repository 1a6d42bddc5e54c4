/-
  What the inner classes answers: the five classes. A contract that the statements' walks use.
-/
import Derived.Test.YtehejibllkmflaaClR
import Derived.Deep.Cut
import Derived.Deep.CutRange
import Derived.Deep.RegionHeld3
import Derived.Laws.Rows
import Derived.Laws.Tables
namespace Go.Proofs.Ytehejibllkmflaa
open Go.RowKit
set_option linter.unusedVariables false
set_option maxRecDepth 100000

/-- The classes' cells, with their first numbers. -/
abbrev clC (a b c d : Int) : Array Value := #[.int .i64 5, .int .i64 0, .string (strOfNums hq5), .int .i64 6, .int .i64 a, .string (strOfNums hq6), .int .i64 7, .int .i64 b, .string (strOfNums hq7), .int .i64 8, .int .i64 c, .string (strOfNums hq8), .int .i64 15, .int .i64 d, .string (strOfNums hq15)]
def clK (k : Nat) : Array Value := if k = 1 then clC 0 0 0 0 else if k = 2 then clC 20 0 0 0 else if k = 3 then clC 20 92 0 0 else if k = 4 then clC 20 92 248 0 else clC 20 92 248 32512
/-- A block of that type. -/
def Blk (W : World) (g t : Nat) (cs : Array Value) : Prop := W.heap[g]? = some (.cells cs t (0, 0))
theorem Blk.q {W W' : World} {g t : Nat} {cs : Array Value} (h : Blk W g t cs) (k : Q W W') : Blk W' g t cs := (Below.block k g (lt_of_block h)).trans h
theorem Blk.drew {W : World} {g t : Nat} {cs : Array Value} (h : Blk W g t cs) : Blk W.drew g t cs := h
theorem Blk.cell {W : World} {g t : Nat} {cs : Array Value} (h : Blk W g t cs) (j : Nat) : W.cell? ⟨g, j, none⟩ = cs[j]? := cell_of_row W g j cs t (0, 0) h
theorem Blk.frozen {W : World} {g t : Nat} {cs : Array Value} (h : Blk W g t cs) (j : Nat) : W.frozen? ⟨g, j, none⟩ = false := frozen_of_row W g j cs t h
theorem Blk.set {W : World} {g t : Nat} {cs : Array Value} (h : Blk W g t cs) (j : Nat) (v : Value) : Blk (W.setCell ⟨g, j, none⟩ v) g t (cs.setIfInBounds j v) := heap_setCell_same W g j cs t v h
theorem Blk.setOther {W : World} {g g' t j : Nat} {cs : Array Value} {v : Value} (h : Blk W g t cs) (hne : g ≠ g') : Blk (W.setCell ⟨g', j, none⟩ v) g t cs := (heap_setCell_other W ⟨g', j, none⟩ g v (fun e => hne (by simpa using e))).trans h
theorem blk_new (W : World) (cs : Array Value) (t : Nat) : Blk (W.alloc (.cells cs t)) W.heap.size t cs := heap_alloc_new W _
theorem Blk.lt {W : World} {g t : Nat} {cs : Array Value} (h : Blk W g t cs) : g < W.heap.size := lt_of_block h
structure ClI (w : World) (g k : Nat) (wr : World) : Prop where
  q : Q w wr
  z : ∃ cs, Blk wr w.heap.size 125 cs ∧ cs.size = 15
  b : Blk wr g 125 (clK k)
  n : w.heap.size < g
theorem ClI.next {w wr w2 : World} {g k j : Nat} {v : Value} (h : ClI w g k wr) (q2 : Q wr w2) (e : (clK k).setIfInBounds j v = clK (k + 1)) : ClI w g (k + 1) (w2.setCell ⟨g, j, none⟩ v) := by
  obtain ⟨cs, hz, hs⟩ := h.z
  have kp := ((Keep.ofQ (F := fun _ => False) (h.q.trans q2)).setCell g j v (.inr (by have := h.n; omega))).toQ (fun _ _ => id)
  refine ⟨kp, ⟨cs, (hz.q q2).setOther (by have := h.n; omega), hs⟩, ?_, h.n⟩
  rw [← e]
  exact (h.b.q q2).set j v
theorem ret_arr {fn : Func} {p : Tmp} {ty : TypeId} {a : Act} {w : World} {R : Ending → World → Prop} {n e : Nat} (hr : fn.results = #[.cell p ty]) (hd : a.defers = [])
    (g : Nat) (cs : Array Value) (hu : Try.prog.underlying ty = some (.array n e)) (hi : (Try.prog.info? ty).map (·.size) = some cs.size) (hp : a.tmps.getD p undef = .pointer (some ⟨g, 0, none⟩)) (hb : w.heap[g]? = some (.cells cs ty (0, 0))) (hR : R (.returned (.agg cs)) w) : bodyPost Try.prog fn R .ret a w :=
  ⟨hd, _, results_cell_row hr _ w g ty _ (0, 0) _ hp hb hu rfl hi, hR⟩
set_option maxHeartbeats 8000000 in
theorem classes_any (w : World) : Calls Try.prog 83 #[] w fun e w' => e = .returned (.agg (clC 20 92 248 32512)) ∧ Q w w' := by
  have HO := hid others_any
  go_enter Try.func83, Try.ntmps83
  go_wp2_with (go_at_call 94; refine (HO.out _).mono ?_; rintro e w1 ⟨rfl, q1⟩; have Q1 := hid q1; clear q1)
  generalize hW : World.alloc w1 _ = W0
  have HC := hid (show ClI w w1.heap.size 1 W0 from by
    have q1 := Q1.out
    subst hW
    exact ⟨((Q.refl w).alloc _ |>.trans q1).alloc _, ⟨_, ((blk_new w _ 125).q q1).q ((Q.refl w1).alloc _), rfl⟩, blk_new w1 _ 125, by have := q1.size; simp at this; omega⟩)
  clear hW Q1
  generalize w1.heap.size = g at *
  clear w1
  go_loopw [2] (fun i wr => ∃ k : Nat, 1 ≤ k ∧ k ≤ 5 ∧ i = .int .i64 k ∧ ClI w g k wr) (fun i _ => ((5 : Int) - intOf i).toNat)
  case atStart => exact ⟨1, by omega, by omega, rfl, HC.out⟩
  case round =>
    clear HC
    obtain ⟨k, hk1, hk5, rfl, hI⟩ := hrel
    have HI := hid hI
    clear hI
    have hcs : k = 1 ∨ k = 2 ∨ k = 3 ∨ k = 4 ∨ k = 5 := by omega
    clear hk1 hk5
    rcases hcs with rfl | rfl | rfl | rfl | rfl
    · go_wp2_with fail
      generalize hR : Code.region 5 _ true = C
      have eR : C = Code.region 5 (RofN Try.f83 5) true := hR.symm.trans (by kernel_rfl)
      clear hR
      subst eR
      refine wp_region_noPanic ?_
      have hb := HI.out.b
      refine rg5_1 g wr _ (fun c a d v w h => h) ⟨hb.cell _, hb.cell _, hb.cell _, hb.cell _⟩ (u := .int .i64 0) (fun w2 q2 => ⟨(hb.q q2).cell _, (hb.q q2).frozen _⟩) ?_
      intro w2 q2
      have HN := hid (HI.out.next q2 (show (clK 1).setIfInBounds 4 (.int .i64 20) = clK 2 from by kernel_rfl))
      clear q2 hb
      generalize World.setCell w2 _ _ = w3 at *
      refine NoPanic.normal ?_
      refine ‹∀ a w, Code.wp Try.prog _ _ a w → _› _ _ ?_
      go_wp2
      go_roundw
      case rel => exact ⟨2, by omega, by omega, rfl, HN.out⟩
      case measure => simp [intOf]
    · go_wp2_with fail
      generalize hR : Code.region 5 _ true = C
      have eR : C = Code.region 5 (RofN Try.f83 5) true := hR.symm.trans (by kernel_rfl)
      clear hR
      subst eR
      refine wp_region_noPanic ?_
      have hb := HI.out.b
      refine rg5_2 g wr _ (fun c a d v w h => h) ⟨hb.cell _, hb.cell _, hb.cell _, hb.cell _⟩ (u := .int .i64 0) (fun w2 q2 => ⟨(hb.q q2).cell _, (hb.q q2).frozen _⟩) ?_
      intro w2 q2
      have HN := hid (HI.out.next q2 (show (clK 2).setIfInBounds 7 (.int .i64 92) = clK 3 from by kernel_rfl))
      clear q2 hb
      generalize World.setCell w2 _ _ = w3 at *
      refine NoPanic.normal ?_
      refine ‹∀ a w, Code.wp Try.prog _ _ a w → _› _ _ ?_
      go_wp2
      go_roundw
      case rel => exact ⟨3, by omega, by omega, rfl, HN.out⟩
      case measure => simp [intOf]
    · go_wp2_with fail
      generalize hR : Code.region 5 _ true = C
      have eR : C = Code.region 5 (RofN Try.f83 5) true := hR.symm.trans (by kernel_rfl)
      clear hR
      subst eR
      refine wp_region_noPanic ?_
      have hb := HI.out.b
      refine rg5_3 g wr _ (fun c a d v w h => h) ⟨hb.cell _, hb.cell _, hb.cell _, hb.cell _⟩ (u := .int .i64 0) (fun w2 q2 => ⟨(hb.q q2).cell _, (hb.q q2).frozen _⟩) ?_
      intro w2 q2
      have HN := hid (HI.out.next q2 (show (clK 3).setIfInBounds 10 (.int .i64 248) = clK 4 from by kernel_rfl))
      clear q2 hb
      generalize World.setCell w2 _ _ = w3 at *
      refine NoPanic.normal ?_
      refine ‹∀ a w, Code.wp Try.prog _ _ a w → _› _ _ ?_
      go_wp2
      go_roundw
      case rel => exact ⟨4, by omega, by omega, rfl, HN.out⟩
      case measure => simp [intOf]
    · go_wp2_with fail
      generalize hR : Code.region 5 _ true = C
      have eR : C = Code.region 5 (RofN Try.f83 5) true := hR.symm.trans (by kernel_rfl)
      clear hR
      subst eR
      refine wp_region_noPanic ?_
      have hb := HI.out.b
      refine rg5_4 g wr _ (fun c a d v w h => h) ⟨hb.cell _, hb.cell _, hb.cell _, hb.cell _⟩ (u := .int .i64 0) (fun w2 q2 => ⟨(hb.q q2).cell _, (hb.q q2).frozen _⟩) ?_
      intro w2 q2
      have HN := hid (HI.out.next q2 (show (clK 4).setIfInBounds 13 (.int .i64 32512) = clK 5 from by kernel_rfl))
      clear q2 hb
      generalize World.setCell w2 _ _ = w3 at *
      refine NoPanic.normal ?_
      refine ‹∀ a w, Code.wp Try.prog _ _ a w → _› _ _ ?_
      go_wp2
      go_roundw
      case rel => exact ⟨5, by omega, by omega, rfl, HN.out⟩
      case measure => simp [intOf]
    · obtain ⟨hq, ⟨cs, hz, hs⟩, hb, hn⟩ := HI.out
      clear HI
      have HQ := hid hq
      have HB := hid (show wr.heap[g]? = some (.cells (clC 20 92 248 32512) 125 (0, 0)) from hb)
      have HZ := hid (show wr.heap[w.heap.size]? = some (.cells cs 125 (0, 0)) from hz)
      have HS := hid (show cs.size = (clC 20 92 248 32512).size from hs)
      have HI := hid (show (Try.prog.info? 125).map (·.size) = some (clC 20 92 248 32512).size from by kernel_rfl)
      have HO := hid (show (clC 20 92 248 32512).all (·.oneCell') = true from by kernel_rfl)
      clear hq hz hs hb
      go_wp2_with (first
        | (refine wpList_load_row rfl 125 _ rfl g rfl 125 _ (0, 0) _ HB.out Try.underlying125 rfl HI.out ?_)
        | (refine wpList_store_row rfl 125 _ _ rfl w.heap.size _ rfl rfl 125 _ HZ.out HI.out HS.out HO.out ?_; refine Hid.out ?_))
      refine hid ?_
      generalize hw7 : World.setRow _ _ _ = w7
      have k7 : Q w w7 := by rw [← hw7]; exact ((Keep.ofQ (F := fun _ => False) HQ.out).setRow _ _ (.inr (Nat.le_refl _))).toQ (fun _ _ => id)
      have b7 : w7.heap[w.heap.size]? = some (.cells (clC 20 92 248 32512) 125 (0, 0)) := by rw [← hw7]; exact setRow_heap _ _ _ _ 125 _ HZ.out
      clear hw7
      go_wp2
      exact ret_arr rfl rfl w.heap.size _ Try.underlying125 HI.out rfl b7 ⟨rfl, k7⟩
end Go.Proofs.Ytehejibllkmflaa
