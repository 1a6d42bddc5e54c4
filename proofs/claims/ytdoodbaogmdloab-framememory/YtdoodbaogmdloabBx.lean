/-
  A frame's block where one of its words is set, what the law's own 'of' does, and what a reading's stream does: contracts that the statements' walks use.
-/
import Derived.Test.YtdoodbaogmdloabZer
import Derived.Laws.Tables
namespace Go.Proofs.Ytdoodbaogmdloab
open Go.RowKit
set_option linter.unusedVariables false
set_option maxRecDepth 20000

section
variable {w : World} {t fb : Nat} {f : Fr} {d c s : Sv}
theorem Box.kind_ (h : Box w t fb f d c s) (x : Int) : Box (w.setCell ⟨fb, 0, none⟩ (.int .i64 x)) t fb { f with kind := x } d c s := by
  have := heap_setCell_same w fb 0 _ t (.int .i64 x) h
  simpa [Box] using this
theorem Box.id_ (h : Box w t fb f d c s) (x : Int) : Box (w.setCell ⟨fb, 1, none⟩ (.int .i64 x)) t fb { f with id := x } d c s := by
  have := heap_setCell_same w fb 1 _ t (.int .i64 x) h
  simpa [Box] using this
theorem Box.pl_ (h : Box w t fb f d c s) (x : Int) : Box (w.setCell ⟨fb, 2, none⟩ (.int .i64 x)) t fb { f with pl := x } d c s := by
  have := heap_setCell_same w fb 2 _ t (.int .i64 x) h
  simpa [Box] using this
theorem Box.num_ (h : Box w t fb f d c s) (x : Int) : Box (w.setCell ⟨fb, 3, none⟩ (.int .i64 x)) t fb { f with num := x } d c s := by
  have := heap_setCell_same w fb 3 _ t (.int .i64 x) h
  simpa [Box] using this
theorem Box.code_ (h : Box w t fb f d c s) (x : Int) : Box (w.setCell ⟨fb, 4, none⟩ (.int .i64 x)) t fb { f with code := x } d c s := by
  have := heap_setCell_same w fb 4 _ t (.int .i64 x) h
  simpa [Box] using this
theorem Box.dl_ (h : Box w t fb f d c s) (x : Int) : Box (w.setCell ⟨fb, 9, none⟩ (.int .i64 x)) t fb { f with dl := x } d c s := by
  have := heap_setCell_same w fb 9 _ t (.int .i64 x) h
  simpa [Box] using this
theorem Box.data_ (h : Box w t fb f d c s) (x : Sv) (l : List Int) : Box (w.setCell ⟨fb, 6, none⟩ (.slice x.a x.n x.c)) t fb { f with data := l } x c s := by
  have := heap_setCell_same w fb 6 _ t (.slice x.a x.n x.c) h
  simpa [Box] using this
theorem Box.cid_ (h : Box w t fb f d c s) (x : Sv) (l : List Int) : Box (w.setCell ⟨fb, 7, none⟩ (.slice x.a x.n x.c)) t fb { f with cid := l } d x s := by
  have := heap_setCell_same w fb 7 _ t (.slice x.a x.n x.c) h
  simpa [Box] using this
theorem Box.sp_ (h : Box w t fb f d c s) (x : Sv) (l : List (Int × Int)) : Box (w.setCell ⟨fb, 8, none⟩ (.slice x.a x.n x.c)) t fb { f with sp := l } d c x := by
  have := heap_setCell_same w fb 8 _ t (.slice x.a x.n x.c) h
  simpa [Box] using this
theorem Box.ecn_ (h : Box w t fb f d c s) (x y z : Int) : Box (((w.setCell ⟨fb, 10, none⟩ (.int .i64 x)).setCell ⟨fb, 11, none⟩ (.int .i64 y)).setCell ⟨fb, 12, none⟩ (.int .i64 z)) t fb { f with e0 := x, e1 := y, e2 := z } d c s := by
  have h1 := heap_setCell_same w fb 10 _ t (.int .i64 x) h
  have h2 := heap_setCell_same _ fb 11 _ t (.int .i64 y) h1
  have h3 := heap_setCell_same _ fb 12 _ t (.int .i64 z) h2
  simpa [Box] using h3
/-- .. where all are set. -/
theorem Box.row_ (h : Box w t fb f d c s) (f' : Fr) (d' c' s' : Sv) : Box (w.setRow fb (fcells f' d' c' s')) t fb f' d' c' s' := setRow_heap w fb _ _ t _ h
end

/-- The end of a call whose result is a frame in a block. -/
theorem ret_frame {fn : Func} {p : Tmp} {a : Act} {w : World} {R : Ending → World → Prop} (hr : fn.results = #[.cell p 34]) (hd : a.defers = [])
    (g t : Nat) (f : Fr) (d c s : Sv) (hp : a.tmps.getD p undef = .pointer (some ⟨g, 0, none⟩)) (hb : Box w t g f d c s) (hR : R (.returned (fv f d c s)) w) : bodyPost Try.prog fn R .ret a w :=
  ⟨hd, _, results_cell_row hr _ w g t _ (0, 0) _ hp hb Try.underlying34 rfl (by kernel_rfl), hR⟩
theorem ret_frame34 {fn : Func} {p : Tmp} {a : Act} {w : World} {R : Ending → World → Prop} (hr : fn.results = #[.cell p 44]) (hd : a.defers = [])
    (g t : Nat) (f : Fr) (d c s : Sv) (hp : a.tmps.getD p undef = .pointer (some ⟨g, 0, none⟩)) (hb : Box w t g f d c s) (hR : R (.returned (fv f d c s)) w) : bodyPost Try.prog fn R .ret a w :=
  ⟨hd, _, results_cell_row hr _ w g t _ (0, 0) _ hp hb Try.underlying44 rfl (by kernel_rfl), hR⟩

set_option maxHeartbeats 1000000 in
theorem of_any (f : Fr) (d c s : Sv) (w : World) : Calls Try.prog 13 #[fv f d c s] w fun e w' => e = .returned (fv f d c s) ∧ Q w w' := by
  go_enter Try.func13, Try.ntmps13
  go_wp2
  refine ret_frame34 rfl rfl (w.heap.size + 1) 44 f d c s rfl ?_ ⟨rfl, ((Q.refl w).alloc _).alloc _⟩
  exact heap_alloc2_new w _ _
end Go.Proofs.Ytdoodbaogmdloab
