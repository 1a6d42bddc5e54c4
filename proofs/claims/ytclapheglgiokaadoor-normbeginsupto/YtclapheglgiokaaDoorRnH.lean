/-
  Blanks at a text's ends: makeASCIISet and contains: contracts that the statements' walks use.
-/
import Derived.Test.YtclapheglgiokaaDoorRnG
import Derived.Deep.WholeRow
import Derived.Laws.Rows
import Derived.Laws.Tables
namespace Go.Proofs.YtclapheglgiokaaDoor
open Go.RowKit
set_option linter.unusedVariables false
set_option maxRecDepth 100000

/-- A block of that type. -/
def Blk (W : World) (g t : Nat) (cs : Array Value) : Prop := W.heap[g]? = some (.cells cs t (0, 0))
theorem Blk.q {W W' : World} {g t : Nat} {cs : Array Value} (h : Blk W g t cs) (k : Q W W') : Blk W' g t cs := (Below.block k g (lt_of_block h)).trans h
theorem Blk.drew {W : World} {g t : Nat} {cs : Array Value} (h : Blk W g t cs) : Blk W.drew g t cs := h
theorem Blk.cell {W : World} {g t : Nat} {cs : Array Value} (h : Blk W g t cs) (j : Nat) : W.cell? ⟨g, j, none⟩ = cs[j]? := cell_of_row W g j cs t (0, 0) h
theorem Blk.frozen {W : World} {g t : Nat} {cs : Array Value} (h : Blk W g t cs) (j : Nat) : W.frozen? ⟨g, j, none⟩ = false := frozen_of_row W g j cs t h
theorem Blk.set {W : World} {g t : Nat} {cs : Array Value} (h : Blk W g t cs) (j : Nat) (v : Value) : Blk (W.setCell ⟨g, j, none⟩ v) g t (cs.setIfInBounds j v) := heap_setCell_same W g j cs t v h
theorem Blk.setOther {W : World} {g g' t j : Nat} {cs : Array Value} {v : Value} (h : Blk W g t cs) (hne : g ≠ g') : Blk (W.setCell ⟨g', j, none⟩ v) g t cs := (heap_setCell_other W ⟨g', j, none⟩ g v (fun e => hne (by simpa using e))).trans h
theorem blk_new (W : World) (cs : Array Value) (t : Nat) : Blk (W.alloc (.cells cs t)) W.heap.size t cs := heap_alloc_new W _
theorem Blk.lt {W : World} {g t : Nat} {cs : Array Value} (h : Blk W g t cs) : g < W.heap.size := lt_of_block h
theorem ret_arr {fn : Func} {p : Tmp} {ty : TypeId} {a : Act} {w : World} {R : Ending → World → Prop} {n e : Nat} (hr : fn.results = #[.cell p ty]) (hd : a.defers = [])
    (g : Nat) (cs : Array Value) (hu : Tryd.prog.underlying ty = some (.array n e)) (hi : (Tryd.prog.info? ty).map (·.size) = some cs.size) (hp : a.tmps.getD p undef = .pointer (some ⟨g, 0, none⟩)) (hb : w.heap[g]? = some (.cells cs ty (0, 0))) (hR : R (.returned (.agg cs)) w) : bodyPost Tryd.prog fn R .ret a w :=
  ⟨hd, _, results_cell_row hr _ w g ty _ (0, 0) _ hp hb hu rfl hi, hR⟩

def aset (l : List Nat) : List Value := (List.range 256).map fun n => .bool (l.contains n)
theorem aset_len (l : List Nat) : (aset l).length = 256 := by simp [aset]
theorem info79 : (Tryd.prog.info? 157).map (fun i => (i.zero, i.size, i.bytes)) = some (some (.agg (aset []).toArray), 256, 256) := by kernel_rfl
theorem aset_get (l : List Nat) (n : Nat) (h : n < 256) : (aset l).toArray[n]? = some (.bool (l.contains n)) := by
  rw [List.getElem?_toArray]
  unfold aset
  rw [List.getElem?_map, List.getElem?_eq_getElem (by simpa using h)]
  simp
theorem aset_set (l : List Nat) (n : Nat) (h : n < 256) : (aset l).toArray.setIfInBounds n (.bool true) = (aset (n :: l)).toArray := by
  apply Array.toList_inj.1
  rw [Array.toList_setIfInBounds]
  show (aset l).set n _ = aset (n :: l)
  apply List.ext_getElem?
  intro j
  by_cases hj : j < 256
  · have e := aset_get (n :: l) j hj
    rw [List.getElem?_toArray] at e
    rw [e, List.getElem?_set]
    by_cases hn : n = j
    · subst hn; rw [if_pos rfl, if_pos (by rw [aset_len]; exact h)]; simp
    · rw [if_neg hn]
      have e2 := aset_get l j hj
      rw [List.getElem?_toArray] at e2
      rw [e2]
      have : (n :: l).contains j = l.contains j := by
        rw [List.contains_cons]
        have : (j == n) = false := by simpa using fun x => hn x.symm
        rw [this, Bool.false_or]
      rw [this]
  · rw [List.getElem?_eq_none (by rw [List.length_set, aset_len]; omega), List.getElem?_eq_none (by rw [aset_len]; omega)]
theorem aset_one (l : List Nat) : (aset l).toArray.all (·.oneCell') = true := by
  rw [Array.all_eq_true_iff_forall_mem]
  intro v hv
  simp [aset] at hv
  obtain ⟨n, _, rfl⟩ := hv
  rfl
/-- The set of blanks. -/
def asB : Array Value := (aset [9, 32]).toArray
theorem con_any (g : Nat) (c : Nat) (w : World) (h : Blk w g 157 asB) (hc : c < 256) : Calls Tryd.prog 116 #[.pointer (some ⟨g, 0, none⟩), .int .u8 c] w fun e w' => e = .returned (.bool (blk1 c)) ∧ w' = w := by
  have hcell := h.cell c
  rw [show asB[c]? = _ from aset_get _ c hc] at hcell
  have hb : ([9, 32] : List Nat).contains c = blk1 c := by
    rw [Bool.eq_iff_iff]; simp [blk1]; omega
  rw [hb] at hcell
  have c0 : (0 : Int) ≤ (c : Int) := by omega
  have c1 : (c : Int) < 256 := by omega
  clear h hb
  generalize blk1 c = b at *
  go_enter Tryd.func116, Tryd.ntmps116
  go_wp2
  go_ret
  exact ⟨rfl, rfl⟩
end Go.Proofs.YtclapheglgiokaaDoor
