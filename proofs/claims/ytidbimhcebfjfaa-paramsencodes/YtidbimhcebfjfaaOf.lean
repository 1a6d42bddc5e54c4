/-
  The document's parameters by ids: their cells, and what the program's are by them. Contracts of the law's own of.
-/
import Derived.Test.YtidbimhcebfjfaaChn
import Derived.BigRegion
import Derived.Deep.RegionHeld3
import Derived.Deep.Cut
import Derived.Deep.CutRange
namespace Go.Proofs.Ytidbimhcebfjfaa
open Go.RowKit
set_option linter.unusedVariables false
set_option maxRecDepth 20000

/-- The document's cells of parameters. -/
def rc (m : Pm) (s : Nat → Sv) : Array Value :=
  #[.int .i64 (m.num 0), .int .i64 (m.num 1), .int .i64 (m.num 2), .int .i64 (m.num 3), .int .i64 (m.num 4), .int .i64 (m.num 5), .int .i64 (m.num 6), .int .i64 (m.num 7), .int .i64 (m.num 8), .int .i64 (m.num 9), .int .i64 (m.num 10), .int .i64 (m.num 11), .int .i64 (m.num 12), .int .i64 (m.num 13), .int .i64 (m.num 14), .int .i64 (m.num 15), .int .i64 (m.num 16),
    .bool (m.has 0), .bool (m.has 1), .bool (m.has 2), .bool (m.has 3), .bool (m.has 4), .bool (m.has 5), .bool (m.has 6), .bool (m.has 7), .bool (m.has 8), .bool (m.has 9), .bool (m.has 10), .bool (m.has 11), .bool (m.has 12), .bool (m.has 13), .bool (m.has 14), .bool (m.has 15), .bool (m.has 16),
    sv (s 0), sv (s 1), sv (s 2), sv (s 3), sv (s 4), sv (s 5), sv (s 6), sv (s 7), sv (s 8), sv (s 9), sv (s 10), sv (s 11), sv (s 12), sv (s 13), sv (s 14), sv (s 15), sv (s 16), .bool m.mv]
/-- What the document has of the program's parameters. -/
def nrm (m : Pm) : Pm := ⟨fun i => if kd i = 1 then m.num i else 0, fun i => if kd i = 2 ∨ kd i = 3 then m.has i else false, m.byt, m.mv⟩
def nrS (s : Nat → Sv) : Nat → Sv := fun i => if kd i = 2 ∨ kd i = 3 then s i else nilS
theorem info36 : (Try.prog.info? 36).map (·.size) = some 52 := by kernel_rfl
theorem rc_one (m : Pm) (s : Nat → Sv) : (rc m s).all (·.oneCell') = true := by simp [rc, Value.oneCell']
def RB (w : World) (b : Nat) (cs : Array Value) : Prop := w.heap[b]? = some (.cells cs 36 (0, 0))

/-- The end of a call whose result is the document's parameters in a block. -/
theorem ret_rs {fn : Func} {p : Tmp} {a : Act} {w : World} {R : Ending → World → Prop} (hr : fn.results = #[.cell p 36]) (hd : a.defers = [])
    (g ty : Nat) (cs : Array Value) (hs : cs.size = 52) (hp : a.tmps.getD p undef = .pointer (some ⟨g, 0, none⟩)) (hb : w.heap[g]? = some (.cells cs ty (0, 0))) (hR : R (.returned (.agg cs)) w) : bodyPost Try.prog fn R .ret a w :=
  ⟨hd, _, results_cell_row hr _ w g ty _ (0, 0) _ hp hb Try.underlying36 rfl (by rw [hs]; kernel_rfl), hR⟩
/-- Parameters of which only the mark is told, then the bytes' marks, their slices, the numbers. -/
def o1 (m : Pm) : Pm := { zeM with mv := m.mv }
def o2 (m : Pm) : Pm := { o1 m with has := (nrm m).has }
def o3 (m : Pm) : Pm := { o2 m with num := fun i => if i < 8 then (nrm m).num i else 0 }
theorem RB.cell {w : World} {b j : Nat} {cs : Array Value} {v : Value} (h : RB w b cs) (hj : cs[j]? = some v) : w.cell? ⟨b, j, none⟩ = some v := by
  rw [cell_of_row w b j _ 36 (0, 0) h]; exact hj
theorem RB.free {w : World} {b : Nat} {cs : Array Value} (h : RB w b cs) (j : Nat) : w.frozen? ⟨b, j, none⟩ = false := frozen_of_row w b j _ 36 h
theorem RB.set {w : World} {b : Nat} {cs : Array Value} (h : RB w b cs) (j : Nat) (v : Value) : RB (w.setCell ⟨b, j, none⟩ v) b (cs.setIfInBounds j v) := heap_setCell_same w b j _ 36 v h
theorem RB.lt {w : World} {b : Nat} {cs : Array Value} (h : RB w b cs) : b < w.heap.size := lt_of_block h
theorem PB.sett {w : World} {pb b j : Nat} {m : Pm} {s : Nat → Sv} {v : Value} (h : PB w pb m s) (hne : pb ≠ b) : PB (w.setCell ⟨b, j, none⟩ v) pb m s := by
  have k : Keep (fun i => i = b) w (w.setCell ⟨b, j, none⟩ v) := (Keep.refl (fun i => i = b) w).setCell _ _ _ (.inl rfl)
  exact (k.block pb (lt_of_block h) hne).trans h

theorem rb_new2 (w : World) (o : Obj) (cs : Array Value) : RB ((w.alloc o).alloc (.cells cs 36)) (w.heap.size + 1) cs := by
  have e : (w.alloc o).heap.size = w.heap.size + 1 := by simp
  rw [← e]; exact heap_alloc_new _ _
theorem dcel {W : World} {p : Addr} {v : Value} (h : W.cell? p = some v) : W.drew.cell? p = some v := h
abbrev actO (ini : List Value) (n : Nat) : Act := ⟨(ini ++ List.replicate n undef).toArray, []⟩
abbrev O2 (m : Pm) (s : Nat → Sv) (pb qb : Nat) : List Value := [.agg (pc m s), .pointer (some ⟨pb, 0, none⟩), .pointer (some ⟨pb + 1, 0, none⟩), .pointer (some ⟨qb, 0, none⟩), .pointer (some ⟨pb, 19, none⟩), .bool m.mv, .agg (rc (o1 m) (fun _ => nilS))]
def lO2 (m : Pm) (s : Nat → Sv) (pb qb : Nat) : List (Nat × Value) := [(0, .pointer (some ⟨pb, 0, none⟩)), (1, .bool (m.has 0)), (2, .pointer (some ⟨pb, 1, none⟩)), (3, .bool (m.has 2)), (4, .pointer (some ⟨pb, 2, none⟩)), (5, .bool (m.has 15)), (6, .pointer (some ⟨pb, 3, none⟩)), (7, .bool (m.has 16)), (8, .pointer (some ⟨qb, 17, none⟩)), (9, .pointer (some ⟨qb, 17, none⟩)), (11, .pointer (some ⟨qb, 17, none⟩)), (14, .pointer (some ⟨qb, 17, none⟩)), (17, .pointer (some ⟨qb, 17, none⟩))]
abbrev O3 (m : Pm) (s : Nat → Sv) (pb qb : Nat) : List Value := O2 m s pb qb ++ [.pointer (some ⟨pb, 0, none⟩), .bool (m.has 0), .pointer (some ⟨pb, 1, none⟩), .bool (m.has 2), .pointer (some ⟨pb, 2, none⟩), .bool (m.has 15), .pointer (some ⟨pb, 3, none⟩), .bool (m.has 16), .pointer (some ⟨qb, 17, none⟩), .pointer (some ⟨qb, 17, none⟩), .pointer (some ⟨qb, 17, none⟩), .pointer (some ⟨qb, 19, none⟩), .pointer (some ⟨qb, 17, none⟩), .pointer (some ⟨qb, 32, none⟩), .pointer (some ⟨qb, 17, none⟩), .pointer (some ⟨qb, 33, none⟩)]
theorem ch2 (m : Pm) (s : Nat → Sv) (pb qb : Nat) : Chn Try.prog (RofN Try.f12 2) (fun u => PB u pb m s) (lO2 m s pb qb) (Array.replicate 20 false) (actO (O2 m s pb qb) 77) :=
  ⟨⟨by kernel_rfl, by kernel_rfl, by kernel_rfl, by kernel_rfl, fun w h => by kernel_rfl⟩,
    ⟨by kernel_rfl, by kernel_rfl, by kernel_rfl, by kernel_rfl, fun w h => ld_bool (.tmp 7) pb 0 (m.has 0) (by kernel_rfl) (by kernel_rfl) (h.cell rfl)⟩,
    ⟨by kernel_rfl, by kernel_rfl, by kernel_rfl, by kernel_rfl, fun w h => by kernel_rfl⟩,
    ⟨by kernel_rfl, by kernel_rfl, by kernel_rfl, by kernel_rfl, fun w h => ld_bool (.tmp 9) pb 1 (m.has 2) (by kernel_rfl) (by kernel_rfl) (h.cell rfl)⟩,
    ⟨by kernel_rfl, by kernel_rfl, by kernel_rfl, by kernel_rfl, fun w h => by kernel_rfl⟩,
    ⟨by kernel_rfl, by kernel_rfl, by kernel_rfl, by kernel_rfl, fun w h => ld_bool (.tmp 11) pb 2 (m.has 15) (by kernel_rfl) (by kernel_rfl) (h.cell rfl)⟩,
    ⟨by kernel_rfl, by kernel_rfl, by kernel_rfl, by kernel_rfl, fun w h => by kernel_rfl⟩,
    ⟨by kernel_rfl, by kernel_rfl, by kernel_rfl, by kernel_rfl, fun w h => ld_bool (.tmp 13) pb 3 (m.has 16) (by kernel_rfl) (by kernel_rfl) (h.cell rfl)⟩,
    ⟨by kernel_rfl, by kernel_rfl, by kernel_rfl, by kernel_rfl, fun w h => by kernel_rfl⟩,
    ⟨by kernel_rfl, by kernel_rfl, by kernel_rfl, by kernel_rfl, fun w h => by kernel_rfl⟩,
    ⟨by kernel_rfl, by kernel_rfl, by kernel_rfl, by kernel_rfl, fun w h => by kernel_rfl⟩,
    ⟨by kernel_rfl, by kernel_rfl, by kernel_rfl, by kernel_rfl, fun w h => by kernel_rfl⟩,
    ⟨by kernel_rfl, by kernel_rfl, by kernel_rfl, by kernel_rfl, fun w h => by kernel_rfl⟩, trivial⟩
theorem rg2 (m : Pm) (s : Nat → Sv) (pb qb : Nat) (w : World) (Q : Exit → Act → World → Prop) (hP : PB w pb m s) (hR : RB w qb (rc (o1 m) (fun _ => nilS))) (hne : pb ≠ qb) (hQ : ∀ c a d v w, Q (.panic c) (a.put d v) w → Q (.panic c) a w)
    (h : Q .normal (actO (O3 m s pb qb) 61) ((((w.drew.setCell ⟨qb, 17, none⟩ (.bool (m.has 0))).setCell ⟨qb, 19, none⟩ (.bool (m.has 2))).setCell ⟨qb, 32, none⟩ (.bool (m.has 15))).setCell ⟨qb, 33, none⟩ (.bool (m.has 16)))) : (Code.region 2 (RofN Try.f12 2) true).wp Try.prog Q (actO (O2 m s pb qb) 77) w := by
  refine wp_region_held (S := fun u => PB u pb m s) (by kernel_rfl) ?_
  have hsz : (RofN Try.f12 2).size = 20 := by kernel_rfl
  rw [hsz]
  refine chn_take (by kernel_rfl) hQ (show PB w.drew pb m s from hP) 7 (lO2 m s pb qb) _ _ (ch2 m s pb qb) ?_
  refine wpAnyH_all (rs := [10]) (by kernel_rfl) (by simp) ?_
  intro i hi
  obtain rfl : i = 10 := by simpa using hi
  refine wpOp_skip none (by kernel_rfl) (by kernel_rfl) (by kernel_rfl) (st_bool (.tmp 16) (.tmp 8) qb 17 (m.has 0) (false) (by kernel_rfl) (by kernel_rfl) (by kernel_rfl) ((show RB w.drew qb _ from hR).cell rfl) ((show RB w.drew qb _ from hR).free 17)) ⟨(show PB w.drew pb m s from hP).sett hne, ?_⟩
  refine wpAnyH_all (rs := [12]) (by kernel_rfl) (by simp) ?_
  intro i hi
  obtain rfl : i = 12 := by simpa using hi
  refine wpOp_val (v := .pointer (some ⟨qb, 19, none⟩)) (some 18) (by kernel_rfl) (by kernel_rfl) (by kernel_rfl) (by kernel_rfl) ⟨((show PB w.drew pb m s from hP).sett (b := qb) (j := 17) (v := .bool (m.has 0)) hne), ?_⟩
  refine wpAnyH_all (rs := [13]) (by kernel_rfl) (by simp) ?_
  intro i hi
  obtain rfl : i = 13 := by simpa using hi
  refine wpOp_skip none (by kernel_rfl) (by kernel_rfl) (by kernel_rfl) (st_bool (.tmp 18) (.tmp 10) qb 19 (m.has 2) (false) (by kernel_rfl) (by kernel_rfl) (by kernel_rfl) (((show RB w.drew qb _ from hR).set 17 (.bool (m.has 0))).cell rfl) (((show RB w.drew qb _ from hR).set 17 (.bool (m.has 0))).free 19)) ⟨((show PB w.drew pb m s from hP).sett (b := qb) (j := 17) (v := .bool (m.has 0)) hne).sett hne, ?_⟩
  refine wpAnyH_all (rs := [15]) (by kernel_rfl) (by simp) ?_
  intro i hi
  obtain rfl : i = 15 := by simpa using hi
  refine wpOp_val (v := .pointer (some ⟨qb, 32, none⟩)) (some 20) (by kernel_rfl) (by kernel_rfl) (by kernel_rfl) (by kernel_rfl) ⟨(((show PB w.drew pb m s from hP).sett (b := qb) (j := 17) (v := .bool (m.has 0)) hne).sett (b := qb) (j := 19) (v := .bool (m.has 2)) hne), ?_⟩
  refine wpAnyH_all (rs := [16]) (by kernel_rfl) (by simp) ?_
  intro i hi
  obtain rfl : i = 16 := by simpa using hi
  refine wpOp_skip none (by kernel_rfl) (by kernel_rfl) (by kernel_rfl) (st_bool (.tmp 20) (.tmp 12) qb 32 (m.has 15) (false) (by kernel_rfl) (by kernel_rfl) (by kernel_rfl) ((((show RB w.drew qb _ from hR).set 17 (.bool (m.has 0))).set 19 (.bool (m.has 2))).cell rfl) ((((show RB w.drew qb _ from hR).set 17 (.bool (m.has 0))).set 19 (.bool (m.has 2))).free 32)) ⟨(((show PB w.drew pb m s from hP).sett (b := qb) (j := 17) (v := .bool (m.has 0)) hne).sett (b := qb) (j := 19) (v := .bool (m.has 2)) hne).sett hne, ?_⟩
  refine wpAnyH_all (rs := [18]) (by kernel_rfl) (by simp) ?_
  intro i hi
  obtain rfl : i = 18 := by simpa using hi
  refine wpOp_val (v := .pointer (some ⟨qb, 33, none⟩)) (some 22) (by kernel_rfl) (by kernel_rfl) (by kernel_rfl) (by kernel_rfl) ⟨((((show PB w.drew pb m s from hP).sett (b := qb) (j := 17) (v := .bool (m.has 0)) hne).sett (b := qb) (j := 19) (v := .bool (m.has 2)) hne).sett (b := qb) (j := 32) (v := .bool (m.has 15)) hne), ?_⟩
  refine wpAnyH_all (rs := [19]) (by kernel_rfl) (by simp) ?_
  intro i hi
  obtain rfl : i = 19 := by simpa using hi
  refine wpOp_skip none (by kernel_rfl) (by kernel_rfl) (by kernel_rfl) (st_bool (.tmp 22) (.tmp 14) qb 33 (m.has 16) (false) (by kernel_rfl) (by kernel_rfl) (by kernel_rfl) (((((show RB w.drew qb _ from hR).set 17 (.bool (m.has 0))).set 19 (.bool (m.has 2))).set 32 (.bool (m.has 15))).cell rfl) (((((show RB w.drew qb _ from hR).set 17 (.bool (m.has 0))).set 19 (.bool (m.has 2))).set 32 (.bool (m.has 15))).free 33)) ⟨((((show PB w.drew pb m s from hP).sett (b := qb) (j := 17) (v := .bool (m.has 0)) hne).sett (b := qb) (j := 19) (v := .bool (m.has 2)) hne).sett (b := qb) (j := 32) (v := .bool (m.has 15)) hne).sett hne, ?_⟩
  refine wpAnyH_done (by kernel_rfl) ?_ _
  generalize hA : Act.put _ _ _ = A
  have e : A = actO (O3 m s pb qb) 61 := hA.symm.trans (by kernel_rfl)
  rw [e]
  exact h
def lO3 (m : Pm) (s : Nat → Sv) (pb qb : Nat) : List (Nat × Value) := [(0, .pointer (some ⟨pb, 4, none⟩)), (1, sv (s 0)), (2, .pointer (some ⟨pb, 5, none⟩)), (3, sv (s 2)), (4, .pointer (some ⟨pb, 6, none⟩)), (5, sv (s 15)), (6, .pointer (some ⟨pb, 7, none⟩)), (7, sv (s 16)), (8, .pointer (some ⟨qb, 34, none⟩)), (9, .pointer (some ⟨qb, 34, none⟩)), (11, .pointer (some ⟨qb, 34, none⟩)), (14, .pointer (some ⟨qb, 34, none⟩)), (17, .pointer (some ⟨qb, 34, none⟩))]
abbrev O4 (m : Pm) (s : Nat → Sv) (pb qb : Nat) : List Value := O3 m s pb qb ++ [.pointer (some ⟨pb, 4, none⟩), sv (s 0), .pointer (some ⟨pb, 5, none⟩), sv (s 2), .pointer (some ⟨pb, 6, none⟩), sv (s 15), .pointer (some ⟨pb, 7, none⟩), sv (s 16), .pointer (some ⟨qb, 34, none⟩), .pointer (some ⟨qb, 34, none⟩), .pointer (some ⟨qb, 34, none⟩), .pointer (some ⟨qb, 36, none⟩), .pointer (some ⟨qb, 34, none⟩), .pointer (some ⟨qb, 49, none⟩), .pointer (some ⟨qb, 34, none⟩), .pointer (some ⟨qb, 50, none⟩)]
theorem ch3 (m : Pm) (s : Nat → Sv) (pb qb : Nat) : Chn Try.prog (RofN Try.f12 3) (fun u => PB u pb m s) (lO3 m s pb qb) (Array.replicate 20 false) (actO (O3 m s pb qb) 61) :=
  ⟨⟨by kernel_rfl, by kernel_rfl, by kernel_rfl, by kernel_rfl, fun w h => by kernel_rfl⟩,
    ⟨by kernel_rfl, by kernel_rfl, by kernel_rfl, by kernel_rfl, fun w h => ld_sl (.tmp 23) pb 4 (s 0) (by kernel_rfl) (by kernel_rfl) (h.cell rfl)⟩,
    ⟨by kernel_rfl, by kernel_rfl, by kernel_rfl, by kernel_rfl, fun w h => by kernel_rfl⟩,
    ⟨by kernel_rfl, by kernel_rfl, by kernel_rfl, by kernel_rfl, fun w h => ld_sl (.tmp 25) pb 5 (s 2) (by kernel_rfl) (by kernel_rfl) (h.cell rfl)⟩,
    ⟨by kernel_rfl, by kernel_rfl, by kernel_rfl, by kernel_rfl, fun w h => by kernel_rfl⟩,
    ⟨by kernel_rfl, by kernel_rfl, by kernel_rfl, by kernel_rfl, fun w h => ld_sl (.tmp 27) pb 6 (s 15) (by kernel_rfl) (by kernel_rfl) (h.cell rfl)⟩,
    ⟨by kernel_rfl, by kernel_rfl, by kernel_rfl, by kernel_rfl, fun w h => by kernel_rfl⟩,
    ⟨by kernel_rfl, by kernel_rfl, by kernel_rfl, by kernel_rfl, fun w h => ld_sl (.tmp 29) pb 7 (s 16) (by kernel_rfl) (by kernel_rfl) (h.cell rfl)⟩,
    ⟨by kernel_rfl, by kernel_rfl, by kernel_rfl, by kernel_rfl, fun w h => by kernel_rfl⟩,
    ⟨by kernel_rfl, by kernel_rfl, by kernel_rfl, by kernel_rfl, fun w h => by kernel_rfl⟩,
    ⟨by kernel_rfl, by kernel_rfl, by kernel_rfl, by kernel_rfl, fun w h => by kernel_rfl⟩,
    ⟨by kernel_rfl, by kernel_rfl, by kernel_rfl, by kernel_rfl, fun w h => by kernel_rfl⟩,
    ⟨by kernel_rfl, by kernel_rfl, by kernel_rfl, by kernel_rfl, fun w h => by kernel_rfl⟩, trivial⟩
theorem rg3 (m : Pm) (s : Nat → Sv) (pb qb : Nat) (w : World) (Q : Exit → Act → World → Prop) (hP : PB w pb m s) (hR : RB w qb (rc (o2 m) (fun _ => nilS))) (hne : pb ≠ qb) (hQ : ∀ c a d v w, Q (.panic c) (a.put d v) w → Q (.panic c) a w)
    (h : Q .normal (actO (O4 m s pb qb) 45) ((((w.drew.setCell ⟨qb, 34, none⟩ (sv (s 0))).setCell ⟨qb, 36, none⟩ (sv (s 2))).setCell ⟨qb, 49, none⟩ (sv (s 15))).setCell ⟨qb, 50, none⟩ (sv (s 16)))) : (Code.region 3 (RofN Try.f12 3) true).wp Try.prog Q (actO (O3 m s pb qb) 61) w := by
  refine wp_region_held (S := fun u => PB u pb m s) (by kernel_rfl) ?_
  have hsz : (RofN Try.f12 3).size = 20 := by kernel_rfl
  rw [hsz]
  refine chn_take (by kernel_rfl) hQ (show PB w.drew pb m s from hP) 7 (lO3 m s pb qb) _ _ (ch3 m s pb qb) ?_
  refine wpAnyH_all (rs := [10]) (by kernel_rfl) (by simp) ?_
  intro i hi
  obtain rfl : i = 10 := by simpa using hi
  refine wpOp_skip none (by kernel_rfl) (by kernel_rfl) (by kernel_rfl) (st_sl (.tmp 32) (.tmp 24) qb 34 (s 0) (nilS) (by kernel_rfl) (by kernel_rfl) (by kernel_rfl) ((show RB w.drew qb _ from hR).cell rfl) ((show RB w.drew qb _ from hR).free 34)) ⟨(show PB w.drew pb m s from hP).sett hne, ?_⟩
  refine wpAnyH_all (rs := [12]) (by kernel_rfl) (by simp) ?_
  intro i hi
  obtain rfl : i = 12 := by simpa using hi
  refine wpOp_val (v := .pointer (some ⟨qb, 36, none⟩)) (some 34) (by kernel_rfl) (by kernel_rfl) (by kernel_rfl) (by kernel_rfl) ⟨((show PB w.drew pb m s from hP).sett (b := qb) (j := 34) (v := sv (s 0)) hne), ?_⟩
  refine wpAnyH_all (rs := [13]) (by kernel_rfl) (by simp) ?_
  intro i hi
  obtain rfl : i = 13 := by simpa using hi
  refine wpOp_skip none (by kernel_rfl) (by kernel_rfl) (by kernel_rfl) (st_sl (.tmp 34) (.tmp 26) qb 36 (s 2) (nilS) (by kernel_rfl) (by kernel_rfl) (by kernel_rfl) (((show RB w.drew qb _ from hR).set 34 (sv (s 0))).cell rfl) (((show RB w.drew qb _ from hR).set 34 (sv (s 0))).free 36)) ⟨((show PB w.drew pb m s from hP).sett (b := qb) (j := 34) (v := sv (s 0)) hne).sett hne, ?_⟩
  refine wpAnyH_all (rs := [15]) (by kernel_rfl) (by simp) ?_
  intro i hi
  obtain rfl : i = 15 := by simpa using hi
  refine wpOp_val (v := .pointer (some ⟨qb, 49, none⟩)) (some 36) (by kernel_rfl) (by kernel_rfl) (by kernel_rfl) (by kernel_rfl) ⟨(((show PB w.drew pb m s from hP).sett (b := qb) (j := 34) (v := sv (s 0)) hne).sett (b := qb) (j := 36) (v := sv (s 2)) hne), ?_⟩
  refine wpAnyH_all (rs := [16]) (by kernel_rfl) (by simp) ?_
  intro i hi
  obtain rfl : i = 16 := by simpa using hi
  refine wpOp_skip none (by kernel_rfl) (by kernel_rfl) (by kernel_rfl) (st_sl (.tmp 36) (.tmp 28) qb 49 (s 15) (nilS) (by kernel_rfl) (by kernel_rfl) (by kernel_rfl) ((((show RB w.drew qb _ from hR).set 34 (sv (s 0))).set 36 (sv (s 2))).cell rfl) ((((show RB w.drew qb _ from hR).set 34 (sv (s 0))).set 36 (sv (s 2))).free 49)) ⟨(((show PB w.drew pb m s from hP).sett (b := qb) (j := 34) (v := sv (s 0)) hne).sett (b := qb) (j := 36) (v := sv (s 2)) hne).sett hne, ?_⟩
  refine wpAnyH_all (rs := [18]) (by kernel_rfl) (by simp) ?_
  intro i hi
  obtain rfl : i = 18 := by simpa using hi
  refine wpOp_val (v := .pointer (some ⟨qb, 50, none⟩)) (some 38) (by kernel_rfl) (by kernel_rfl) (by kernel_rfl) (by kernel_rfl) ⟨((((show PB w.drew pb m s from hP).sett (b := qb) (j := 34) (v := sv (s 0)) hne).sett (b := qb) (j := 36) (v := sv (s 2)) hne).sett (b := qb) (j := 49) (v := sv (s 15)) hne), ?_⟩
  refine wpAnyH_all (rs := [19]) (by kernel_rfl) (by simp) ?_
  intro i hi
  obtain rfl : i = 19 := by simpa using hi
  refine wpOp_skip none (by kernel_rfl) (by kernel_rfl) (by kernel_rfl) (st_sl (.tmp 38) (.tmp 30) qb 50 (s 16) (nilS) (by kernel_rfl) (by kernel_rfl) (by kernel_rfl) (((((show RB w.drew qb _ from hR).set 34 (sv (s 0))).set 36 (sv (s 2))).set 49 (sv (s 15))).cell rfl) (((((show RB w.drew qb _ from hR).set 34 (sv (s 0))).set 36 (sv (s 2))).set 49 (sv (s 15))).free 50)) ⟨((((show PB w.drew pb m s from hP).sett (b := qb) (j := 34) (v := sv (s 0)) hne).sett (b := qb) (j := 36) (v := sv (s 2)) hne).sett (b := qb) (j := 49) (v := sv (s 15)) hne).sett hne, ?_⟩
  refine wpAnyH_done (by kernel_rfl) ?_ _
  generalize hA : Act.put _ _ _ = A
  have e : A = actO (O4 m s pb qb) 45 := hA.symm.trans (by kernel_rfl)
  rw [e]
  exact h
def lO4 (m : Pm) (s : Nat → Sv) (pb qb : Nat) : List (Nat × Value) := [(0, .pointer (some ⟨pb, 8, none⟩)), (1, .int .i64 (m.num 1)), (2, .pointer (some ⟨pb, 9, none⟩)), (3, .int .i64 (m.num 3)), (4, .pointer (some ⟨pb, 10, none⟩)), (5, .int .i64 (m.num 4)), (6, .pointer (some ⟨pb, 11, none⟩)), (7, .int .i64 (m.num 5)), (8, .pointer (some ⟨pb, 12, none⟩)), (9, .int .i64 (m.num 6)), (10, .pointer (some ⟨pb, 13, none⟩)), (11, .int .i64 (m.num 7)), (12, .pointer (some ⟨qb, 0, none⟩)), (13, .pointer (some ⟨qb, 1, none⟩)), (15, .pointer (some ⟨qb, 0, none⟩)), (18, .pointer (some ⟨qb, 0, none⟩)), (21, .pointer (some ⟨qb, 0, none⟩)), (24, .pointer (some ⟨qb, 0, none⟩)), (27, .pointer (some ⟨qb, 0, none⟩))]
abbrev O5 (m : Pm) (s : Nat → Sv) (pb qb : Nat) : List Value := O4 m s pb qb ++ [.pointer (some ⟨pb, 8, none⟩), .int .i64 (m.num 1), .pointer (some ⟨pb, 9, none⟩), .int .i64 (m.num 3), .pointer (some ⟨pb, 10, none⟩), .int .i64 (m.num 4), .pointer (some ⟨pb, 11, none⟩), .int .i64 (m.num 5), .pointer (some ⟨pb, 12, none⟩), .int .i64 (m.num 6), .pointer (some ⟨pb, 13, none⟩), .int .i64 (m.num 7), .pointer (some ⟨qb, 0, none⟩), .pointer (some ⟨qb, 1, none⟩), .pointer (some ⟨qb, 0, none⟩), .pointer (some ⟨qb, 3, none⟩), .pointer (some ⟨qb, 0, none⟩), .pointer (some ⟨qb, 4, none⟩), .pointer (some ⟨qb, 0, none⟩), .pointer (some ⟨qb, 5, none⟩), .pointer (some ⟨qb, 0, none⟩), .pointer (some ⟨qb, 6, none⟩), .pointer (some ⟨qb, 0, none⟩), .pointer (some ⟨qb, 7, none⟩)]
theorem ch4 (m : Pm) (s : Nat → Sv) (pb qb : Nat) : Chn Try.prog (RofN Try.f12 4) (fun u => PB u pb m s) (lO4 m s pb qb) (Array.replicate 30 false) (actO (O4 m s pb qb) 45) :=
  ⟨⟨by kernel_rfl, by kernel_rfl, by kernel_rfl, by kernel_rfl, fun w h => by kernel_rfl⟩,
    ⟨by kernel_rfl, by kernel_rfl, by kernel_rfl, by kernel_rfl, fun w h => run_ld (.tmp 39) pb 8 (m.num 1) (by kernel_rfl) (by kernel_rfl) (h.cell rfl)⟩,
    ⟨by kernel_rfl, by kernel_rfl, by kernel_rfl, by kernel_rfl, fun w h => by kernel_rfl⟩,
    ⟨by kernel_rfl, by kernel_rfl, by kernel_rfl, by kernel_rfl, fun w h => run_ld (.tmp 41) pb 9 (m.num 3) (by kernel_rfl) (by kernel_rfl) (h.cell rfl)⟩,
    ⟨by kernel_rfl, by kernel_rfl, by kernel_rfl, by kernel_rfl, fun w h => by kernel_rfl⟩,
    ⟨by kernel_rfl, by kernel_rfl, by kernel_rfl, by kernel_rfl, fun w h => run_ld (.tmp 43) pb 10 (m.num 4) (by kernel_rfl) (by kernel_rfl) (h.cell rfl)⟩,
    ⟨by kernel_rfl, by kernel_rfl, by kernel_rfl, by kernel_rfl, fun w h => by kernel_rfl⟩,
    ⟨by kernel_rfl, by kernel_rfl, by kernel_rfl, by kernel_rfl, fun w h => run_ld (.tmp 45) pb 11 (m.num 5) (by kernel_rfl) (by kernel_rfl) (h.cell rfl)⟩,
    ⟨by kernel_rfl, by kernel_rfl, by kernel_rfl, by kernel_rfl, fun w h => by kernel_rfl⟩,
    ⟨by kernel_rfl, by kernel_rfl, by kernel_rfl, by kernel_rfl, fun w h => run_ld (.tmp 47) pb 12 (m.num 6) (by kernel_rfl) (by kernel_rfl) (h.cell rfl)⟩,
    ⟨by kernel_rfl, by kernel_rfl, by kernel_rfl, by kernel_rfl, fun w h => by kernel_rfl⟩,
    ⟨by kernel_rfl, by kernel_rfl, by kernel_rfl, by kernel_rfl, fun w h => run_ld (.tmp 49) pb 13 (m.num 7) (by kernel_rfl) (by kernel_rfl) (h.cell rfl)⟩,
    ⟨by kernel_rfl, by kernel_rfl, by kernel_rfl, by kernel_rfl, fun w h => by kernel_rfl⟩,
    ⟨by kernel_rfl, by kernel_rfl, by kernel_rfl, by kernel_rfl, fun w h => by kernel_rfl⟩,
    ⟨by kernel_rfl, by kernel_rfl, by kernel_rfl, by kernel_rfl, fun w h => by kernel_rfl⟩,
    ⟨by kernel_rfl, by kernel_rfl, by kernel_rfl, by kernel_rfl, fun w h => by kernel_rfl⟩,
    ⟨by kernel_rfl, by kernel_rfl, by kernel_rfl, by kernel_rfl, fun w h => by kernel_rfl⟩,
    ⟨by kernel_rfl, by kernel_rfl, by kernel_rfl, by kernel_rfl, fun w h => by kernel_rfl⟩,
    ⟨by kernel_rfl, by kernel_rfl, by kernel_rfl, by kernel_rfl, fun w h => by kernel_rfl⟩, trivial⟩
theorem rg4 (m : Pm) (s : Nat → Sv) (pb qb : Nat) (w : World) (Q : Exit → Act → World → Prop) (hP : PB w pb m s) (hR : RB w qb (rc (o2 m) (nrS s))) (hne : pb ≠ qb) (hQ : ∀ c a d v w, Q (.panic c) (a.put d v) w → Q (.panic c) a w)
    (h : Q .normal (actO (O5 m s pb qb) 21) ((((((w.drew.setCell ⟨qb, 1, none⟩ (.int .i64 (m.num 1))).setCell ⟨qb, 3, none⟩ (.int .i64 (m.num 3))).setCell ⟨qb, 4, none⟩ (.int .i64 (m.num 4))).setCell ⟨qb, 5, none⟩ (.int .i64 (m.num 5))).setCell ⟨qb, 6, none⟩ (.int .i64 (m.num 6))).setCell ⟨qb, 7, none⟩ (.int .i64 (m.num 7)))) : (Code.region 4 (RofN Try.f12 4) true).wp Try.prog Q (actO (O4 m s pb qb) 45) w := by
  refine wp_region_held (S := fun u => PB u pb m s) (by kernel_rfl) ?_
  have hsz : (RofN Try.f12 4).size = 30 := by kernel_rfl
  rw [hsz]
  refine chn_take (by kernel_rfl) hQ (show PB w.drew pb m s from hP) 11 (lO4 m s pb qb) _ _ (ch4 m s pb qb) ?_
  refine wpAnyH_all (rs := [14]) (by kernel_rfl) (by simp) ?_
  intro i hi
  obtain rfl : i = 14 := by simpa using hi
  refine wpOp_skip none (by kernel_rfl) (by kernel_rfl) (by kernel_rfl) (st_int (.tmp 52) (.tmp 40) qb 1 (m.num 1) (0) (by kernel_rfl) (by kernel_rfl) (by kernel_rfl) ((show RB w.drew qb _ from hR).cell rfl) ((show RB w.drew qb _ from hR).free 1)) ⟨(show PB w.drew pb m s from hP).sett hne, ?_⟩
  refine wpAnyH_all (rs := [16]) (by kernel_rfl) (by simp) ?_
  intro i hi
  obtain rfl : i = 16 := by simpa using hi
  refine wpOp_val (v := .pointer (some ⟨qb, 3, none⟩)) (some 54) (by kernel_rfl) (by kernel_rfl) (by kernel_rfl) (by kernel_rfl) ⟨((show PB w.drew pb m s from hP).sett (b := qb) (j := 1) (v := .int .i64 (m.num 1)) hne), ?_⟩
  refine wpAnyH_all (rs := [17]) (by kernel_rfl) (by simp) ?_
  intro i hi
  obtain rfl : i = 17 := by simpa using hi
  refine wpOp_skip none (by kernel_rfl) (by kernel_rfl) (by kernel_rfl) (st_int (.tmp 54) (.tmp 42) qb 3 (m.num 3) (0) (by kernel_rfl) (by kernel_rfl) (by kernel_rfl) (((show RB w.drew qb _ from hR).set 1 (.int .i64 (m.num 1))).cell rfl) (((show RB w.drew qb _ from hR).set 1 (.int .i64 (m.num 1))).free 3)) ⟨((show PB w.drew pb m s from hP).sett (b := qb) (j := 1) (v := .int .i64 (m.num 1)) hne).sett hne, ?_⟩
  refine wpAnyH_all (rs := [19]) (by kernel_rfl) (by simp) ?_
  intro i hi
  obtain rfl : i = 19 := by simpa using hi
  refine wpOp_val (v := .pointer (some ⟨qb, 4, none⟩)) (some 56) (by kernel_rfl) (by kernel_rfl) (by kernel_rfl) (by kernel_rfl) ⟨(((show PB w.drew pb m s from hP).sett (b := qb) (j := 1) (v := .int .i64 (m.num 1)) hne).sett (b := qb) (j := 3) (v := .int .i64 (m.num 3)) hne), ?_⟩
  refine wpAnyH_all (rs := [20]) (by kernel_rfl) (by simp) ?_
  intro i hi
  obtain rfl : i = 20 := by simpa using hi
  refine wpOp_skip none (by kernel_rfl) (by kernel_rfl) (by kernel_rfl) (st_int (.tmp 56) (.tmp 44) qb 4 (m.num 4) (0) (by kernel_rfl) (by kernel_rfl) (by kernel_rfl) ((((show RB w.drew qb _ from hR).set 1 (.int .i64 (m.num 1))).set 3 (.int .i64 (m.num 3))).cell rfl) ((((show RB w.drew qb _ from hR).set 1 (.int .i64 (m.num 1))).set 3 (.int .i64 (m.num 3))).free 4)) ⟨(((show PB w.drew pb m s from hP).sett (b := qb) (j := 1) (v := .int .i64 (m.num 1)) hne).sett (b := qb) (j := 3) (v := .int .i64 (m.num 3)) hne).sett hne, ?_⟩
  refine wpAnyH_all (rs := [22]) (by kernel_rfl) (by simp) ?_
  intro i hi
  obtain rfl : i = 22 := by simpa using hi
  refine wpOp_val (v := .pointer (some ⟨qb, 5, none⟩)) (some 58) (by kernel_rfl) (by kernel_rfl) (by kernel_rfl) (by kernel_rfl) ⟨((((show PB w.drew pb m s from hP).sett (b := qb) (j := 1) (v := .int .i64 (m.num 1)) hne).sett (b := qb) (j := 3) (v := .int .i64 (m.num 3)) hne).sett (b := qb) (j := 4) (v := .int .i64 (m.num 4)) hne), ?_⟩
  refine wpAnyH_all (rs := [23]) (by kernel_rfl) (by simp) ?_
  intro i hi
  obtain rfl : i = 23 := by simpa using hi
  refine wpOp_skip none (by kernel_rfl) (by kernel_rfl) (by kernel_rfl) (st_int (.tmp 58) (.tmp 46) qb 5 (m.num 5) (0) (by kernel_rfl) (by kernel_rfl) (by kernel_rfl) (((((show RB w.drew qb _ from hR).set 1 (.int .i64 (m.num 1))).set 3 (.int .i64 (m.num 3))).set 4 (.int .i64 (m.num 4))).cell rfl) (((((show RB w.drew qb _ from hR).set 1 (.int .i64 (m.num 1))).set 3 (.int .i64 (m.num 3))).set 4 (.int .i64 (m.num 4))).free 5)) ⟨((((show PB w.drew pb m s from hP).sett (b := qb) (j := 1) (v := .int .i64 (m.num 1)) hne).sett (b := qb) (j := 3) (v := .int .i64 (m.num 3)) hne).sett (b := qb) (j := 4) (v := .int .i64 (m.num 4)) hne).sett hne, ?_⟩
  refine wpAnyH_all (rs := [25]) (by kernel_rfl) (by simp) ?_
  intro i hi
  obtain rfl : i = 25 := by simpa using hi
  refine wpOp_val (v := .pointer (some ⟨qb, 6, none⟩)) (some 60) (by kernel_rfl) (by kernel_rfl) (by kernel_rfl) (by kernel_rfl) ⟨(((((show PB w.drew pb m s from hP).sett (b := qb) (j := 1) (v := .int .i64 (m.num 1)) hne).sett (b := qb) (j := 3) (v := .int .i64 (m.num 3)) hne).sett (b := qb) (j := 4) (v := .int .i64 (m.num 4)) hne).sett (b := qb) (j := 5) (v := .int .i64 (m.num 5)) hne), ?_⟩
  refine wpAnyH_all (rs := [26]) (by kernel_rfl) (by simp) ?_
  intro i hi
  obtain rfl : i = 26 := by simpa using hi
  refine wpOp_skip none (by kernel_rfl) (by kernel_rfl) (by kernel_rfl) (st_int (.tmp 60) (.tmp 48) qb 6 (m.num 6) (0) (by kernel_rfl) (by kernel_rfl) (by kernel_rfl) ((((((show RB w.drew qb _ from hR).set 1 (.int .i64 (m.num 1))).set 3 (.int .i64 (m.num 3))).set 4 (.int .i64 (m.num 4))).set 5 (.int .i64 (m.num 5))).cell rfl) ((((((show RB w.drew qb _ from hR).set 1 (.int .i64 (m.num 1))).set 3 (.int .i64 (m.num 3))).set 4 (.int .i64 (m.num 4))).set 5 (.int .i64 (m.num 5))).free 6)) ⟨(((((show PB w.drew pb m s from hP).sett (b := qb) (j := 1) (v := .int .i64 (m.num 1)) hne).sett (b := qb) (j := 3) (v := .int .i64 (m.num 3)) hne).sett (b := qb) (j := 4) (v := .int .i64 (m.num 4)) hne).sett (b := qb) (j := 5) (v := .int .i64 (m.num 5)) hne).sett hne, ?_⟩
  refine wpAnyH_all (rs := [28]) (by kernel_rfl) (by simp) ?_
  intro i hi
  obtain rfl : i = 28 := by simpa using hi
  refine wpOp_val (v := .pointer (some ⟨qb, 7, none⟩)) (some 62) (by kernel_rfl) (by kernel_rfl) (by kernel_rfl) (by kernel_rfl) ⟨((((((show PB w.drew pb m s from hP).sett (b := qb) (j := 1) (v := .int .i64 (m.num 1)) hne).sett (b := qb) (j := 3) (v := .int .i64 (m.num 3)) hne).sett (b := qb) (j := 4) (v := .int .i64 (m.num 4)) hne).sett (b := qb) (j := 5) (v := .int .i64 (m.num 5)) hne).sett (b := qb) (j := 6) (v := .int .i64 (m.num 6)) hne), ?_⟩
  refine wpAnyH_all (rs := [29]) (by kernel_rfl) (by simp) ?_
  intro i hi
  obtain rfl : i = 29 := by simpa using hi
  refine wpOp_skip none (by kernel_rfl) (by kernel_rfl) (by kernel_rfl) (st_int (.tmp 62) (.tmp 50) qb 7 (m.num 7) (0) (by kernel_rfl) (by kernel_rfl) (by kernel_rfl) (((((((show RB w.drew qb _ from hR).set 1 (.int .i64 (m.num 1))).set 3 (.int .i64 (m.num 3))).set 4 (.int .i64 (m.num 4))).set 5 (.int .i64 (m.num 5))).set 6 (.int .i64 (m.num 6))).cell rfl) (((((((show RB w.drew qb _ from hR).set 1 (.int .i64 (m.num 1))).set 3 (.int .i64 (m.num 3))).set 4 (.int .i64 (m.num 4))).set 5 (.int .i64 (m.num 5))).set 6 (.int .i64 (m.num 6))).free 7)) ⟨((((((show PB w.drew pb m s from hP).sett (b := qb) (j := 1) (v := .int .i64 (m.num 1)) hne).sett (b := qb) (j := 3) (v := .int .i64 (m.num 3)) hne).sett (b := qb) (j := 4) (v := .int .i64 (m.num 4)) hne).sett (b := qb) (j := 5) (v := .int .i64 (m.num 5)) hne).sett (b := qb) (j := 6) (v := .int .i64 (m.num 6)) hne).sett hne, ?_⟩
  refine wpAnyH_done (by kernel_rfl) ?_ _
  generalize hA : Act.put _ _ _ = A
  have e : A = actO (O5 m s pb qb) 21 := hA.symm.trans (by kernel_rfl)
  rw [e]
  exact h
def lO5 (m : Pm) (s : Nat → Sv) (pb qb : Nat) : List (Nat × Value) := [(0, .pointer (some ⟨pb, 14, none⟩)), (1, .int .i64 (m.num 8)), (2, .pointer (some ⟨pb, 15, none⟩)), (3, .int .i64 (m.num 9)), (4, .pointer (some ⟨pb, 16, none⟩)), (5, .int .i64 (m.num 10)), (6, .pointer (some ⟨pb, 17, none⟩)), (7, .int .i64 (m.num 11)), (8, .pointer (some ⟨pb, 18, none⟩)), (9, .int .i64 (m.num 14)), (10, .pointer (some ⟨qb, 0, none⟩)), (11, .pointer (some ⟨qb, 8, none⟩)), (13, .pointer (some ⟨qb, 0, none⟩)), (16, .pointer (some ⟨qb, 0, none⟩)), (19, .pointer (some ⟨qb, 0, none⟩)), (22, .pointer (some ⟨qb, 0, none⟩))]
abbrev O6 (m : Pm) (s : Nat → Sv) (pb qb : Nat) : List Value := O5 m s pb qb ++ [.pointer (some ⟨pb, 14, none⟩), .int .i64 (m.num 8), .pointer (some ⟨pb, 15, none⟩), .int .i64 (m.num 9), .pointer (some ⟨pb, 16, none⟩), .int .i64 (m.num 10), .pointer (some ⟨pb, 17, none⟩), .int .i64 (m.num 11), .pointer (some ⟨pb, 18, none⟩), .int .i64 (m.num 14), .pointer (some ⟨qb, 0, none⟩), .pointer (some ⟨qb, 8, none⟩), .pointer (some ⟨qb, 0, none⟩), .pointer (some ⟨qb, 9, none⟩), .pointer (some ⟨qb, 0, none⟩), .pointer (some ⟨qb, 10, none⟩), .pointer (some ⟨qb, 0, none⟩), .pointer (some ⟨qb, 11, none⟩), .pointer (some ⟨qb, 0, none⟩), .pointer (some ⟨qb, 14, none⟩)]
theorem ch5 (m : Pm) (s : Nat → Sv) (pb qb : Nat) : Chn Try.prog (RofN Try.f12 5) (fun u => PB u pb m s) (lO5 m s pb qb) (Array.replicate 25 false) (actO (O5 m s pb qb) 21) :=
  ⟨⟨by kernel_rfl, by kernel_rfl, by kernel_rfl, by kernel_rfl, fun w h => by kernel_rfl⟩,
    ⟨by kernel_rfl, by kernel_rfl, by kernel_rfl, by kernel_rfl, fun w h => run_ld (.tmp 63) pb 14 (m.num 8) (by kernel_rfl) (by kernel_rfl) (h.cell rfl)⟩,
    ⟨by kernel_rfl, by kernel_rfl, by kernel_rfl, by kernel_rfl, fun w h => by kernel_rfl⟩,
    ⟨by kernel_rfl, by kernel_rfl, by kernel_rfl, by kernel_rfl, fun w h => run_ld (.tmp 65) pb 15 (m.num 9) (by kernel_rfl) (by kernel_rfl) (h.cell rfl)⟩,
    ⟨by kernel_rfl, by kernel_rfl, by kernel_rfl, by kernel_rfl, fun w h => by kernel_rfl⟩,
    ⟨by kernel_rfl, by kernel_rfl, by kernel_rfl, by kernel_rfl, fun w h => run_ld (.tmp 67) pb 16 (m.num 10) (by kernel_rfl) (by kernel_rfl) (h.cell rfl)⟩,
    ⟨by kernel_rfl, by kernel_rfl, by kernel_rfl, by kernel_rfl, fun w h => by kernel_rfl⟩,
    ⟨by kernel_rfl, by kernel_rfl, by kernel_rfl, by kernel_rfl, fun w h => run_ld (.tmp 69) pb 17 (m.num 11) (by kernel_rfl) (by kernel_rfl) (h.cell rfl)⟩,
    ⟨by kernel_rfl, by kernel_rfl, by kernel_rfl, by kernel_rfl, fun w h => by kernel_rfl⟩,
    ⟨by kernel_rfl, by kernel_rfl, by kernel_rfl, by kernel_rfl, fun w h => run_ld (.tmp 71) pb 18 (m.num 14) (by kernel_rfl) (by kernel_rfl) (h.cell rfl)⟩,
    ⟨by kernel_rfl, by kernel_rfl, by kernel_rfl, by kernel_rfl, fun w h => by kernel_rfl⟩,
    ⟨by kernel_rfl, by kernel_rfl, by kernel_rfl, by kernel_rfl, fun w h => by kernel_rfl⟩,
    ⟨by kernel_rfl, by kernel_rfl, by kernel_rfl, by kernel_rfl, fun w h => by kernel_rfl⟩,
    ⟨by kernel_rfl, by kernel_rfl, by kernel_rfl, by kernel_rfl, fun w h => by kernel_rfl⟩,
    ⟨by kernel_rfl, by kernel_rfl, by kernel_rfl, by kernel_rfl, fun w h => by kernel_rfl⟩,
    ⟨by kernel_rfl, by kernel_rfl, by kernel_rfl, by kernel_rfl, fun w h => by kernel_rfl⟩, trivial⟩
theorem rg5 (m : Pm) (s : Nat → Sv) (pb qb : Nat) (w : World) (Q : Exit → Act → World → Prop) (hP : PB w pb m s) (hR : RB w qb (rc (o3 m) (nrS s))) (hne : pb ≠ qb) (hQ : ∀ c a d v w, Q (.panic c) (a.put d v) w → Q (.panic c) a w)
    (h : Q .normal (actO (O6 m s pb qb) 1) (((((w.drew.setCell ⟨qb, 8, none⟩ (.int .i64 (m.num 8))).setCell ⟨qb, 9, none⟩ (.int .i64 (m.num 9))).setCell ⟨qb, 10, none⟩ (.int .i64 (m.num 10))).setCell ⟨qb, 11, none⟩ (.int .i64 (m.num 11))).setCell ⟨qb, 14, none⟩ (.int .i64 (m.num 14)))) : (Code.region 5 (RofN Try.f12 5) true).wp Try.prog Q (actO (O5 m s pb qb) 21) w := by
  refine wp_region_held (S := fun u => PB u pb m s) (by kernel_rfl) ?_
  have hsz : (RofN Try.f12 5).size = 25 := by kernel_rfl
  rw [hsz]
  refine chn_take (by kernel_rfl) hQ (show PB w.drew pb m s from hP) 9 (lO5 m s pb qb) _ _ (ch5 m s pb qb) ?_
  refine wpAnyH_all (rs := [12]) (by kernel_rfl) (by simp) ?_
  intro i hi
  obtain rfl : i = 12 := by simpa using hi
  refine wpOp_skip none (by kernel_rfl) (by kernel_rfl) (by kernel_rfl) (st_int (.tmp 74) (.tmp 64) qb 8 (m.num 8) (0) (by kernel_rfl) (by kernel_rfl) (by kernel_rfl) ((show RB w.drew qb _ from hR).cell rfl) ((show RB w.drew qb _ from hR).free 8)) ⟨(show PB w.drew pb m s from hP).sett hne, ?_⟩
  refine wpAnyH_all (rs := [14]) (by kernel_rfl) (by simp) ?_
  intro i hi
  obtain rfl : i = 14 := by simpa using hi
  refine wpOp_val (v := .pointer (some ⟨qb, 9, none⟩)) (some 76) (by kernel_rfl) (by kernel_rfl) (by kernel_rfl) (by kernel_rfl) ⟨((show PB w.drew pb m s from hP).sett (b := qb) (j := 8) (v := .int .i64 (m.num 8)) hne), ?_⟩
  refine wpAnyH_all (rs := [15]) (by kernel_rfl) (by simp) ?_
  intro i hi
  obtain rfl : i = 15 := by simpa using hi
  refine wpOp_skip none (by kernel_rfl) (by kernel_rfl) (by kernel_rfl) (st_int (.tmp 76) (.tmp 66) qb 9 (m.num 9) (0) (by kernel_rfl) (by kernel_rfl) (by kernel_rfl) (((show RB w.drew qb _ from hR).set 8 (.int .i64 (m.num 8))).cell rfl) (((show RB w.drew qb _ from hR).set 8 (.int .i64 (m.num 8))).free 9)) ⟨((show PB w.drew pb m s from hP).sett (b := qb) (j := 8) (v := .int .i64 (m.num 8)) hne).sett hne, ?_⟩
  refine wpAnyH_all (rs := [17]) (by kernel_rfl) (by simp) ?_
  intro i hi
  obtain rfl : i = 17 := by simpa using hi
  refine wpOp_val (v := .pointer (some ⟨qb, 10, none⟩)) (some 78) (by kernel_rfl) (by kernel_rfl) (by kernel_rfl) (by kernel_rfl) ⟨(((show PB w.drew pb m s from hP).sett (b := qb) (j := 8) (v := .int .i64 (m.num 8)) hne).sett (b := qb) (j := 9) (v := .int .i64 (m.num 9)) hne), ?_⟩
  refine wpAnyH_all (rs := [18]) (by kernel_rfl) (by simp) ?_
  intro i hi
  obtain rfl : i = 18 := by simpa using hi
  refine wpOp_skip none (by kernel_rfl) (by kernel_rfl) (by kernel_rfl) (st_int (.tmp 78) (.tmp 68) qb 10 (m.num 10) (0) (by kernel_rfl) (by kernel_rfl) (by kernel_rfl) ((((show RB w.drew qb _ from hR).set 8 (.int .i64 (m.num 8))).set 9 (.int .i64 (m.num 9))).cell rfl) ((((show RB w.drew qb _ from hR).set 8 (.int .i64 (m.num 8))).set 9 (.int .i64 (m.num 9))).free 10)) ⟨(((show PB w.drew pb m s from hP).sett (b := qb) (j := 8) (v := .int .i64 (m.num 8)) hne).sett (b := qb) (j := 9) (v := .int .i64 (m.num 9)) hne).sett hne, ?_⟩
  refine wpAnyH_all (rs := [20]) (by kernel_rfl) (by simp) ?_
  intro i hi
  obtain rfl : i = 20 := by simpa using hi
  refine wpOp_val (v := .pointer (some ⟨qb, 11, none⟩)) (some 80) (by kernel_rfl) (by kernel_rfl) (by kernel_rfl) (by kernel_rfl) ⟨((((show PB w.drew pb m s from hP).sett (b := qb) (j := 8) (v := .int .i64 (m.num 8)) hne).sett (b := qb) (j := 9) (v := .int .i64 (m.num 9)) hne).sett (b := qb) (j := 10) (v := .int .i64 (m.num 10)) hne), ?_⟩
  refine wpAnyH_all (rs := [21]) (by kernel_rfl) (by simp) ?_
  intro i hi
  obtain rfl : i = 21 := by simpa using hi
  refine wpOp_skip none (by kernel_rfl) (by kernel_rfl) (by kernel_rfl) (st_int (.tmp 80) (.tmp 70) qb 11 (m.num 11) (0) (by kernel_rfl) (by kernel_rfl) (by kernel_rfl) (((((show RB w.drew qb _ from hR).set 8 (.int .i64 (m.num 8))).set 9 (.int .i64 (m.num 9))).set 10 (.int .i64 (m.num 10))).cell rfl) (((((show RB w.drew qb _ from hR).set 8 (.int .i64 (m.num 8))).set 9 (.int .i64 (m.num 9))).set 10 (.int .i64 (m.num 10))).free 11)) ⟨((((show PB w.drew pb m s from hP).sett (b := qb) (j := 8) (v := .int .i64 (m.num 8)) hne).sett (b := qb) (j := 9) (v := .int .i64 (m.num 9)) hne).sett (b := qb) (j := 10) (v := .int .i64 (m.num 10)) hne).sett hne, ?_⟩
  refine wpAnyH_all (rs := [23]) (by kernel_rfl) (by simp) ?_
  intro i hi
  obtain rfl : i = 23 := by simpa using hi
  refine wpOp_val (v := .pointer (some ⟨qb, 14, none⟩)) (some 82) (by kernel_rfl) (by kernel_rfl) (by kernel_rfl) (by kernel_rfl) ⟨(((((show PB w.drew pb m s from hP).sett (b := qb) (j := 8) (v := .int .i64 (m.num 8)) hne).sett (b := qb) (j := 9) (v := .int .i64 (m.num 9)) hne).sett (b := qb) (j := 10) (v := .int .i64 (m.num 10)) hne).sett (b := qb) (j := 11) (v := .int .i64 (m.num 11)) hne), ?_⟩
  refine wpAnyH_all (rs := [24]) (by kernel_rfl) (by simp) ?_
  intro i hi
  obtain rfl : i = 24 := by simpa using hi
  refine wpOp_skip none (by kernel_rfl) (by kernel_rfl) (by kernel_rfl) (st_int (.tmp 82) (.tmp 72) qb 14 (m.num 14) (0) (by kernel_rfl) (by kernel_rfl) (by kernel_rfl) ((((((show RB w.drew qb _ from hR).set 8 (.int .i64 (m.num 8))).set 9 (.int .i64 (m.num 9))).set 10 (.int .i64 (m.num 10))).set 11 (.int .i64 (m.num 11))).cell rfl) ((((((show RB w.drew qb _ from hR).set 8 (.int .i64 (m.num 8))).set 9 (.int .i64 (m.num 9))).set 10 (.int .i64 (m.num 10))).set 11 (.int .i64 (m.num 11))).free 14)) ⟨(((((show PB w.drew pb m s from hP).sett (b := qb) (j := 8) (v := .int .i64 (m.num 8)) hne).sett (b := qb) (j := 9) (v := .int .i64 (m.num 9)) hne).sett (b := qb) (j := 10) (v := .int .i64 (m.num 10)) hne).sett (b := qb) (j := 11) (v := .int .i64 (m.num 11)) hne).sett hne, ?_⟩
  refine wpAnyH_done (by kernel_rfl) ?_ _
  generalize hA : Act.put _ _ _ = A
  have e : A = actO (O6 m s pb qb) 1 := hA.symm.trans (by kernel_rfl)
  rw [e]
  exact h
theorem rgA {c : Code} {Q : Exit → Act → World → Prop} {w : World} {A B : Act} (e : B = A) (h : c.wp Try.prog Q A w) : c.wp Try.prog Q B w := by rw [e]; exact h
set_option maxHeartbeats 40000000 in
theorem of_any (m : Pm) (s : Nat → Sv) (w : World) :
    Calls Try.prog 12 #[.agg (pc m s)] w fun e w' => e = .returned (.agg (rc (nrm m) (nrS s))) ∧ Q w w' := by
  go_enter Try.func12, Try.ntmps12
  go_upto_region 1 with fail
  generalize hw1 : World.alloc (World.alloc w _) _ = w1
  have P1 := hid (show PB w1 w.heap.size m s from by rw [← hw1]; exact (pb_new w m s).q ((Q.refl _).alloc _))
  have R1 := hid (show RB w1 (w.heap.size + 1) (rc zeM (fun _ => nilS)) from by rw [← hw1]; exact rb_new2 w _ _)
  have Q1 := hid (show Q w w1 from by rw [← hw1]; exact ((Q.refl w).alloc _).alloc _)
  clear hw1
  have p19 := P1.out.cell (j := 19) (v := .bool m.mv) rfl
  go_wp2_with (refine wpList_store_row rfl 36 _ _ rfl w1.heap.size (rc (o1 m) (fun _ => nilS)) rfl rfl 36 _ (heap_alloc_new w1 _) info36 rfl (rc_one _ _) ?_; refine Hid.out ?_)
  refine hid ?_
  generalize hw2 : World.setRow _ _ _ = w2
  have k2 : Keep (fun i => i = w1.heap.size) w1 w2 := by rw [← hw2]; exact ((Keep.refl _ w1).alloc _).setRow _ _ (.inl rfl)
  have R2 := hid (show RB w2 w1.heap.size (rc (o1 m) (fun _ => nilS)) from by rw [← hw2]; exact setRow_heap _ _ _ _ 36 _ (heap_alloc_new w1 _))
  clear hw2
  have l1 := lt_of_block P1.out
  have l2 := lt_of_block R1.out
  have P2 := hid (P1.out.keep k2 (by omega))
  have T2 := hid (show RB w2 (w.heap.size + 1) (rc zeM (fun _ => nilS)) from (k2.block _ l2 (by omega)).trans R1.out)
  have Q2 := hid (show Q w w2 from k2.below Q1.out Q1.out.size (fun i e => by have := Q1.out.size; omega))
  have HN := hid (show w.heap.size ≠ w1.heap.size ∧ w.heap.size + 1 ≠ w1.heap.size ∧ w.heap.size ≤ w1.heap.size from by omega)
  clear k2 p19 P1 R1 Q1 l1 l2
  generalize w1.heap.size = qb at *
  clear w1
  generalize hpb : w.heap.size = pb at *
  have HPB := hid hpb
  clear hpb
  have hne := HN.out.1
  go_wp2_with fail
  generalize hR : Code.region 2 _ true = C
  have eR : C = Code.region 2 (RofN Try.f12 2) true := hR.symm.trans (by kernel_rfl)
  clear hR
  subst eR
  refine wp_region_noPanic ?_
  refine rgA (A := actO (O2 m s pb qb) 77) ?_ (rg2 m s pb qb w2 _ P2.out R2.out HN.out.1 (fun c a d v w h => h) ?_)
  · kernel_rfl
  refine NoPanic.normal ?_
  refine ‹∀ a w, Code.wp Try.prog _ _ a w → _› _ _ ?_
  generalize hw3 : ((((w2.drew.setCell ⟨qb, 17, none⟩ (.bool (m.has 0))).setCell ⟨qb, 19, none⟩ (.bool (m.has 2))).setCell ⟨qb, 32, none⟩ (.bool (m.has 15))).setCell ⟨qb, 33, none⟩ (.bool (m.has 16))) = w3
  have k3 : Keep (fun i => i = qb) w2 w3 := by rw [← hw3]; exact ((((((Keep.refl (fun i => i = qb) w2).drew).setCell _ _ _ (.inl rfl)).setCell _ _ _ (.inl rfl)).setCell _ _ _ (.inl rfl)).setCell _ _ _ (.inl rfl))
  have R3 := hid (show RB w3 qb (rc (o2 m) (fun _ => nilS)) from by rw [← hw3]; exact (((((show RB w2.drew qb _ from R2.out).set 17 (.bool (m.has 0))).set 19 (.bool (m.has 2))).set 32 (.bool (m.has 15))).set 33 (.bool (m.has 16))))
  clear hw3
  have P3 := hid (P2.out.keep k3 HN.out.1)
  have T3 := hid (show RB w3 (pb + 1) (rc zeM (fun _ => nilS)) from (k3.block _ T2.out.lt HN.out.2.1).trans T2.out)
  have Q3 := hid (show Q w w3 from k3.below Q2.out Q2.out.size (fun i e => by have := HN.out; have := HPB.out; omega))
  clear k3 P2 T2 Q2 R2
  go_wp2_with fail
  generalize hR : Code.region 3 _ true = C
  have eR : C = Code.region 3 (RofN Try.f12 3) true := hR.symm.trans (by kernel_rfl)
  clear hR
  subst eR
  refine wp_region_noPanic ?_
  refine rgA (A := actO (O3 m s pb qb) 61) ?_ (rg3 m s pb qb w3 _ P3.out R3.out HN.out.1 (fun c a d v w h => h) ?_)
  · kernel_rfl
  refine NoPanic.normal ?_
  refine ‹∀ a w, Code.wp Try.prog _ _ a w → _› _ _ ?_
  generalize hw4 : ((((w3.drew.setCell ⟨qb, 34, none⟩ (sv (s 0))).setCell ⟨qb, 36, none⟩ (sv (s 2))).setCell ⟨qb, 49, none⟩ (sv (s 15))).setCell ⟨qb, 50, none⟩ (sv (s 16))) = w4
  have k4 : Keep (fun i => i = qb) w3 w4 := by rw [← hw4]; exact ((((((Keep.refl (fun i => i = qb) w3).drew).setCell _ _ _ (.inl rfl)).setCell _ _ _ (.inl rfl)).setCell _ _ _ (.inl rfl)).setCell _ _ _ (.inl rfl))
  have R4 := hid (show RB w4 qb (rc (o2 m) (nrS s)) from by rw [← hw4]; exact (((((show RB w3.drew qb _ from R3.out).set 34 (sv (s 0))).set 36 (sv (s 2))).set 49 (sv (s 15))).set 50 (sv (s 16))))
  clear hw4
  have P4 := hid (P3.out.keep k4 HN.out.1)
  have T4 := hid (show RB w4 (pb + 1) (rc zeM (fun _ => nilS)) from (k4.block _ T3.out.lt HN.out.2.1).trans T3.out)
  have Q4 := hid (show Q w w4 from k4.below Q3.out Q3.out.size (fun i e => by have := HN.out; have := HPB.out; omega))
  clear k4 P3 T3 Q3 R3
  go_wp2_with fail
  generalize hR : Code.region 4 _ true = C
  have eR : C = Code.region 4 (RofN Try.f12 4) true := hR.symm.trans (by kernel_rfl)
  clear hR
  subst eR
  refine wp_region_noPanic ?_
  refine rgA (A := actO (O4 m s pb qb) 45) ?_ (rg4 m s pb qb w4 _ P4.out R4.out HN.out.1 (fun c a d v w h => h) ?_)
  · kernel_rfl
  refine NoPanic.normal ?_
  refine ‹∀ a w, Code.wp Try.prog _ _ a w → _› _ _ ?_
  generalize hw5 : ((((((w4.drew.setCell ⟨qb, 1, none⟩ (.int .i64 (m.num 1))).setCell ⟨qb, 3, none⟩ (.int .i64 (m.num 3))).setCell ⟨qb, 4, none⟩ (.int .i64 (m.num 4))).setCell ⟨qb, 5, none⟩ (.int .i64 (m.num 5))).setCell ⟨qb, 6, none⟩ (.int .i64 (m.num 6))).setCell ⟨qb, 7, none⟩ (.int .i64 (m.num 7))) = w5
  have k5 : Keep (fun i => i = qb) w4 w5 := by rw [← hw5]; exact ((((((((Keep.refl (fun i => i = qb) w4).drew).setCell _ _ _ (.inl rfl)).setCell _ _ _ (.inl rfl)).setCell _ _ _ (.inl rfl)).setCell _ _ _ (.inl rfl)).setCell _ _ _ (.inl rfl)).setCell _ _ _ (.inl rfl))
  have R5 := hid (show RB w5 qb (rc (o3 m) (nrS s)) from by rw [← hw5]; exact (((((((show RB w4.drew qb _ from R4.out).set 1 (.int .i64 (m.num 1))).set 3 (.int .i64 (m.num 3))).set 4 (.int .i64 (m.num 4))).set 5 (.int .i64 (m.num 5))).set 6 (.int .i64 (m.num 6))).set 7 (.int .i64 (m.num 7))))
  clear hw5
  have P5 := hid (P4.out.keep k5 HN.out.1)
  have T5 := hid (show RB w5 (pb + 1) (rc zeM (fun _ => nilS)) from (k5.block _ T4.out.lt HN.out.2.1).trans T4.out)
  have Q5 := hid (show Q w w5 from k5.below Q4.out Q4.out.size (fun i e => by have := HN.out; have := HPB.out; omega))
  clear k5 P4 T4 Q4 R4
  go_wp2_with fail
  generalize hR : Code.region 5 _ true = C
  have eR : C = Code.region 5 (RofN Try.f12 5) true := hR.symm.trans (by kernel_rfl)
  clear hR
  subst eR
  refine wp_region_noPanic ?_
  refine rgA (A := actO (O5 m s pb qb) 21) ?_ (rg5 m s pb qb w5 _ P5.out R5.out HN.out.1 (fun c a d v w h => h) ?_)
  · kernel_rfl
  refine NoPanic.normal ?_
  refine ‹∀ a w, Code.wp Try.prog _ _ a w → _› _ _ ?_
  generalize hw6 : (((((w5.drew.setCell ⟨qb, 8, none⟩ (.int .i64 (m.num 8))).setCell ⟨qb, 9, none⟩ (.int .i64 (m.num 9))).setCell ⟨qb, 10, none⟩ (.int .i64 (m.num 10))).setCell ⟨qb, 11, none⟩ (.int .i64 (m.num 11))).setCell ⟨qb, 14, none⟩ (.int .i64 (m.num 14))) = w6
  have k6 : Keep (fun i => i = qb) w5 w6 := by rw [← hw6]; exact (((((((Keep.refl (fun i => i = qb) w5).drew).setCell _ _ _ (.inl rfl)).setCell _ _ _ (.inl rfl)).setCell _ _ _ (.inl rfl)).setCell _ _ _ (.inl rfl)).setCell _ _ _ (.inl rfl))
  have R6 := hid (show RB w6 qb (rc (nrm m) (nrS s)) from by rw [← hw6]; exact ((((((show RB w5.drew qb _ from R5.out).set 8 (.int .i64 (m.num 8))).set 9 (.int .i64 (m.num 9))).set 10 (.int .i64 (m.num 10))).set 11 (.int .i64 (m.num 11))).set 14 (.int .i64 (m.num 14))))
  clear hw6
  have P6 := hid (P5.out.keep k6 HN.out.1)
  have T6 := hid (show RB w6 (pb + 1) (rc zeM (fun _ => nilS)) from (k6.block _ T5.out.lt HN.out.2.1).trans T5.out)
  have Q6 := hid (show Q w w6 from k6.below Q5.out Q5.out.size (fun i e => by have := HN.out; have := HPB.out; omega))
  clear k6 P5 T5 Q5 R5
  go_wp2_with (first
    | (refine wpList_load_row rfl 36 _ rfl qb rfl 36 (rc (nrm m) (nrS s)) (0, 0) _ R6.out Try.underlying36 rfl info36 ?_)
    | (refine wpList_store_row rfl 36 _ _ rfl (pb + 1) (rc (nrm m) (nrS s)) rfl rfl 36 _ T6.out info36 rfl (rc_one _ _) ?_; refine Hid.out ?_))
  refine hid ?_
  generalize hw7 : World.setRow _ _ _ = w7
  have k7 : Keep (fun i => i = pb + 1) w6 w7 := by rw [← hw7]; exact (Keep.refl _ w6).setRow _ _ (.inl rfl)
  have b7 : w7.heap[pb + 1]? = some (.cells (rc (nrm m) (nrS s)) 36 (0, 0)) := by rw [← hw7]; exact setRow_heap _ _ _ _ 36 _ T6.out
  clear hw7
  have q7 : Q w w7 := k7.below Q6.out Q6.out.size (fun i e => by have := HPB.out; omega)
  go_wp2
  exact ret_rs rfl rfl (pb + 1) 36 (rc (nrm m) (nrS s)) rfl rfl b7 ⟨rfl, q7⟩
end Go.Proofs.Ytidbimhcebfjfaa
