/-
  The two regions of the law on reading back that draw their order: what is told is taken apart; the last comparison, with four calls.
-/
import Derived.Test.YtidbimhcebfjfaaOpenT
import Derived.Test.YtidbimhcebfjfaaCpS
import Derived.Test.YtidbimhcebfjfaaOnM
import Derived.Deep.MidRow
namespace Go.Proofs.Ytidbimhcebfjfaa
open Go.RowKit
set_option linter.unusedVariables false
set_option maxRecDepth 20000

/-- What is told, in a block. -/
def TB (w : World) (tb : Nat) (m : Pm) (s : Nat → Sv) (srv : Bool) (id : Int) (v : Sv) : Prop := w.heap[tb]? = some (.cells (tc m s srv id v) 51 (0, 0))
theorem TB.cell {w : World} {tb : Nat} {m : Pm} {s : Nat → Sv} {srv : Bool} {id : Int} {v : Sv} (h : TB w tb m s srv id v) {j : Nat} {z : Value} (hj : (tc m s srv id v)[j]? = some z) : w.cell? ⟨tb, j, none⟩ = some z := by
  rw [cell_of_row w tb j _ 51 (0, 0) h]; exact hj
theorem tc_get (m : Pm) (s : Nat → Sv) (srv : Bool) (id : Int) (v : Sv) : ∀ (j : Nat) (z : Value), (pc m s).toList[j]? = some z → (tc m s srv id v)[j]? = some z := by
  intro j z h
  have hj : j < 20 := by
    rcases Nat.lt_or_ge j 20 with h1 | h1
    · exact h1
    · rw [List.getElem?_eq_none (by show 20 ≤ j; exact h1)] at h; cases h
  have e : (tc m s srv id v) = ((pc m s).toList ++ [.bool srv, .int .i64 id, sv v]).toArray := rfl
  rw [e, List.getElem?_toArray, List.getElem?_append_left (by show j < 20; exact hj)]
  exact h
theorem ldT {o : Oper} {a : Act} {w : World} (t : Operand) (tb : Nat) (m : Pm) (s : Nat → Sv) (srv : Bool) (id : Int) (v : Sv) (ho : o.op = .load 24 t) (hx : a.eval t = .pointer (some ⟨tb, 0, none⟩)) (h : TB w tb m s srv id v) : (execOp a.eval o).run Try.prog w = .ok (.value (.agg (pc m s))) w := by
  have hl := run_loadVar_mid (P := Try.prog) w tb 0 24 (pc m s).toList _ (fun j z hz => by rw [Nat.zero_add]; exact h.cell (tc_get m s srv id v j z hz)) Try.underlying24 rfl info24
  unfold execOp
  simp only [ho, hx, Instr.loadAt, Instr.sureAddr, Sem.run_bind, Sem.run_pure, Result.andThen_ok, hl]
theorem stPar {o : Oper} {a : Act} {w : World} (x z : Operand) (b : Nat) (m : Pm) (s : Nat → Sv) (c0 : Array Value) (ho : o.op = .store 24 x z) (hx : a.eval x = .pointer (some ⟨b, 0, none⟩)) (hz : a.eval z = .agg (pc m s)) (hb : w.heap[b]? = some (.cells c0 24 (0, 0))) (hc : c0.size = 20) :
    (execOp a.eval o).run Try.prog w = .ok .skip (w.setRow b (pc m s)) := by
  have hl := run_storeVar_row (P := Try.prog) w b 24 24 c0 (pc m s) hb info24 (by rw [hc]; rfl) (pc_one m s)
  unfold execOp
  simp only [ho, hx, hz, Instr.storeAt, Instr.sureAddr, Sem.run_bind, Sem.run_pure, Result.andThen_ok, hl]
abbrev D1 (m : Pm) (s : Nat → Sv) (srv : Bool) (id : Int) (v : Sv) (tb : Nat) : List Value := [.agg (tc m s srv id v), .pointer (some ⟨tb, 0, none⟩), .bool false]
abbrev B1 (m : Pm) (s : Nat → Sv) (srv : Bool) (id : Int) (v : Sv) (tb : Nat) : Act := actO (D1 m s srv id v tb) 82
def n1 (m : Pm) (s : Nat → Sv) (srv : Bool) (id : Int) (v : Sv) (tb : Nat) : List (Nat × Value) := [(0, .pointer (some ⟨tb, 0, none⟩)), (1, .agg (pc m s)), (2, .pointer (some ⟨tb, 20, none⟩)), (3, .bool srv), (4, .pointer (some ⟨tb, 21, none⟩)), (5, .int .i64 id), (6, .pointer (some ⟨tb, 22, none⟩)), (7, sv v)]
def n2 (srv : Bool) (id : Int) (v : Sv) : List (Nat × Value) := [(10, .bool srv), (11, .int .i64 id), (12, sv v)]
theorem i1 (m : Pm) (s : Nat → Sv) (srv : Bool) (id : Int) (v : Sv) (tb : Nat) (w : World) : Chn Try.prog (RofN Try.f5 1) (fun u => Q w u ∧ TB u tb m s srv id v) (n1 m s srv id v tb) (Array.replicate 13 false) (B1 m s srv id v tb) :=
  ⟨⟨by kernel_rfl, by kernel_rfl, by kernel_rfl, by kernel_rfl, fun w h => by kernel_rfl⟩,
    ⟨by kernel_rfl, by kernel_rfl, by kernel_rfl, by kernel_rfl, fun w h => ldT (.tmp 12) tb m s srv id v (by kernel_rfl) (by kernel_rfl) h.2⟩,
    ⟨by kernel_rfl, by kernel_rfl, by kernel_rfl, by kernel_rfl, fun w h => by kernel_rfl⟩,
    ⟨by kernel_rfl, by kernel_rfl, by kernel_rfl, by kernel_rfl, fun w h => ld_bool (.tmp 14) tb 20 srv (by kernel_rfl) (by kernel_rfl) (h.2.cell rfl)⟩,
    ⟨by kernel_rfl, by kernel_rfl, by kernel_rfl, by kernel_rfl, fun w h => by kernel_rfl⟩,
    ⟨by kernel_rfl, by kernel_rfl, by kernel_rfl, by kernel_rfl, fun w h => run_ld (.tmp 16) tb 21 id (by kernel_rfl) (by kernel_rfl) (h.2.cell rfl)⟩,
    ⟨by kernel_rfl, by kernel_rfl, by kernel_rfl, by kernel_rfl, fun w h => by kernel_rfl⟩,
    ⟨by kernel_rfl, by kernel_rfl, by kernel_rfl, by kernel_rfl, fun w h => ld_sl (.tmp 18) tb 22 v (by kernel_rfl) (by kernel_rfl) (h.2.cell rfl)⟩,
    trivial⟩
abbrev B2 (m : Pm) (s : Nat → Sv) (srv : Bool) (id : Int) (v : Sv) (tb xb : Nat) (f : Func) : Act := ((putL (RofN f 1) (n1 m s srv id v tb) (B1 m s srv id v tb)).put (some 3) (.pointer (some ⟨xb, 0, none⟩))).put none undef
theorem i2 (m : Pm) (s : Nat → Sv) (srv : Bool) (id : Int) (v : Sv) (tb xb : Nat) (w : World) : Chn Try.prog (RofN Try.f5 1) (fun u => Q w u ∧ TB u tb m s srv id v) (n2 srv id v) (((setL (n1 m s srv id v tb) (Array.replicate 13 false)).setIfInBounds 8 true).setIfInBounds 9 true) (B2 m s srv id v tb xb Try.f5) :=
  ⟨⟨by kernel_rfl, by kernel_rfl, by kernel_rfl, by kernel_rfl, fun w h => by kernel_rfl⟩,
    ⟨by kernel_rfl, by kernel_rfl, by kernel_rfl, by kernel_rfl, fun w h => by kernel_rfl⟩,
    ⟨by kernel_rfl, by kernel_rfl, by kernel_rfl, by kernel_rfl, fun w h => by kernel_rfl⟩,
    trivial⟩
abbrev E1 (m : Pm) (s : Nat → Sv) (srv : Bool) (id : Int) (v : Sv) (tb xb : Nat) : Act := actO (D1 m s srv id v tb ++ [.pointer (some ⟨xb, 0, none⟩), .bool srv, .int .i64 id, sv v, undef, undef, undef, undef, undef, .pointer (some ⟨tb, 0, none⟩), .agg (pc m s), .pointer (some ⟨tb, 20, none⟩), .bool srv, .pointer (some ⟨tb, 21, none⟩), .int .i64 id, .pointer (some ⟨tb, 22, none⟩), sv v]) 65
set_option maxHeartbeats 4000000 in
theorem rgT (m : Pm) (s : Nat → Sv) (srv : Bool) (id : Int) (v : Sv) (tb : Nat) (w : World) (R : Exit → Act → World → Prop) (hT : TB w tb m s srv id v) (hQ : ∀ c a d v w, R (.panic c) (a.put d v) w → R (.panic c) a w)
    (h : ∀ (W : World), Q w W → PB W w.heap.size m s → R .normal (E1 m s srv id v tb w.heap.size) W) :
    (Code.region 1 (RofN Try.f5 1) true).wp Try.prog R (B1 m s srv id v tb) w := by
  refine wp_region_held (S := fun u => Q w u ∧ TB u tb m s srv id v) (by kernel_rfl) ?_
  have hsz : (RofN Try.f5 1).size = 13 := by kernel_rfl
  rw [hsz]
  have qd : Q w w.drew := (Q.refl w).drew
  have hT1 : TB w.drew tb m s srv id v := (Below.block qd tb (lt_of_block hT)).trans hT
  refine chn_take (by kernel_rfl) hQ ⟨qd, hT1⟩ 5 (n1 m s srv id v tb) _ _ (i1 m s srv id v tb w) ?_
  generalize hA : putL _ _ _ = AA
  generalize hLL : setL _ _ = LL
  have hsd : w.drew.heap.size = w.heap.size := rfl
  have hr8 : Region.ready .any (RofN Try.f5 1) LL = [8] := by rw [← hLL]; kernel_rfl
  have hw8 : Region.wanted (((RofN Try.f5 1)[8]?).getD default) (yielded (RofN Try.f5 1) AA.tmps) = true := by rw [← hA]; kernel_rfl
  have hc8 : (execOp AA.eval (((RofN Try.f5 1)[8]?).getD default)).run Try.prog w.drew = .ok (.value (.pointer (some ⟨w.heap.size, 0, none⟩))) (w.drew.alloc (.cells zeA 24)) := by rw [← hA]; kernel_rfl
  refine wpAnyH_one (i := 8) hr8 ?_
  refine wpOp_val (some 3) (by kernel_rfl) (by kernel_rfl) hw8 hc8 ?_
  have q2 : Q w (w.drew.alloc (.cells zeA 24)) := qd.alloc _
  have hT2 : TB (w.drew.alloc (.cells zeA 24)) tb m s srv id v := (Below.block q2 tb (lt_of_block hT)).trans hT
  have hb2 : (w.drew.alloc (.cells zeA 24)).heap[w.heap.size]? = some (.cells zeA 24 (0, 0)) := heap_alloc_new w.drew _
  refine ⟨⟨q2, hT2⟩, ?_⟩
  generalize w.drew.alloc (.cells zeA 24) = w2 at *
  have hr9 : Region.ready .any (RofN Try.f5 1) (LL.setIfInBounds 8 true) = [9] := by rw [← hLL]; kernel_rfl
  have hw9 : Region.wanted (((RofN Try.f5 1)[9]?).getD default) (yielded (RofN Try.f5 1) (AA.put (some 3) (.pointer (some ⟨w.heap.size, 0, none⟩))).tmps) = true := by rw [← hA]; kernel_rfl
  have hc9 := stPar (o := ((RofN Try.f5 1)[9]?).getD default) (a := AA.put (some 3) (.pointer (some ⟨w.heap.size, 0, none⟩))) (w := w2) (.tmp 3) (.tmp 13) w.heap.size m s zeA (by kernel_rfl) (by rw [← hA]; kernel_rfl) (by rw [← hA]; kernel_rfl) hb2 rfl
  have k3 : Keep (fun i => i = w.heap.size) w2 (w2.setRow w.heap.size (pc m s)) := (Keep.refl _ w2).setRow _ _ (.inl rfl)
  have hb3 : PB (w2.setRow w.heap.size (pc m s)) w.heap.size m s := setRow_heap _ _ _ _ 24 _ hb2
  have q3 : Q w (w2.setRow w.heap.size (pc m s)) := k3.below q2 q2.size (fun i e => by omega)
  have hT3 : TB (w2.setRow w.heap.size (pc m s)) tb m s srv id v := (Below.block q3 tb (lt_of_block hT)).trans hT
  refine wpAnyH_one (i := 9) hr9 ?_
  refine wpOp_skip none (by kernel_rfl) (by kernel_rfl) hw9 hc9 ?_
  refine ⟨⟨q3, hT3⟩, ?_⟩
  have j2' : Chn Try.prog (RofN Try.f5 1) (fun u => Q w u ∧ TB u tb m s srv id v) (n2 srv id v) ((LL.setIfInBounds 8 true).setIfInBounds 9 true) ((AA.put (some 3) (.pointer (some ⟨w.heap.size, 0, none⟩))).put none undef) := by rw [← hA, ← hLL]; exact i2 m s srv id v tb w.heap.size w
  have hf1 : Region.ready .any (RofN Try.f5 1) (setL (n2 srv id v) ((LL.setIfInBounds 8 true).setIfInBounds 9 true)) = [] := by rw [← hLL]; kernel_rfl
  have hf2 : putL (RofN Try.f5 1) (n2 srv id v) ((AA.put (some 3) (.pointer (some ⟨w.heap.size, 0, none⟩))).put none undef) = E1 m s srv id v tb w.heap.size := by rw [← hA]; kernel_rfl
  refine chn_take (by kernel_rfl) hQ ⟨q3, hT3⟩ 0 (n2 srv id v) _ _ j2' ?_
  refine wpAnyH_done hf1 ?_ _
  rw [hf2]
  exact h _ q3 hb3

/-- What was read back of any parameters is alike, the other way round. -/
theorem alike_ts {W : World} {M : Pm} {s1 s2 : Nat → Sv} (b1 : By W M s1) (b2 : By W (st M 16) s2) (hb : ∀ i, kd i = 2 ∨ kd i = 3 → (M.byt i).length ≤ 140737488355328) : Alike W (nrm (st M 16)) (nrm M) (nrS s2) (nrS s1) := by
  have ha := alike_st b1 b2 hb
  refine ⟨fun i h17 => (ha.n i h17).symm, fun i h17 => (ha.h i h17).symm, fun i h17 hh => ?_, ha.v.symm⟩
  have hh' : (if kd i = 2 ∨ kd i = 3 then (st M 16).has i else false) = true := hh
  by_cases hk : kd i = 2 ∨ kd i = 3
  · rw [if_pos hk] at hh'
    have e1 : nrS s1 i = s1 i := by show (if kd i = 2 ∨ kd i = 3 then s1 i else nilS) = s1 i; rw [if_pos hk]
    have e2 : nrS s2 i = s2 i := by show (if kd i = 2 ∨ kd i = 3 then s2 i else nilS) = s2 i; rw [if_pos hk]
    have hl := (st_like M h17).2.1 hk
    have hst := hl.2 (by rw [← hl.1]; exact hh')
    obtain ⟨c1, c2⟩ := b2 i hk
    obtain ⟨a1, a2⟩ := b1 i hk
    rw [e1, e2]
    refine ⟨c1, c2, ?_, ?_, ?_⟩
    · show Seg W (s1 i).a ((st M 16).byt i); rw [hst]; exact a1
    · show ((st M 16).byt i).length = (s1 i).n; rw [hst]; exact a2
    · rw [← c2, hst]; exact hb i hk
  · rw [if_neg hk] at hh'; cases hh'
abbrev D8 (m : Pm) (s : Nat → Sv) (srv : Bool) (id : Int) (v : Sv) (tb xb yb : Nat) (x y : Sv) (M2 : Pm) (s2 s3 : Nat → Sv) (x42 x43 x44 x45 x46 x47 x48 x49 x50 x51 x52 x53 x54 x55 x56 x57 x58 x59 x60 x61 : Value) : List Value :=
  [.agg (tc m s srv id v), .pointer (some ⟨tb, 0, none⟩), .bool false, .pointer (some ⟨xb, 0, none⟩), .bool srv, .int .i64 id, sv v, sv y, .int .i64 0, .pointer (some ⟨yb, 0, none⟩), .int .i64 0, .int .i64 0,
    .pointer (some ⟨tb, 0, none⟩), .agg (pc m s), .pointer (some ⟨tb, 20, none⟩), .bool srv, .pointer (some ⟨tb, 21, none⟩), .int .i64 id, .pointer (some ⟨tb, 22, none⟩), sv v,
    .tuple #[sv x, .int .i64 0], .agg (pc m s), .agg (pc m s3), .bool srv, .tuple #[sv x, .int .i64 0], sv x, .int .i64 0, .int .i64 0, .bool false,
    undef, undef, undef, undef, undef, undef, undef, undef, undef, undef, undef, undef, undef, x42, x43, x44, x45, x46, x47, x48, x49, x50, x51, x52, x53, x54, x55, x56, x57, x58, x59, x60, x61,
    .tuple #[.agg (pc M2 s2), .int .i64 0, .int .i64 0], sv y, .bool srv, .tuple #[.agg (pc M2 s2), .int .i64 0, .int .i64 0], .agg (pc M2 s2), .int .i64 0, .int .i64 0]
def SB (w : World) (xb yb : Nat) (M M2 : Pm) (s1 s2 : Nat → Sv) (u : World) : Prop := Q w u ∧ PB u xb M s1 ∧ PB u yb M2 s2
theorem sb_q {w : World} {xb yb : Nat} {M M2 : Pm} {s1 s2 : Nat → Sv} {u v : World} (h : SB w xb yb M M2 s1 s2 u) (q : Q u v) : SB w xb yb M M2 s1 s2 v := ⟨h.1.trans q, h.2.1.q q, h.2.2.q q⟩
def p1 (M M2 : Pm) (s1 s2 : Nat → Sv) : List (Nat × Value) := [(0, .int .i64 0), (1, .bool true), (2, .bool true), (3, .int .i64 0), (4, .bool true), (5, .bool true), (6, .bool true), (7, .agg (pc M2 s2)), (9, .agg (pc M s1))]
def p2 : List (Nat × Value) := [(12, .bool true), (13, .bool true)]
def p3 : List (Nat × Value) := [(15, .bool true), (16, .bool true)]
section
variable (m : Pm) (s : Nat → Sv) (srv : Bool) (id : Int) (v : Sv) (tb xb yb : Nat) (x y : Sv) (M2 : Pm) (s2 s3 : Nat → Sv) (x42 x43 x44 x45 x46 x47 x48 x49 x50 x51 x52 x53 x54 x55 x56 x57 x58 x59 x60 x61 : Value)
abbrev C80 : Act := actO (D8 m s srv id v tb xb yb x y M2 s2 s3 x42 x43 x44 x45 x46 x47 x48 x49 x50 x51 x52 x53 x54 x55 x56 x57 x58 x59 x60 x61) 16
abbrev C81 (f : Func) : Act := (((putL (RofN f 8) (p1 m M2 s s2) (C80 m s srv id v tb xb yb x y M2 s2 s3 x42 x43 x44 x45 x46 x47 x48 x49 x50 x51 x52 x53 x54 x55 x56 x57 x58 x59 x60 x61)).put (some 77) (.agg (rc (nrm M2) (nrS s2)))).put (some 79) (.agg (rc (nrm m) (nrS s)))).put (some 80) (.bool true)
abbrev C82 (f : Func) : Act := (putL (RofN f 8) p2 (C81 m s srv id v tb xb yb x y M2 s2 s3 x42 x43 x44 x45 x46 x47 x48 x49 x50 x51 x52 x53 x54 x55 x56 x57 x58 x59 x60 x61 f)).put (some 83) (.bool true)
abbrev G1 : Array Bool := (((setL (p1 m M2 s s2) (Array.replicate 17 false)).setIfInBounds 8 true).setIfInBounds 10 true).setIfInBounds 11 true
abbrev G2 : Array Bool := (setL p2 (G1 m s M2 s2)).setIfInBounds 14 true
theorem q1 (w : World) : Chn Try.prog (RofN Try.f5 8) (SB w xb yb m M2 s s2) (p1 m M2 s s2) (Array.replicate 17 false) (C80 m s srv id v tb xb yb x y M2 s2 s3 x42 x43 x44 x45 x46 x47 x48 x49 x50 x51 x52 x53 x54 x55 x56 x57 x58 x59 x60 x61) :=
  ⟨⟨by kernel_rfl, by kernel_rfl, by kernel_rfl, by kernel_rfl, fun w h => by kernel_rfl⟩,
    ⟨by kernel_rfl, by kernel_rfl, by kernel_rfl, by kernel_rfl, fun w h => by kernel_rfl⟩,
    ⟨by kernel_rfl, by kernel_rfl, by kernel_rfl, by kernel_rfl, fun w h => by kernel_rfl⟩,
    ⟨by kernel_rfl, by kernel_rfl, by kernel_rfl, by kernel_rfl, fun w h => by kernel_rfl⟩,
    ⟨by kernel_rfl, by kernel_rfl, by kernel_rfl, by kernel_rfl, fun w h => by kernel_rfl⟩,
    ⟨by kernel_rfl, by kernel_rfl, by kernel_rfl, by kernel_rfl, fun w h => by kernel_rfl⟩,
    ⟨by kernel_rfl, by kernel_rfl, by kernel_rfl, by kernel_rfl, fun w h => by kernel_rfl⟩,
    ⟨by kernel_rfl, by kernel_rfl, by kernel_rfl, by kernel_rfl, fun w h => ld24 (.tmp 9) yb M2 s2 (by kernel_rfl) (by kernel_rfl) h.2.2⟩,
    ⟨by kernel_rfl, by kernel_rfl, by kernel_rfl, by kernel_rfl, fun w h => ld24 (.tmp 3) xb m s (by kernel_rfl) (by kernel_rfl) h.2.1⟩,
    trivial⟩
theorem q2 (w : World) : Chn Try.prog (RofN Try.f5 8) (SB w xb yb m M2 s s2) p2 (G1 m s M2 s2) (C81 m s srv id v tb xb yb x y M2 s2 s3 x42 x43 x44 x45 x46 x47 x48 x49 x50 x51 x52 x53 x54 x55 x56 x57 x58 x59 x60 x61 Try.f5) :=
  ⟨⟨by kernel_rfl, by kernel_rfl, by kernel_rfl, by kernel_rfl, fun w h => by kernel_rfl⟩,
    ⟨by kernel_rfl, by kernel_rfl, by kernel_rfl, by kernel_rfl, fun w h => by kernel_rfl⟩,
    trivial⟩
theorem q3 (w : World) : Chn Try.prog (RofN Try.f5 8) (SB w xb yb m M2 s s2) p3 (G2 m s M2 s2) (C82 m s srv id v tb xb yb x y M2 s2 s3 x42 x43 x44 x45 x46 x47 x48 x49 x50 x51 x52 x53 x54 x55 x56 x57 x58 x59 x60 x61 Try.f5) :=
  ⟨⟨by kernel_rfl, by kernel_rfl, by kernel_rfl, by kernel_rfl, fun w h => by kernel_rfl⟩,
    ⟨by kernel_rfl, by kernel_rfl, by kernel_rfl, by kernel_rfl, fun w h => by kernel_rfl⟩,
    trivial⟩

set_option maxHeartbeats 4000000 in
/-- The region: true. -/
theorem rgB (w : World) (R : Exit → Act → World → Prop) (hS : SB w xb yb m M2 s s2 w) (hQ : ∀ c a d v w, R (.panic c) (a.put d v) w → R (.panic c) a w)
    (HS : ∀ W, Q w W → Calls Try.prog 15 #[.agg (rc (nrm M2) (nrS s2)), .agg (rc (nrm m) (nrS s))] W fun e w' => e = .returned (.bool true) ∧ Q W w')
    (h : ∀ (A : Act) (W : World), A.defers = [] → A.tmps.getD 2 undef = .bool true → Q w W → R .normal A W) :
    (Code.region 8 (RofN Try.f5 8) true).wp Try.prog R (C80 m s srv id v tb xb yb x y M2 s2 s3 x42 x43 x44 x45 x46 x47 x48 x49 x50 x51 x52 x53 x54 x55 x56 x57 x58 x59 x60 x61) w := by
  refine wp_region_held (S := SB w xb yb m M2 s s2) (by kernel_rfl) ?_
  have hsz : (RofN Try.f5 8).size = 17 := by kernel_rfl
  rw [hsz]
  have hS3 : SB w xb yb m M2 s s2 w.drew := sb_q hS ((Q.refl w).drew)
  refine chn_take (by kernel_rfl) hQ hS3 8 (p1 m M2 s s2) _ _ (q1 m s srv id v tb xb yb x y M2 s2 s3 x42 x43 x44 x45 x46 x47 x48 x49 x50 x51 x52 x53 x54 x55 x56 x57 x58 x59 x60 x61 w) ?_
  generalize hA2 : putL _ _ _ = A2
  generalize hL2 : setL _ _ = L2
  generalize hw2 : w.drew = w2
  rw [hw2] at hS3
  have hr15 : Region.ready .any (RofN Try.f5 8) (L2) = [8] := by rw [← hL2]; kernel_rfl
  have hw15 : Region.wanted (((RofN Try.f5 8)[8]?).getD default) (yielded (RofN Try.f5 8) (A2).tmps) = true := by rw [← hA2]; kernel_rfl
  have hc15 : (execOp (A2).eval (((RofN Try.f5 8)[8]?).getD default)).run Try.prog w2 = .ok (.enter 12 #[.agg (pc M2 s2)]) w2 := by rw [← hA2]; kernel_rfl
  refine wpAnyH_one (i := 8) hr15 ?_
  refine wpOp_call (some 77) (by kernel_rfl) (by kernel_rfl) hw15 12 #[.agg (pc M2 s2)] hc15 (of_any M2 s2 w2) (.agg (rc (nrm M2) (nrS s2))) ?_
  rintro e w3 ⟨rfl, q3'⟩
  have hS4 := sb_q hS3 q3'
  refine ⟨rfl, hS4, ?_⟩
  have hr17 : Region.ready .any (RofN Try.f5 8) (L2.setIfInBounds 8 true) = [10] := by rw [← hL2]; kernel_rfl
  have hw17 : Region.wanted (((RofN Try.f5 8)[10]?).getD default) (yielded (RofN Try.f5 8) (A2.put (some 77) (.agg (rc (nrm M2) (nrS s2)))).tmps) = true := by rw [← hA2]; kernel_rfl
  have hc17 : (execOp (A2.put (some 77) (.agg (rc (nrm M2) (nrS s2)))).eval (((RofN Try.f5 8)[10]?).getD default)).run Try.prog w3 = .ok (.enter 12 #[.agg (pc m s)]) w3 := by rw [← hA2]; kernel_rfl
  refine wpAnyH_one (i := 10) hr17 ?_
  refine wpOp_call (some 79) (by kernel_rfl) (by kernel_rfl) hw17 12 #[.agg (pc m s)] hc17 (of_any m s w3) (.agg (rc (nrm m) (nrS s))) ?_
  rintro e w4 ⟨rfl, q4'⟩
  have hS5 := sb_q hS4 q4'
  refine ⟨rfl, hS5, ?_⟩
  have hr18 : Region.ready .any (RofN Try.f5 8) ((L2.setIfInBounds 8 true).setIfInBounds 10 true) = [11] := by rw [← hL2]; kernel_rfl
  have hw18 : Region.wanted (((RofN Try.f5 8)[11]?).getD default) (yielded (RofN Try.f5 8) ((A2.put (some 77) (.agg (rc (nrm M2) (nrS s2)))).put (some 79) (.agg (rc (nrm m) (nrS s)))).tmps) = true := by rw [← hA2]; kernel_rfl
  have hc18 : (execOp ((A2.put (some 77) (.agg (rc (nrm M2) (nrS s2)))).put (some 79) (.agg (rc (nrm m) (nrS s)))).eval (((RofN Try.f5 8)[11]?).getD default)).run Try.prog w4 = .ok (.enter 15 #[.agg (rc (nrm M2) (nrS s2)), .agg (rc (nrm m) (nrS s))]) w4 := by rw [← hA2]; kernel_rfl
  refine wpAnyH_one (i := 11) hr18 ?_
  refine wpOp_call (some 80) (by kernel_rfl) (by kernel_rfl) hw18 15 #[.agg (rc (nrm M2) (nrS s2)), .agg (rc (nrm m) (nrS s))] hc18 (HS w4 hS5.1) (.bool true) ?_
  rintro e w5 ⟨rfl, q5'⟩
  have hS6 := sb_q hS5 q5'
  refine ⟨rfl, hS6, ?_⟩
  have j3' : Chn Try.prog (RofN Try.f5 8) (SB w xb yb m M2 s s2) p2 (((L2.setIfInBounds 8 true).setIfInBounds 10 true).setIfInBounds 11 true) (((A2.put (some 77) (.agg (rc (nrm M2) (nrS s2)))).put (some 79) (.agg (rc (nrm m) (nrS s)))).put (some 80) (.bool true)) := by rw [← hA2, ← hL2]; exact q2 m s srv id v tb xb yb x y M2 s2 s3 x42 x43 x44 x45 x46 x47 x48 x49 x50 x51 x52 x53 x54 x55 x56 x57 x58 x59 x60 x61 w
  refine chn_take (by kernel_rfl) hQ hS6 3 p2 _ _ j3' ?_
  generalize hA3 : putL _ _ _ = A3
  generalize hL3 : setL _ _ = L3
  have hr21 : Region.ready .any (RofN Try.f5 8) (L3) = [14] := by rw [← hL3, ← hL2]; kernel_rfl
  have hw21 : Region.wanted (((RofN Try.f5 8)[14]?).getD default) (yielded (RofN Try.f5 8) (A3).tmps) = true := by rw [← hA3, ← hA2]; kernel_rfl
  have hc21 : (execOp (A3).eval (((RofN Try.f5 8)[14]?).getD default)).run Try.prog w5 = .ok (.enter 13 #[]) w5 := by rw [← hA3, ← hA2]; kernel_rfl
  refine wpAnyH_one (i := 14) hr21 ?_
  refine wpOp_call (some 83) (by kernel_rfl) (by kernel_rfl) hw21 13 #[] hc21 (awake_any w5) (.bool true) ?_
  rintro e w6 ⟨rfl, q6'⟩
  have hS7 := sb_q hS6 q6'
  refine ⟨rfl, hS7, ?_⟩
  have j4' : Chn Try.prog (RofN Try.f5 8) (SB w xb yb m M2 s s2) p3 (L3.setIfInBounds 14 true) (A3.put (some 83) (.bool true)) := by rw [← hA3, ← hA2, ← hL3, ← hL2]; exact q3 m s srv id v tb xb yb x y M2 s2 s3 x42 x43 x44 x45 x46 x47 x48 x49 x50 x51 x52 x53 x54 x55 x56 x57 x58 x59 x60 x61 w
  have hf1 : Region.ready .any (RofN Try.f5 8) (setL p3 (L3.setIfInBounds 14 true)) = [] := by rw [← hL3, ← hL2]; kernel_rfl
  have hf2 : (putL (RofN Try.f5 8) p3 (A3.put (some 83) (.bool true))).defers = [] := by rw [← hA3, ← hA2]; kernel_rfl
  have hf3 : (putL (RofN Try.f5 8) p3 (A3.put (some 83) (.bool true))).tmps.getD 2 undef = .bool true := by rw [← hA3, ← hA2]; kernel_rfl
  clear hA2 hA3 hL2 hL3
  refine chn_take (by kernel_rfl) hQ hS7 0 p3 _ _ j4' ?_
  refine wpAnyH_done hf1 ?_ _
  exact h _ _ hf2 hf3 hS7.1
end
end Go.Proofs.Ytidbimhcebfjfaa
