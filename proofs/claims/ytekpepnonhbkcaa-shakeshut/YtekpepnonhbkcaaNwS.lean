/-
  The region of shake's New that makes the side: it draws its order, calls and makes memory. Gone through by hand.
-/
import Derived.Test.YtekpepnonhbkcaaNwR
namespace Go.Proofs.Ytekpepnonhbkcaa
open Go.RowKit
set_option linter.unusedVariables false
set_option maxRecDepth 20000

/-- A side at its beginning. -/
def S0 (own : List Value) (wv : Sv) : Sh := ⟨own, wv, nilS, false, nilS, List.replicate 16 (.int .u8 0), nilS, nilS, nilS, nilS, ByteArray.empty, nilS, nilS⟩
theorem len_succ {l : List Value} {n : Nat} (h : l.length = n + 1) : ∃ a t, l = a :: t ∧ t.length = n := by
  cases l with
  | nil => simp at h
  | cons a t => exact ⟨a, t, rfl, by simpa using h⟩
set_option maxHeartbeats 4000000 in
theorem built_sh (l : List Value) (h : l.length = 36) (s : Sv) : Try.prog.built 65 [(0, .agg l.toArray), (1, .slice s.a s.n s.c)] = some (S0 l s).cells.toArray := by
  obtain ⟨c0, l0, rfl, h0⟩ := len_succ h
  obtain ⟨c1, l1, rfl, h1⟩ := len_succ h0
  obtain ⟨c2, l2, rfl, h2⟩ := len_succ h1
  obtain ⟨c3, l3, rfl, h3⟩ := len_succ h2
  obtain ⟨c4, l4, rfl, h4⟩ := len_succ h3
  obtain ⟨c5, l5, rfl, h5⟩ := len_succ h4
  obtain ⟨c6, l6, rfl, h6⟩ := len_succ h5
  obtain ⟨c7, l7, rfl, h7⟩ := len_succ h6
  obtain ⟨c8, l8, rfl, h8⟩ := len_succ h7
  obtain ⟨c9, l9, rfl, h9⟩ := len_succ h8
  obtain ⟨c10, l10, rfl, h10⟩ := len_succ h9
  obtain ⟨c11, l11, rfl, h11⟩ := len_succ h10
  obtain ⟨c12, l12, rfl, h12⟩ := len_succ h11
  obtain ⟨c13, l13, rfl, h13⟩ := len_succ h12
  obtain ⟨c14, l14, rfl, h14⟩ := len_succ h13
  obtain ⟨c15, l15, rfl, h15⟩ := len_succ h14
  obtain ⟨c16, l16, rfl, h16⟩ := len_succ h15
  obtain ⟨c17, l17, rfl, h17⟩ := len_succ h16
  obtain ⟨c18, l18, rfl, h18⟩ := len_succ h17
  obtain ⟨c19, l19, rfl, h19⟩ := len_succ h18
  obtain ⟨c20, l20, rfl, h20⟩ := len_succ h19
  obtain ⟨c21, l21, rfl, h21⟩ := len_succ h20
  obtain ⟨c22, l22, rfl, h22⟩ := len_succ h21
  obtain ⟨c23, l23, rfl, h23⟩ := len_succ h22
  obtain ⟨c24, l24, rfl, h24⟩ := len_succ h23
  obtain ⟨c25, l25, rfl, h25⟩ := len_succ h24
  obtain ⟨c26, l26, rfl, h26⟩ := len_succ h25
  obtain ⟨c27, l27, rfl, h27⟩ := len_succ h26
  obtain ⟨c28, l28, rfl, h28⟩ := len_succ h27
  obtain ⟨c29, l29, rfl, h29⟩ := len_succ h28
  obtain ⟨c30, l30, rfl, h30⟩ := len_succ h29
  obtain ⟨c31, l31, rfl, h31⟩ := len_succ h30
  obtain ⟨c32, l32, rfl, h32⟩ := len_succ h31
  obtain ⟨c33, l33, rfl, h33⟩ := len_succ h32
  obtain ⟨c34, l34, rfl, h34⟩ := len_succ h33
  obtain ⟨c35, l35, rfl, h35⟩ := len_succ h34
  obtain rfl := List.length_eq_zero_iff.1 h35
  kernel_rfl
theorem run_sh {o : Oper} {a : Act} {w : World} (x y : Operand) (l : List Value) (s : Sv) (hl : l.length = 36) (ho : o.op = .build 65 #[(0, x), (1, y)]) (hx : a.eval x = .agg l.toArray) (hy : a.eval y = .slice s.a s.n s.c) :
    (execOp a.eval o).run Try.prog w = .ok (.value (.agg (S0 l s).cells.toArray)) w := by
  have hb := run_build (P := Try.prog) w 65 #[(0, .agg l.toArray), (1, .slice s.a s.n s.c)] _ (built_sh l hl s)
  have e : (#[(0, x), (1, y)].map fun z : Nat × Operand => (z.1, a.eval z.2)) = #[(0, .agg l.toArray), (1, .slice s.a s.n s.c)] := by simp [hx, hy]
  unfold execOp
  simp only [ho, Sem.run_bind, Result.andThen_ok, e, hb]
  rfl
theorem ld_bool {o : Oper} {a : Act} {w : World} (x : Operand) (b j : Nat) (v : Bool) (ho : o.op = .load 4 x) (hx : a.eval x = .pointer (some ⟨b, j, none⟩)) (hc : w.cell? ⟨b, j, none⟩ = some (.bool v)) :
    (execOp a.eval o).run Try.prog w = .ok (.value (.bool v)) w := by
  have hst : (loadVar 4 ⟨b, j, none⟩).run Try.prog w = .ok (.bool v) w := by simp [loadVar, go_sem, hc]
  unfold execOp
  simp only [ho, hx, Instr.loadAt, Instr.sureAddr, Sem.run_bind, Sem.run_pure, Result.andThen_ok, hst]
/-- What holds throughout. -/
def SN (w : World) (cb : Nat) (l : List Value) (sv : Bool) (u : World) : Prop := Q w u ∧ u.heap[cb]? = some (.cells l.toArray 26 (0, 0)) ∧ l.length = 36 ∧ u.cell? ⟨cb, 0, none⟩ = some (.bool sv)
theorem sn_q {w : World} {cb : Nat} {l : List Value} {sv : Bool} {u v : World} (h : SN w cb l sv u) (q : Q u v) : SN w cb l sv v :=
  ⟨h.1.trans q, (Below.block q _ (lt_of_block h.2.1)).trans h.2.1, h.2.2.1, (q.cell (p := ⟨cb, 0, none⟩) (lt_of_cell h.2.2.2)).trans h.2.2.2⟩
def m0 (cb : Nat) (l : List Value) (sv : Bool) : List (Nat × Value) := [(0, .agg l.toArray), (1, .pointer (some ⟨cb, 0, none⟩)), (2, .bool sv)]
section
variable {cb : Nat} {l : List Value} {sv : Bool} {x0 x2 x3 x4 x5 x6 x7 x8 x9 x10 x11 x12 x13 x14 x15 x16 x17 x18 x19 x20 x21 x22 x23 x24 x25 x26 x27 x28 x29 x30 x31 x32 x33 x34 x35 x36 x37 x38 x39 x40 x41 x42 x43 x44 x45 x46 : Value} {w : World} {R : Exit → Act → World → Prop}
theorem m0c : Chn Try.prog (RofN Try.f6 4) (SN w cb l sv) (m0 cb l sv) (#[false, false, false, false, false, false, false] : Array Bool) (⟨#[x0, .pointer (some ⟨cb, 0, none⟩), x2, x3, x4, x5, x6, x7, x8, x9, x10, x11, x12, x13, x14, x15, x16, x17, x18, x19, x20, x21, x22, x23, x24, x25, x26, x27, x28, x29, x30, x31, x32, x33, x34, x35, x36, x37, x38, x39, x40, x41, x42, x43, x44, x45, x46], []⟩ : Act) :=
  ⟨⟨by kernel_rfl, by kernel_rfl, by kernel_rfl, by kernel_rfl, fun w h => ld_cfg (.tmp 1) cb l.toArray (by rw [List.size_toArray]; exact h.2.2.1) (by kernel_rfl) (by kernel_rfl) h.2.1⟩, ⟨by kernel_rfl, by kernel_rfl, by kernel_rfl, by kernel_rfl, fun w h => by kernel_rfl⟩, ⟨by kernel_rfl, by kernel_rfl, by kernel_rfl, by kernel_rfl, fun w h => ld_bool (.tmp 34) cb 0 sv (by kernel_rfl) (by kernel_rfl) h.2.2.2⟩, trivial⟩
set_option maxHeartbeats 8000000 in
theorem nw4 (hS : SN w cb l sv w) (hQ : ∀ c a d v w, R (.panic c) (a.put d v) w → R (.panic c) a w)
    (hE : ∀ (wb sb : Nat) (W : World), Q w W → ShAt W sb (S0 l ⟨some ⟨wb, 0, none⟩, (waitsL sv).length, (waitsL sv).length⟩) → W.heap[wb]? = some (.cells (waitsC (waitsL sv)).toArray 72 (0, 0)) → w.heap.size ≤ wb → wb < sb → R .normal (⟨#[x0, .pointer (some ⟨cb, 0, none⟩), x2, x3, .pointer (some ⟨sb, 0, none⟩), x5, x6, x7, x8, x9, x10, x11, x12, x13, x14, x15, x16, x17, x18, x19, x20, x21, x22, x23, x24, x25, x26, x27, x28, x29, x30, x31, x32, .agg l.toArray, .pointer (some ⟨cb, 0, none⟩), .bool sv, .slice (some ⟨wb, 0, none⟩) (waitsL sv).length (waitsL sv).length, .agg (S0 l ⟨some ⟨wb, 0, none⟩, (waitsL sv).length, (waitsL sv).length⟩).cells.toArray, .pointer (some ⟨sb, 0, none⟩), x39, x40, x41, x42, x43, x44, x45, x46], []⟩ : Act) W) :
    (Code.region 4 (RofN Try.f6 4) true).wp Try.prog R (⟨#[x0, .pointer (some ⟨cb, 0, none⟩), x2, x3, x4, x5, x6, x7, x8, x9, x10, x11, x12, x13, x14, x15, x16, x17, x18, x19, x20, x21, x22, x23, x24, x25, x26, x27, x28, x29, x30, x31, x32, x33, x34, x35, x36, x37, x38, x39, x40, x41, x42, x43, x44, x45, x46], []⟩ : Act) w := by
  refine wp_region_held (S := (SN w cb l sv)) (by kernel_rfl) ?_
  have hsz : (RofN Try.f6 4).size = 7 := by kernel_rfl
  rw [hsz]
  have hS0 : (SN w cb l sv) w.drew := sn_q hS ((Q.refl w).drew)
  refine chn_take (by kernel_rfl) hQ hS0 4 (m0 cb l sv) _ _ m0c ?_
  have e0 : putL (RofN Try.f6 4) (m0 cb l sv) (⟨#[x0, .pointer (some ⟨cb, 0, none⟩), x2, x3, x4, x5, x6, x7, x8, x9, x10, x11, x12, x13, x14, x15, x16, x17, x18, x19, x20, x21, x22, x23, x24, x25, x26, x27, x28, x29, x30, x31, x32, x33, x34, x35, x36, x37, x38, x39, x40, x41, x42, x43, x44, x45, x46], []⟩ : Act) = (⟨#[x0, .pointer (some ⟨cb, 0, none⟩), x2, x3, x4, x5, x6, x7, x8, x9, x10, x11, x12, x13, x14, x15, x16, x17, x18, x19, x20, x21, x22, x23, x24, x25, x26, x27, x28, x29, x30, x31, x32, .agg l.toArray, .pointer (some ⟨cb, 0, none⟩), .bool sv, x36, x37, x38, x39, x40, x41, x42, x43, x44, x45, x46], []⟩ : Act) := by kernel_rfl
  have l0 : setL (m0 cb l sv) (Array.replicate 7 false) = (#[true, true, true, false, false, false, false] : Array Bool) := by kernel_rfl
  rw [e0, l0]
  clear e0 l0
  have hc : (execOp (⟨#[x0, .pointer (some ⟨cb, 0, none⟩), x2, x3, x4, x5, x6, x7, x8, x9, x10, x11, x12, x13, x14, x15, x16, x17, x18, x19, x20, x21, x22, x23, x24, x25, x26, x27, x28, x29, x30, x31, x32, .agg l.toArray, .pointer (some ⟨cb, 0, none⟩), .bool sv, x36, x37, x38, x39, x40, x41, x42, x43, x44, x45, x46], []⟩ : Act).eval (((RofN Try.f6 4)[3]?).getD default)).run Try.prog w.drew = .ok (.enter 24 #[.bool sv]) w.drew := by kernel_rfl
  refine wpAnyH_one (i := 3) (by kernel_rfl) ?_
  refine wpOp_callx (some 36) (by kernel_rfl) (by kernel_rfl) (by kernel_rfl) 24 #[.bool sv] hc (waitsOf_any sv _) ?_
  clear hc
  rintro e w1 ⟨rfl, e1⟩
  have q1 : Q w.drew w1 := by rw [e1]; exact (Q.refl _).alloc _
  have hb1 : w1.heap[w.drew.heap.size]? = some (.cells (waitsC (waitsL sv)).toArray 72 (0, 0)) := by rw [e1]; exact heap_alloc_new _ _
  have hle : w.heap.size ≤ w.drew.heap.size := Nat.le_refl _
  clear e1
  generalize w.drew.heap.size = wb at *
  have hS1 := sn_q hS0 q1
  refine ⟨_, rfl, hS1, ?_⟩
  have e0 : (⟨#[x0, .pointer (some ⟨cb, 0, none⟩), x2, x3, x4, x5, x6, x7, x8, x9, x10, x11, x12, x13, x14, x15, x16, x17, x18, x19, x20, x21, x22, x23, x24, x25, x26, x27, x28, x29, x30, x31, x32, .agg l.toArray, .pointer (some ⟨cb, 0, none⟩), .bool sv, x36, x37, x38, x39, x40, x41, x42, x43, x44, x45, x46], []⟩ : Act).put (some 36) (.slice (some ⟨wb, 0, none⟩) (waitsL sv).length (waitsL sv).length) = (⟨#[x0, .pointer (some ⟨cb, 0, none⟩), x2, x3, x4, x5, x6, x7, x8, x9, x10, x11, x12, x13, x14, x15, x16, x17, x18, x19, x20, x21, x22, x23, x24, x25, x26, x27, x28, x29, x30, x31, x32, .agg l.toArray, .pointer (some ⟨cb, 0, none⟩), .bool sv, .slice (some ⟨wb, 0, none⟩) (waitsL sv).length (waitsL sv).length, x37, x38, x39, x40, x41, x42, x43, x44, x45, x46], []⟩ : Act) := by kernel_rfl
  have l0 : (#[true, true, true, false, false, false, false] : Array Bool).setIfInBounds 3 true = (#[true, true, true, true, false, false, false] : Array Bool) := by kernel_rfl
  rw [e0, l0]
  clear e0 l0
  have hc := run_sh (o := ((RofN Try.f6 4)[4]?).getD default) (a := (⟨#[x0, .pointer (some ⟨cb, 0, none⟩), x2, x3, x4, x5, x6, x7, x8, x9, x10, x11, x12, x13, x14, x15, x16, x17, x18, x19, x20, x21, x22, x23, x24, x25, x26, x27, x28, x29, x30, x31, x32, .agg l.toArray, .pointer (some ⟨cb, 0, none⟩), .bool sv, .slice (some ⟨wb, 0, none⟩) (waitsL sv).length (waitsL sv).length, x37, x38, x39, x40, x41, x42, x43, x44, x45, x46], []⟩ : Act)) (w := w1) (.tmp 33) (.tmp 36) l ⟨some ⟨wb, 0, none⟩, (waitsL sv).length, (waitsL sv).length⟩ hS.2.2.1 (by kernel_rfl) (by kernel_rfl) (by kernel_rfl)
  refine wpAnyH_one (i := 4) (by kernel_rfl) ?_
  refine wpOp_val (some 37) (by kernel_rfl) (by kernel_rfl) (by kernel_rfl) hc ?_
  clear hc
  refine ⟨hS1, ?_⟩
  have hsa : ShAt (w1.alloc (.cells (S0 l ⟨some ⟨wb, 0, none⟩, (waitsL sv).length, (waitsL sv).length⟩).cells.toArray 65)) w1.heap.size (S0 l ⟨some ⟨wb, 0, none⟩, (waitsL sv).length, (waitsL sv).length⟩) := ⟨heap_alloc_new _ _, hS.2.2.1, by simp [S0]⟩
  have e0 : (⟨#[x0, .pointer (some ⟨cb, 0, none⟩), x2, x3, x4, x5, x6, x7, x8, x9, x10, x11, x12, x13, x14, x15, x16, x17, x18, x19, x20, x21, x22, x23, x24, x25, x26, x27, x28, x29, x30, x31, x32, .agg l.toArray, .pointer (some ⟨cb, 0, none⟩), .bool sv, .slice (some ⟨wb, 0, none⟩) (waitsL sv).length (waitsL sv).length, x37, x38, x39, x40, x41, x42, x43, x44, x45, x46], []⟩ : Act).put (some 37) (.agg (S0 l ⟨some ⟨wb, 0, none⟩, (waitsL sv).length, (waitsL sv).length⟩).cells.toArray) = (⟨#[x0, .pointer (some ⟨cb, 0, none⟩), x2, x3, x4, x5, x6, x7, x8, x9, x10, x11, x12, x13, x14, x15, x16, x17, x18, x19, x20, x21, x22, x23, x24, x25, x26, x27, x28, x29, x30, x31, x32, .agg l.toArray, .pointer (some ⟨cb, 0, none⟩), .bool sv, .slice (some ⟨wb, 0, none⟩) (waitsL sv).length (waitsL sv).length, .agg (S0 l ⟨some ⟨wb, 0, none⟩, (waitsL sv).length, (waitsL sv).length⟩).cells.toArray, x38, x39, x40, x41, x42, x43, x44, x45, x46], []⟩ : Act) := by kernel_rfl
  have l0 : (#[true, true, true, true, false, false, false] : Array Bool).setIfInBounds 4 true = (#[true, true, true, true, true, false, false] : Array Bool) := by kernel_rfl
  rw [e0, l0]
  clear e0 l0
  have hc : (execOp (⟨#[x0, .pointer (some ⟨cb, 0, none⟩), x2, x3, x4, x5, x6, x7, x8, x9, x10, x11, x12, x13, x14, x15, x16, x17, x18, x19, x20, x21, x22, x23, x24, x25, x26, x27, x28, x29, x30, x31, x32, .agg l.toArray, .pointer (some ⟨cb, 0, none⟩), .bool sv, .slice (some ⟨wb, 0, none⟩) (waitsL sv).length (waitsL sv).length, .agg (S0 l ⟨some ⟨wb, 0, none⟩, (waitsL sv).length, (waitsL sv).length⟩).cells.toArray, x38, x39, x40, x41, x42, x43, x44, x45, x46], []⟩ : Act).eval (((RofN Try.f6 4)[5]?).getD default)).run Try.prog w1 = .ok (.value (.pointer (some ⟨w1.heap.size, 0, none⟩))) (w1.alloc (.cells (S0 l ⟨some ⟨wb, 0, none⟩, (waitsL sv).length, (waitsL sv).length⟩).cells.toArray 65)) := by kernel_rfl
  refine wpAnyH_one (i := 5) (by kernel_rfl) ?_
  refine wpOp_val (some 38) (by kernel_rfl) (by kernel_rfl) (by kernel_rfl) hc ?_
  clear hc
  have q2 : Q w1 (w1.alloc (.cells (S0 l ⟨some ⟨wb, 0, none⟩, (waitsL sv).length, (waitsL sv).length⟩).cells.toArray 65)) := (Q.refl _).alloc _
  have hlt : wb < w1.heap.size := lt_of_block hb1
  generalize w1.alloc (.cells (S0 l ⟨some ⟨wb, 0, none⟩, (waitsL sv).length, (waitsL sv).length⟩).cells.toArray 65) = w2 at *
  generalize w1.heap.size = sb at *
  have hS2 := sn_q hS1 q2
  refine ⟨hS2, ?_⟩
  have e0 : (⟨#[x0, .pointer (some ⟨cb, 0, none⟩), x2, x3, x4, x5, x6, x7, x8, x9, x10, x11, x12, x13, x14, x15, x16, x17, x18, x19, x20, x21, x22, x23, x24, x25, x26, x27, x28, x29, x30, x31, x32, .agg l.toArray, .pointer (some ⟨cb, 0, none⟩), .bool sv, .slice (some ⟨wb, 0, none⟩) (waitsL sv).length (waitsL sv).length, .agg (S0 l ⟨some ⟨wb, 0, none⟩, (waitsL sv).length, (waitsL sv).length⟩).cells.toArray, x38, x39, x40, x41, x42, x43, x44, x45, x46], []⟩ : Act).put (some 38) (.pointer (some ⟨sb, 0, none⟩)) = (⟨#[x0, .pointer (some ⟨cb, 0, none⟩), x2, x3, x4, x5, x6, x7, x8, x9, x10, x11, x12, x13, x14, x15, x16, x17, x18, x19, x20, x21, x22, x23, x24, x25, x26, x27, x28, x29, x30, x31, x32, .agg l.toArray, .pointer (some ⟨cb, 0, none⟩), .bool sv, .slice (some ⟨wb, 0, none⟩) (waitsL sv).length (waitsL sv).length, .agg (S0 l ⟨some ⟨wb, 0, none⟩, (waitsL sv).length, (waitsL sv).length⟩).cells.toArray, .pointer (some ⟨sb, 0, none⟩), x39, x40, x41, x42, x43, x44, x45, x46], []⟩ : Act) := by kernel_rfl
  have l0 : (#[true, true, true, true, true, false, false] : Array Bool).setIfInBounds 5 true = (#[true, true, true, true, true, true, false] : Array Bool) := by kernel_rfl
  rw [e0, l0]
  clear e0 l0
  have hc : (execOp (⟨#[x0, .pointer (some ⟨cb, 0, none⟩), x2, x3, x4, x5, x6, x7, x8, x9, x10, x11, x12, x13, x14, x15, x16, x17, x18, x19, x20, x21, x22, x23, x24, x25, x26, x27, x28, x29, x30, x31, x32, .agg l.toArray, .pointer (some ⟨cb, 0, none⟩), .bool sv, .slice (some ⟨wb, 0, none⟩) (waitsL sv).length (waitsL sv).length, .agg (S0 l ⟨some ⟨wb, 0, none⟩, (waitsL sv).length, (waitsL sv).length⟩).cells.toArray, .pointer (some ⟨sb, 0, none⟩), x39, x40, x41, x42, x43, x44, x45, x46], []⟩ : Act).eval (((RofN Try.f6 4)[6]?).getD default)).run Try.prog w2 = .ok (.value (.pointer (some ⟨sb, 0, none⟩))) w2 := by kernel_rfl
  refine wpAnyH_one (i := 6) (by kernel_rfl) ?_
  refine wpOp_val (some 4) (by kernel_rfl) (by kernel_rfl) (by kernel_rfl) hc ?_
  clear hc
  refine ⟨hS2, ?_⟩
  have e0 : (⟨#[x0, .pointer (some ⟨cb, 0, none⟩), x2, x3, x4, x5, x6, x7, x8, x9, x10, x11, x12, x13, x14, x15, x16, x17, x18, x19, x20, x21, x22, x23, x24, x25, x26, x27, x28, x29, x30, x31, x32, .agg l.toArray, .pointer (some ⟨cb, 0, none⟩), .bool sv, .slice (some ⟨wb, 0, none⟩) (waitsL sv).length (waitsL sv).length, .agg (S0 l ⟨some ⟨wb, 0, none⟩, (waitsL sv).length, (waitsL sv).length⟩).cells.toArray, .pointer (some ⟨sb, 0, none⟩), x39, x40, x41, x42, x43, x44, x45, x46], []⟩ : Act).put (some 4) (.pointer (some ⟨sb, 0, none⟩)) = (⟨#[x0, .pointer (some ⟨cb, 0, none⟩), x2, x3, .pointer (some ⟨sb, 0, none⟩), x5, x6, x7, x8, x9, x10, x11, x12, x13, x14, x15, x16, x17, x18, x19, x20, x21, x22, x23, x24, x25, x26, x27, x28, x29, x30, x31, x32, .agg l.toArray, .pointer (some ⟨cb, 0, none⟩), .bool sv, .slice (some ⟨wb, 0, none⟩) (waitsL sv).length (waitsL sv).length, .agg (S0 l ⟨some ⟨wb, 0, none⟩, (waitsL sv).length, (waitsL sv).length⟩).cells.toArray, .pointer (some ⟨sb, 0, none⟩), x39, x40, x41, x42, x43, x44, x45, x46], []⟩ : Act) := by kernel_rfl
  have l0 : (#[true, true, true, true, true, true, false] : Array Bool).setIfInBounds 6 true = (#[true, true, true, true, true, true, true] : Array Bool) := by kernel_rfl
  rw [e0, l0]
  clear e0 l0
  refine wpAnyH_done (by kernel_rfl) ?_ _
  exact hE wb sb w2 hS2.1 hsa ((Below.block q2 _ (lt_of_block hb1)).trans hb1) hle hlt
end
end Go.Proofs.Ytekpepnonhbkcaa
