/-
  The last region of shake's clientHello: it draws its order, makes memory in between, and calls three times. Gone through by hand.
-/
import Derived.Test.YtekpepnonhbkcaaHnd
namespace Go.Proofs.Ytekpepnonhbkcaa
open Go.RowKit
set_option linter.unusedVariables false
set_option maxRecDepth 20000

theorem ld_sl {o : Oper} {a : Act} {w : World} (x : Operand) (b j : Nat) (v : Sv) (ho : o.op = .load 24 x) (hx : a.eval x = .pointer (some ⟨b, j, none⟩)) (hc : w.cell? ⟨b, j, none⟩ = some (.slice v.a v.n v.c)) :
    (execOp a.eval o).run Try.prog w = .ok (.value (.slice v.a v.n v.c)) w := by
  have hst : (loadVar 24 ⟨b, j, none⟩).run Try.prog w = .ok (.slice v.a v.n v.c) w := by simp [loadVar, go_sem, hc]
  unfold execOp
  simp only [ho, hx, Instr.loadAt, Instr.sureAddr, Sem.run_bind, Sem.run_pure, Result.andThen_ok, hst]
theorem ld_cfg {o : Oper} {a : Act} {w : World} (x : Operand) (b : Nat) (X : Array Value) (hn : X.size = 36) (ho : o.op = .load 26 x) (hx : a.eval x = .pointer (some ⟨b, 0, none⟩)) (hb : w.heap[b]? = some (.cells X 26 (0, 0))) :
    (execOp a.eval o).run Try.prog w = .ok (.value (.agg X)) w := by
  have hst : (loadVar 26 ⟨b, 0, none⟩).run Try.prog w = .ok (.agg X) w := run_loadVar_row w b 26 26 X (0, 0) _ hb Try.underlying26 rfl (by rw [hn]; kernel_rfl)
  unfold execOp
  simp only [ho, hx, Instr.loadAt, Instr.sureAddr, Sem.run_bind, Sem.run_pure, Result.andThen_ok, hst]
/-- What holds throughout. -/
def SC (w : World) (cb : Nat) (X : Array Value) (p : Sv) (u : World) : Prop := Q w u ∧ u.heap[cb]? = some (.cells X 26 (0, 0)) ∧ X.size = 36 ∧ u.cell? ⟨cb, 35, none⟩ = some (.slice p.a p.n p.c)
theorem sc_q {w : World} {cb : Nat} {X : Array Value} {p : Sv} {u v : World} (h : SC w cb X p u) (q : Q u v) : SC w cb X p v :=
  ⟨h.1.trans q, (Below.block q _ (lt_of_block h.2.1)).trans h.2.1, h.2.2.1, (q.cell (p := ⟨cb, 35, none⟩) (lt_of_cell h.2.2.2)).trans h.2.2.2⟩
def z0 (cb : Nat) (X : Array Value) (x p : Sv) : List (Nat × Value) := [(0, .agg X), (2, .slice x.a x.n x.c), (3, .pointer (some ⟨cb, 35, none⟩)), (4, .slice p.a p.n p.c)]
theorem g0 (cb : Nat) (X : Array Value) (x p : Sv) {x0 x2 x4 x5 x6 x7 x8 x9 x10 x11 x12 x13 x14 x15 x16 x17 x18 x19 x20 x21 x22 x23 x24 x25 x26 x27 x28 x29 x30 x31 : Value} (w : World) : Chn Try.prog (RofN Try.f26 7) (SC w cb X p) (z0 cb X x p) (#[false, false, false, false, false, false, false, false, false] : Array Bool) (⟨#[x0, .pointer (some ⟨cb, 0, none⟩), x2, .slice x.a x.n x.c, x4, x5, x6, x7, x8, x9, x10, x11, x12, x13, x14, x15, x16, x17, x18, x19, x20, x21, x22, x23, x24, x25, x26, x27, x28, x29, x30, x31], []⟩ : Act) :=
  ⟨⟨by kernel_rfl, by kernel_rfl, by kernel_rfl, by kernel_rfl, fun w h => ld_cfg (.tmp 1) cb X h.2.2.1 (by kernel_rfl) (by kernel_rfl) h.2.1⟩, ⟨by kernel_rfl, by kernel_rfl, by kernel_rfl, by kernel_rfl, fun w h => by kernel_rfl⟩, ⟨by kernel_rfl, by kernel_rfl, by kernel_rfl, by kernel_rfl, fun w h => by kernel_rfl⟩, ⟨by kernel_rfl, by kernel_rfl, by kernel_rfl, by kernel_rfl, fun w h => ld_sl (.tmp 27) cb 35 p (by kernel_rfl) (by kernel_rfl) h.2.2.2⟩, trivial⟩
set_option maxHeartbeats 8000000 in
theorem rg7 (cb : Nat) (X : Array Value) (x p : Sv) {x0 x2 x4 x5 x6 x7 x8 x9 x10 x11 x12 x13 x14 x15 x16 x17 x18 x19 x20 x21 x22 x23 x24 x25 x26 x27 x28 x29 x30 x31 : Value} (w : World) (R : Exit → Act → World → Prop) (hQ : ∀ c a d v w, R (.panic c) (a.put d v) w → R (.panic c) a w) (hS : SC w cb X p w)
    (GL XL PL ZL : List Int) (hG : ∀ u, Calls Try.prog 37 #[.agg X] u fun e w' => ∃ t : Sv, e = .returned (.slice t.a t.n t.c) ∧ Q u w' ∧ Row w' t GL)
    (hP : ∀ u, Q w u → Calls Try.prog 35 #[.slice p.a p.n p.c, .int .i64 2] u fun e w' => ∃ t : Sv, e = .returned (.slice t.a t.n t.c) ∧ Q u w' ∧ Row w' t PL)
    (hB : ∀ u (g y : Sv), Q w u → Row u g GL → Row u y PL → Calls Try.prog 36 #[.int .u8 1, .slice (some ⟨u.heap.size, 0, none⟩) 3 3] (u.alloc (.cells #[.slice g.a g.n g.c, .slice x.a x.n x.c, .slice y.a y.n y.c] 24)) fun e w' => ∃ t : Sv, e = .returned (.slice t.a t.n t.c) ∧ Q u w' ∧ Row w' t ZL)
    (h : ∀ (g y z : Sv) (jb : Nat) (W : World), Q w W → Row W z ZL → R .normal (⟨#[x0, .pointer (some ⟨cb, 0, none⟩), .slice z.a z.n z.c, .slice x.a x.n x.c, x4, x5, x6, x7, x8, x9, x10, x11, x12, x13, x14, x15, x16, x17, x18, x19, x20, x21, x22, x23, .agg X, .slice g.a g.n g.c, .slice x.a x.n x.c, .pointer (some ⟨cb, 35, none⟩), .slice p.a p.n p.c, .slice y.a y.n y.c, .slice (some ⟨jb, 0, none⟩) 3 3, .slice z.a z.n z.c], []⟩ : Act) W) :
    (Code.region 7 (RofN Try.f26 7) true).wp Try.prog R (⟨#[x0, .pointer (some ⟨cb, 0, none⟩), x2, .slice x.a x.n x.c, x4, x5, x6, x7, x8, x9, x10, x11, x12, x13, x14, x15, x16, x17, x18, x19, x20, x21, x22, x23, x24, x25, x26, x27, x28, x29, x30, x31], []⟩ : Act) w := by
  refine wp_region_held (S := (SC w cb X p)) (by kernel_rfl) ?_
  have hsz : (RofN Try.f26 7).size = 9 := by kernel_rfl
  rw [hsz]
  have hS0 : (SC w cb X p) w.drew := sc_q hS ((Q.refl w).drew)
  refine chn_take (by kernel_rfl) hQ hS0 5 (z0 cb X x p) _ _ (g0 cb X x p w) ?_
  have e0 : putL (RofN Try.f26 7) (z0 cb X x p) (⟨#[x0, .pointer (some ⟨cb, 0, none⟩), x2, .slice x.a x.n x.c, x4, x5, x6, x7, x8, x9, x10, x11, x12, x13, x14, x15, x16, x17, x18, x19, x20, x21, x22, x23, x24, x25, x26, x27, x28, x29, x30, x31], []⟩ : Act) = (⟨#[x0, .pointer (some ⟨cb, 0, none⟩), x2, .slice x.a x.n x.c, x4, x5, x6, x7, x8, x9, x10, x11, x12, x13, x14, x15, x16, x17, x18, x19, x20, x21, x22, x23, .agg X, x25, .slice x.a x.n x.c, .pointer (some ⟨cb, 35, none⟩), .slice p.a p.n p.c, x29, x30, x31], []⟩ : Act) := by kernel_rfl
  have l0 : setL (z0 cb X x p) (Array.replicate 9 false) = (#[true, false, true, true, true, false, false, false, false] : Array Bool) := by kernel_rfl
  rw [e0, l0]
  clear e0 l0
  have hc : (execOp (⟨#[x0, .pointer (some ⟨cb, 0, none⟩), x2, .slice x.a x.n x.c, x4, x5, x6, x7, x8, x9, x10, x11, x12, x13, x14, x15, x16, x17, x18, x19, x20, x21, x22, x23, .agg X, x25, .slice x.a x.n x.c, .pointer (some ⟨cb, 35, none⟩), .slice p.a p.n p.c, x29, x30, x31], []⟩ : Act).eval (((RofN Try.f26 7)[1]?).getD default)).run Try.prog w.drew = .ok (.enter 37 #[.agg X]) w.drew := by kernel_rfl
  refine wpAnyH_one (i := 1) (by kernel_rfl) ?_
  refine wpOp_callx (some 25) (by kernel_rfl) (by kernel_rfl) (by kernel_rfl) 37 #[.agg X] hc (hG _) ?_
  clear hc
  rintro e w1 ⟨g, rfl, q1, r1⟩
  have hS1 := sc_q hS0 q1
  refine ⟨_, rfl, hS1, ?_⟩
  have e0 : (⟨#[x0, .pointer (some ⟨cb, 0, none⟩), x2, .slice x.a x.n x.c, x4, x5, x6, x7, x8, x9, x10, x11, x12, x13, x14, x15, x16, x17, x18, x19, x20, x21, x22, x23, .agg X, x25, .slice x.a x.n x.c, .pointer (some ⟨cb, 35, none⟩), .slice p.a p.n p.c, x29, x30, x31], []⟩ : Act).put (some 25) (.slice g.a g.n g.c) = (⟨#[x0, .pointer (some ⟨cb, 0, none⟩), x2, .slice x.a x.n x.c, x4, x5, x6, x7, x8, x9, x10, x11, x12, x13, x14, x15, x16, x17, x18, x19, x20, x21, x22, x23, .agg X, .slice g.a g.n g.c, .slice x.a x.n x.c, .pointer (some ⟨cb, 35, none⟩), .slice p.a p.n p.c, x29, x30, x31], []⟩ : Act) := by kernel_rfl
  have l0 : (#[true, false, true, true, true, false, false, false, false] : Array Bool).setIfInBounds 1 true = (#[true, true, true, true, true, false, false, false, false] : Array Bool) := by kernel_rfl
  rw [e0, l0]
  clear e0 l0
  have hc : (execOp (⟨#[x0, .pointer (some ⟨cb, 0, none⟩), x2, .slice x.a x.n x.c, x4, x5, x6, x7, x8, x9, x10, x11, x12, x13, x14, x15, x16, x17, x18, x19, x20, x21, x22, x23, .agg X, .slice g.a g.n g.c, .slice x.a x.n x.c, .pointer (some ⟨cb, 35, none⟩), .slice p.a p.n p.c, x29, x30, x31], []⟩ : Act).eval (((RofN Try.f26 7)[5]?).getD default)).run Try.prog w1 = .ok (.enter 35 #[.slice p.a p.n p.c, .int .i64 2]) w1 := by kernel_rfl
  refine wpAnyH_one (i := 5) (by kernel_rfl) ?_
  refine wpOp_callx (some 29) (by kernel_rfl) (by kernel_rfl) (by kernel_rfl) 35 #[.slice p.a p.n p.c, .int .i64 2] hc (hP _ hS1.1) ?_
  clear hc
  rintro e w2 ⟨y, rfl, q2, r2⟩
  have hS2 := sc_q hS1 q2
  refine ⟨_, rfl, hS2, ?_⟩
  have e0 : (⟨#[x0, .pointer (some ⟨cb, 0, none⟩), x2, .slice x.a x.n x.c, x4, x5, x6, x7, x8, x9, x10, x11, x12, x13, x14, x15, x16, x17, x18, x19, x20, x21, x22, x23, .agg X, .slice g.a g.n g.c, .slice x.a x.n x.c, .pointer (some ⟨cb, 35, none⟩), .slice p.a p.n p.c, x29, x30, x31], []⟩ : Act).put (some 29) (.slice y.a y.n y.c) = (⟨#[x0, .pointer (some ⟨cb, 0, none⟩), x2, .slice x.a x.n x.c, x4, x5, x6, x7, x8, x9, x10, x11, x12, x13, x14, x15, x16, x17, x18, x19, x20, x21, x22, x23, .agg X, .slice g.a g.n g.c, .slice x.a x.n x.c, .pointer (some ⟨cb, 35, none⟩), .slice p.a p.n p.c, .slice y.a y.n y.c, x30, x31], []⟩ : Act) := by kernel_rfl
  have l0 : (#[true, true, true, true, true, false, false, false, false] : Array Bool).setIfInBounds 5 true = (#[true, true, true, true, true, true, false, false, false] : Array Bool) := by kernel_rfl
  rw [e0, l0]
  clear e0 l0
  have hc : (execOp (⟨#[x0, .pointer (some ⟨cb, 0, none⟩), x2, .slice x.a x.n x.c, x4, x5, x6, x7, x8, x9, x10, x11, x12, x13, x14, x15, x16, x17, x18, x19, x20, x21, x22, x23, .agg X, .slice g.a g.n g.c, .slice x.a x.n x.c, .pointer (some ⟨cb, 35, none⟩), .slice p.a p.n p.c, .slice y.a y.n y.c, x30, x31], []⟩ : Act).eval (((RofN Try.f26 7)[6]?).getD default)).run Try.prog w2 = .ok (.value (.slice (some ⟨w2.heap.size, 0, none⟩) 3 3)) (w2.alloc (.cells #[.slice g.a g.n g.c, .slice x.a x.n x.c, .slice y.a y.n y.c] 24)) := by kernel_rfl
  refine wpAnyH_one (i := 6) (by kernel_rfl) ?_
  refine wpOp_val (some 30) (by kernel_rfl) (by kernel_rfl) (by kernel_rfl) hc ?_
  clear hc
  have hS3 := sc_q hS2 ((Q.refl w2).alloc (.cells #[.slice g.a g.n g.c, .slice x.a x.n x.c, .slice y.a y.n y.c] 24))
  have hK := hB w2 g y hS2.1 (r1.q q2) r2
  refine ⟨hS3, ?_⟩
  generalize w2.alloc (.cells #[.slice g.a g.n g.c, .slice x.a x.n x.c, .slice y.a y.n y.c] 24) = w3 at *
  generalize w2.heap.size = jb at *
  have e0 : (⟨#[x0, .pointer (some ⟨cb, 0, none⟩), x2, .slice x.a x.n x.c, x4, x5, x6, x7, x8, x9, x10, x11, x12, x13, x14, x15, x16, x17, x18, x19, x20, x21, x22, x23, .agg X, .slice g.a g.n g.c, .slice x.a x.n x.c, .pointer (some ⟨cb, 35, none⟩), .slice p.a p.n p.c, .slice y.a y.n y.c, x30, x31], []⟩ : Act).put (some 30) (.slice (some ⟨jb, 0, none⟩) 3 3) = (⟨#[x0, .pointer (some ⟨cb, 0, none⟩), x2, .slice x.a x.n x.c, x4, x5, x6, x7, x8, x9, x10, x11, x12, x13, x14, x15, x16, x17, x18, x19, x20, x21, x22, x23, .agg X, .slice g.a g.n g.c, .slice x.a x.n x.c, .pointer (some ⟨cb, 35, none⟩), .slice p.a p.n p.c, .slice y.a y.n y.c, .slice (some ⟨jb, 0, none⟩) 3 3, x31], []⟩ : Act) := by kernel_rfl
  have l0 : (#[true, true, true, true, true, true, false, false, false] : Array Bool).setIfInBounds 6 true = (#[true, true, true, true, true, true, true, false, false] : Array Bool) := by kernel_rfl
  rw [e0, l0]
  clear e0 l0
  have hc : (execOp (⟨#[x0, .pointer (some ⟨cb, 0, none⟩), x2, .slice x.a x.n x.c, x4, x5, x6, x7, x8, x9, x10, x11, x12, x13, x14, x15, x16, x17, x18, x19, x20, x21, x22, x23, .agg X, .slice g.a g.n g.c, .slice x.a x.n x.c, .pointer (some ⟨cb, 35, none⟩), .slice p.a p.n p.c, .slice y.a y.n y.c, .slice (some ⟨jb, 0, none⟩) 3 3, x31], []⟩ : Act).eval (((RofN Try.f26 7)[7]?).getD default)).run Try.prog w3 = .ok (.enter 36 #[.int .u8 1, .slice (some ⟨jb, 0, none⟩) 3 3]) w3 := by kernel_rfl
  refine wpAnyH_one (i := 7) (by kernel_rfl) ?_
  refine wpOp_callx (some 31) (by kernel_rfl) (by kernel_rfl) (by kernel_rfl) 36 #[.int .u8 1, .slice (some ⟨jb, 0, none⟩) 3 3] hc hK ?_
  clear hc hK
  rintro e w4 ⟨z, rfl, q4, r4⟩
  have hS4 := sc_q hS2 q4
  refine ⟨_, rfl, hS4, ?_⟩
  have e0 : (⟨#[x0, .pointer (some ⟨cb, 0, none⟩), x2, .slice x.a x.n x.c, x4, x5, x6, x7, x8, x9, x10, x11, x12, x13, x14, x15, x16, x17, x18, x19, x20, x21, x22, x23, .agg X, .slice g.a g.n g.c, .slice x.a x.n x.c, .pointer (some ⟨cb, 35, none⟩), .slice p.a p.n p.c, .slice y.a y.n y.c, .slice (some ⟨jb, 0, none⟩) 3 3, x31], []⟩ : Act).put (some 31) (.slice z.a z.n z.c) = (⟨#[x0, .pointer (some ⟨cb, 0, none⟩), x2, .slice x.a x.n x.c, x4, x5, x6, x7, x8, x9, x10, x11, x12, x13, x14, x15, x16, x17, x18, x19, x20, x21, x22, x23, .agg X, .slice g.a g.n g.c, .slice x.a x.n x.c, .pointer (some ⟨cb, 35, none⟩), .slice p.a p.n p.c, .slice y.a y.n y.c, .slice (some ⟨jb, 0, none⟩) 3 3, .slice z.a z.n z.c], []⟩ : Act) := by kernel_rfl
  have l0 : (#[true, true, true, true, true, true, true, false, false] : Array Bool).setIfInBounds 7 true = (#[true, true, true, true, true, true, true, true, false] : Array Bool) := by kernel_rfl
  rw [e0, l0]
  clear e0 l0
  have hc : (execOp (⟨#[x0, .pointer (some ⟨cb, 0, none⟩), x2, .slice x.a x.n x.c, x4, x5, x6, x7, x8, x9, x10, x11, x12, x13, x14, x15, x16, x17, x18, x19, x20, x21, x22, x23, .agg X, .slice g.a g.n g.c, .slice x.a x.n x.c, .pointer (some ⟨cb, 35, none⟩), .slice p.a p.n p.c, .slice y.a y.n y.c, .slice (some ⟨jb, 0, none⟩) 3 3, .slice z.a z.n z.c], []⟩ : Act).eval (((RofN Try.f26 7)[8]?).getD default)).run Try.prog w4 = .ok (.value (.slice z.a z.n z.c)) w4 := by kernel_rfl
  refine wpAnyH_one (i := 8) (by kernel_rfl) ?_
  refine wpOp_val (some 2) (by kernel_rfl) (by kernel_rfl) (by kernel_rfl) hc ?_
  clear hc
  refine ⟨hS4, ?_⟩
  have e0 : (⟨#[x0, .pointer (some ⟨cb, 0, none⟩), x2, .slice x.a x.n x.c, x4, x5, x6, x7, x8, x9, x10, x11, x12, x13, x14, x15, x16, x17, x18, x19, x20, x21, x22, x23, .agg X, .slice g.a g.n g.c, .slice x.a x.n x.c, .pointer (some ⟨cb, 35, none⟩), .slice p.a p.n p.c, .slice y.a y.n y.c, .slice (some ⟨jb, 0, none⟩) 3 3, .slice z.a z.n z.c], []⟩ : Act).put (some 2) (.slice z.a z.n z.c) = (⟨#[x0, .pointer (some ⟨cb, 0, none⟩), .slice z.a z.n z.c, .slice x.a x.n x.c, x4, x5, x6, x7, x8, x9, x10, x11, x12, x13, x14, x15, x16, x17, x18, x19, x20, x21, x22, x23, .agg X, .slice g.a g.n g.c, .slice x.a x.n x.c, .pointer (some ⟨cb, 35, none⟩), .slice p.a p.n p.c, .slice y.a y.n y.c, .slice (some ⟨jb, 0, none⟩) 3 3, .slice z.a z.n z.c], []⟩ : Act) := by kernel_rfl
  have l0 : (#[true, true, true, true, true, true, true, true, false] : Array Bool).setIfInBounds 8 true = (#[true, true, true, true, true, true, true, true, true] : Array Bool) := by kernel_rfl
  rw [e0, l0]
  clear e0 l0
  refine wpAnyH_done (by kernel_rfl) ?_ _
  exact h g y z jb w4 hS4.1 r4
end Go.Proofs.Ytekpepnonhbkcaa
