/-
  Two regions of shake's New: they draw their order, call, make memory and store. Gone through by hand.
-/
import Derived.Test.YtekpepnonhbkcaaShG
namespace Go.Proofs.Ytekpepnonhbkcaa
open Go.RowKit
set_option linter.unusedVariables false
set_option maxRecDepth 20000

theorem wpAnyH_two {P : Program} {ops : Array Oper} {Q : Exit → Act → World → Prop} {S : World → Prop} {i j fuel : Nat} {L : Array Bool} {a : Act} {w : World} (hr : Region.ready .any ops L = [i, j])
    (h1 : wpOp P ops Q i (fun a' w' => S w' ∧ wpAnyH P .any ops Q S fuel (L.setIfInBounds i true) a' w') a w)
    (h2 : wpOp P ops Q j (fun a' w' => S w' ∧ wpAnyH P .any ops Q S fuel (L.setIfInBounds j true) a' w') a w) : wpAnyH P .any ops Q S (fuel + 1) L a w :=
  wpAnyH_all hr (by simp) (fun l hl => by
    rcases List.mem_cons.1 hl with e | e
    · rw [e]; exact h1
    · have e' : l = j := by simpa using e
      rw [e']; exact h2)
theorem ld_tx {o : Oper} {a : Act} {w : World} (x : Operand) (b j : Nat) (v : Sv) (ho : o.op = .load 23 x) (hx : a.eval x = .pointer (some ⟨b, j, none⟩)) (hc : w.cell? ⟨b, j, none⟩ = some (.slice v.a v.n v.c)) :
    (execOp a.eval o).run Try.prog w = .ok (.value (.slice v.a v.n v.c)) w := by
  have hst : (loadVar 23 ⟨b, j, none⟩).run Try.prog w = .ok (.slice v.a v.n v.c) w := by simp [loadVar, go_sem, hc]
  unfold execOp
  simp only [ho, hx, Instr.loadAt, Instr.sureAddr, Sem.run_bind, Sem.run_pure, Result.andThen_ok, hst]
theorem st_tx {o : Oper} {a : Act} {w : World} (x y : Operand) (g p : Nat) (v : Sv) (u : Value) (ho : o.op = .store 23 x y) (hx : a.eval x = .pointer (some ⟨g, p, none⟩)) (hy : a.eval y = .slice v.a v.n v.c) (hc : w.cell? ⟨g, p, none⟩ = some u) (hf : w.frozen? ⟨g, p, none⟩ = false) :
    (execOp a.eval o).run Try.prog w = .ok .skip (w.setCell ⟨g, p, none⟩ (.slice v.a v.n v.c)) := by
  have hst : (storeVar 23 ⟨g, p, none⟩ (.slice v.a v.n v.c)).run Try.prog w = .ok () (w.setCell ⟨g, p, none⟩ (.slice v.a v.n v.c)) := by simp [storeVar, go_sem, hc, hf]
  unfold execOp
  simp only [ho, hx, hy, Instr.storeAt, Instr.sureAddr, Sem.run_bind, Sem.run_pure, Result.andThen_ok, hst]

section
variable {cb : Nat} {t p : Sv} {ss : List ByteArray} {ps : List Int} {x0 x2 x3 x4 x5 x6 x7 x8 x9 x10 x11 x12 x13 x14 x15 x16 x17 x18 x19 x20 x21 x22 x23 x24 x25 x26 x27 x28 x29 x30 x31 x32 x33 x34 x35 x36 x37 x38 x39 x40 x41 x42 x43 x44 x45 x46 : Value} {w : World} {R : Exit → Act → World → Prop}
/-- What the region is given: the Config's block, and what the clones do. -/
structure Nw (w : World) (cb : Nat) (t p : Sv) (ss : List ByteArray) (ps : List Int) : Prop where
  c34 : w.cell? ⟨cb, 34, none⟩ = some (.slice t.a t.n t.c)
  c35 : w.cell? ⟨cb, 35, none⟩ = some (.slice p.a p.n p.c)
  fz : ∀ u j, Q w u → u.frozen? ⟨cb, j, none⟩ = false
  k22 : ∀ u, Q w u → Calls Try.prog 22 #[.slice t.a t.n t.c] u fun e w' => ∃ y : Sv, e = .returned (.slice y.a y.n y.c) ∧ Q u w' ∧ RowT w' y ss ∧ New u.heap.size y
  k23 : ∀ u, Q w u → Calls Try.prog 23 #[.slice p.a p.n p.c] u fun e w' => ∃ y : Sv, e = .returned (.slice y.a y.n y.c) ∧ Q u w' ∧ Row w' y ps ∧ New u.heap.size y
theorem Nw.g34 (h : Nw w cb t p ss ps) {u : World} (q : Q w u) : u.cell? ⟨cb, 34, none⟩ = some (.slice t.a t.n t.c) := (q.cell (p := ⟨cb, 34, none⟩) (lt_of_cell h.c34)).trans h.c34
theorem Nw.g35 (h : Nw w cb t p ss ps) {u : World} (q : Q w u) : u.cell? ⟨cb, 35, none⟩ = some (.slice p.a p.n p.c) := (q.cell (p := ⟨cb, 35, none⟩) (lt_of_cell h.c35)).trans h.c35
theorem New.up {B C : Nat} {y : Sv} (h : New B y) (hc : C ≤ B) : New C y := fun b e => Nat.le_trans hc (h b e)
set_option maxHeartbeats 4000000 in
theorem nwG (hN : Nw w cb t p ss ps) (hQ : ∀ c a d v w, R (.panic c) (a.put d v) w → R (.panic c) a w) (hE : ∀ (y z : Sv) (W : World), Q w W → RowT W y ss → Row W z ps → New w.heap.size y → New w.heap.size z → R .normal (⟨#[x0, .pointer (some ⟨cb, 0, none⟩), x2, x3, x4, x5, x6, x7, x8, x9, x10, x11, x12, x13, x14, x15, x16, x17, x18, x19, x20, x21, x22, x23, x24, .pointer (some ⟨cb, 34, none⟩), .slice t.a t.n t.c, .slice y.a y.n y.c, .pointer (some ⟨cb, 35, none⟩), .slice p.a p.n p.c, .slice z.a z.n z.c, .pointer (some ⟨cb, 34, none⟩), .pointer (some ⟨cb, 35, none⟩), x33, x34, x35, x36, x37, x38, x39, x40, x41, x42, x43, x44, x45, x46], []⟩ : Act) ((W.setCell ⟨cb, 34, none⟩ (.slice y.a y.n y.c)).setCell ⟨cb, 35, none⟩ (.slice z.a z.n z.c))) {u : World} (q : Q w u) (y : Sv) (hy : RowT u y ss) (hyn : New w.heap.size y) (z : Sv) (hz : Row u z ps) (hzn : New w.heap.size z) : wpAnyH Try.prog .any (RofN Try.f6 3) R (fun _ => True) 3 (#[true, true, true, true, true, true, true, false, false, false] : Array Bool) (⟨#[x0, .pointer (some ⟨cb, 0, none⟩), x2, x3, x4, x5, x6, x7, x8, x9, x10, x11, x12, x13, x14, x15, x16, x17, x18, x19, x20, x21, x22, x23, x24, .pointer (some ⟨cb, 34, none⟩), .slice t.a t.n t.c, .slice y.a y.n y.c, .pointer (some ⟨cb, 35, none⟩), .slice p.a p.n p.c, .slice z.a z.n z.c, .pointer (some ⟨cb, 34, none⟩), x32, x33, x34, x35, x36, x37, x38, x39, x40, x41, x42, x43, x44, x45, x46], []⟩ : Act) u := by
  have hc := st_tx (o := ((RofN Try.f6 3)[7]?).getD default) (a := (⟨#[x0, .pointer (some ⟨cb, 0, none⟩), x2, x3, x4, x5, x6, x7, x8, x9, x10, x11, x12, x13, x14, x15, x16, x17, x18, x19, x20, x21, x22, x23, x24, .pointer (some ⟨cb, 34, none⟩), .slice t.a t.n t.c, .slice y.a y.n y.c, .pointer (some ⟨cb, 35, none⟩), .slice p.a p.n p.c, .slice z.a z.n z.c, .pointer (some ⟨cb, 34, none⟩), x32, x33, x34, x35, x36, x37, x38, x39, x40, x41, x42, x43, x44, x45, x46], []⟩ : Act)) (w := u) (.tmp 31) (.tmp 27) cb 34 y _ (by kernel_rfl) (by kernel_rfl) (by kernel_rfl) (hN.g34 q) (hN.fz u 34 q)
  refine wpAnyH_one (i := 7) (by kernel_rfl) ?_
  refine wpOp_skip none (by kernel_rfl) (by kernel_rfl) (by kernel_rfl) hc ?_
  clear hc
  refine ⟨trivial, ?_⟩
  have e0 : (⟨#[x0, .pointer (some ⟨cb, 0, none⟩), x2, x3, x4, x5, x6, x7, x8, x9, x10, x11, x12, x13, x14, x15, x16, x17, x18, x19, x20, x21, x22, x23, x24, .pointer (some ⟨cb, 34, none⟩), .slice t.a t.n t.c, .slice y.a y.n y.c, .pointer (some ⟨cb, 35, none⟩), .slice p.a p.n p.c, .slice z.a z.n z.c, .pointer (some ⟨cb, 34, none⟩), x32, x33, x34, x35, x36, x37, x38, x39, x40, x41, x42, x43, x44, x45, x46], []⟩ : Act).put none undef = (⟨#[x0, .pointer (some ⟨cb, 0, none⟩), x2, x3, x4, x5, x6, x7, x8, x9, x10, x11, x12, x13, x14, x15, x16, x17, x18, x19, x20, x21, x22, x23, x24, .pointer (some ⟨cb, 34, none⟩), .slice t.a t.n t.c, .slice y.a y.n y.c, .pointer (some ⟨cb, 35, none⟩), .slice p.a p.n p.c, .slice z.a z.n z.c, .pointer (some ⟨cb, 34, none⟩), x32, x33, x34, x35, x36, x37, x38, x39, x40, x41, x42, x43, x44, x45, x46], []⟩ : Act) := by kernel_rfl
  have l0 : (#[true, true, true, true, true, true, true, false, false, false] : Array Bool).setIfInBounds 7 true = (#[true, true, true, true, true, true, true, true, false, false] : Array Bool) := by kernel_rfl
  rw [e0, l0]
  clear e0 l0
  have hfz : (u.setCell ⟨cb, 34, none⟩ (.slice y.a y.n y.c)).frozen? ⟨cb, 35, none⟩ = false := by
    have h1 := hN.fz u 35 q
    simpa [go_sem] using h1
  have hcl : (u.setCell ⟨cb, 34, none⟩ (.slice y.a y.n y.c)).cell? ⟨cb, 35, none⟩ = some (.slice p.a p.n p.c) := by
    have h1 := hN.g35 q
    exact (World.cell?_setCell_other (w := u) (a := ⟨cb, 34, none⟩) (b := ⟨cb, 35, none⟩) (v := .slice y.a y.n y.c) (fun e => by simp at e)).trans h1
  have hEE := hE y z u q hy hz hyn hzn
  generalize u.setCell ⟨cb, 34, none⟩ (.slice y.a y.n y.c) = v at *
  have hc : (execOp (⟨#[x0, .pointer (some ⟨cb, 0, none⟩), x2, x3, x4, x5, x6, x7, x8, x9, x10, x11, x12, x13, x14, x15, x16, x17, x18, x19, x20, x21, x22, x23, x24, .pointer (some ⟨cb, 34, none⟩), .slice t.a t.n t.c, .slice y.a y.n y.c, .pointer (some ⟨cb, 35, none⟩), .slice p.a p.n p.c, .slice z.a z.n z.c, .pointer (some ⟨cb, 34, none⟩), x32, x33, x34, x35, x36, x37, x38, x39, x40, x41, x42, x43, x44, x45, x46], []⟩ : Act).eval (((RofN Try.f6 3)[8]?).getD default)).run Try.prog v = .ok (.value (.pointer (some ⟨cb, 35, none⟩))) v := by kernel_rfl
  refine wpAnyH_one (i := 8) (by kernel_rfl) ?_
  refine wpOp_val (some 32) (by kernel_rfl) (by kernel_rfl) (by kernel_rfl) hc ?_
  clear hc
  refine ⟨trivial, ?_⟩
  have e0 : (⟨#[x0, .pointer (some ⟨cb, 0, none⟩), x2, x3, x4, x5, x6, x7, x8, x9, x10, x11, x12, x13, x14, x15, x16, x17, x18, x19, x20, x21, x22, x23, x24, .pointer (some ⟨cb, 34, none⟩), .slice t.a t.n t.c, .slice y.a y.n y.c, .pointer (some ⟨cb, 35, none⟩), .slice p.a p.n p.c, .slice z.a z.n z.c, .pointer (some ⟨cb, 34, none⟩), x32, x33, x34, x35, x36, x37, x38, x39, x40, x41, x42, x43, x44, x45, x46], []⟩ : Act).put (some 32) (.pointer (some ⟨cb, 35, none⟩)) = (⟨#[x0, .pointer (some ⟨cb, 0, none⟩), x2, x3, x4, x5, x6, x7, x8, x9, x10, x11, x12, x13, x14, x15, x16, x17, x18, x19, x20, x21, x22, x23, x24, .pointer (some ⟨cb, 34, none⟩), .slice t.a t.n t.c, .slice y.a y.n y.c, .pointer (some ⟨cb, 35, none⟩), .slice p.a p.n p.c, .slice z.a z.n z.c, .pointer (some ⟨cb, 34, none⟩), .pointer (some ⟨cb, 35, none⟩), x33, x34, x35, x36, x37, x38, x39, x40, x41, x42, x43, x44, x45, x46], []⟩ : Act) := by kernel_rfl
  have l0 : (#[true, true, true, true, true, true, true, true, false, false] : Array Bool).setIfInBounds 8 true = (#[true, true, true, true, true, true, true, true, true, false] : Array Bool) := by kernel_rfl
  rw [e0, l0]
  clear e0 l0
  have hc := st_fld (o := ((RofN Try.f6 3)[9]?).getD default) (a := (⟨#[x0, .pointer (some ⟨cb, 0, none⟩), x2, x3, x4, x5, x6, x7, x8, x9, x10, x11, x12, x13, x14, x15, x16, x17, x18, x19, x20, x21, x22, x23, x24, .pointer (some ⟨cb, 34, none⟩), .slice t.a t.n t.c, .slice y.a y.n y.c, .pointer (some ⟨cb, 35, none⟩), .slice p.a p.n p.c, .slice z.a z.n z.c, .pointer (some ⟨cb, 34, none⟩), .pointer (some ⟨cb, 35, none⟩), x33, x34, x35, x36, x37, x38, x39, x40, x41, x42, x43, x44, x45, x46], []⟩ : Act)) (w := v) (.tmp 32) (.tmp 30) cb 35 z _ (by kernel_rfl) (by kernel_rfl) (by kernel_rfl) hcl hfz
  refine wpAnyH_one (i := 9) (by kernel_rfl) ?_
  refine wpOp_skip none (by kernel_rfl) (by kernel_rfl) (by kernel_rfl) hc ?_
  clear hc
  refine ⟨trivial, ?_⟩
  have e0 : (⟨#[x0, .pointer (some ⟨cb, 0, none⟩), x2, x3, x4, x5, x6, x7, x8, x9, x10, x11, x12, x13, x14, x15, x16, x17, x18, x19, x20, x21, x22, x23, x24, .pointer (some ⟨cb, 34, none⟩), .slice t.a t.n t.c, .slice y.a y.n y.c, .pointer (some ⟨cb, 35, none⟩), .slice p.a p.n p.c, .slice z.a z.n z.c, .pointer (some ⟨cb, 34, none⟩), .pointer (some ⟨cb, 35, none⟩), x33, x34, x35, x36, x37, x38, x39, x40, x41, x42, x43, x44, x45, x46], []⟩ : Act).put none undef = (⟨#[x0, .pointer (some ⟨cb, 0, none⟩), x2, x3, x4, x5, x6, x7, x8, x9, x10, x11, x12, x13, x14, x15, x16, x17, x18, x19, x20, x21, x22, x23, x24, .pointer (some ⟨cb, 34, none⟩), .slice t.a t.n t.c, .slice y.a y.n y.c, .pointer (some ⟨cb, 35, none⟩), .slice p.a p.n p.c, .slice z.a z.n z.c, .pointer (some ⟨cb, 34, none⟩), .pointer (some ⟨cb, 35, none⟩), x33, x34, x35, x36, x37, x38, x39, x40, x41, x42, x43, x44, x45, x46], []⟩ : Act) := by kernel_rfl
  have l0 : (#[true, true, true, true, true, true, true, true, true, false] : Array Bool).setIfInBounds 9 true = (#[true, true, true, true, true, true, true, true, true, true] : Array Bool) := by kernel_rfl
  rw [e0, l0]
  clear e0 l0
  refine wpAnyH_done (by kernel_rfl) ?_ _
  exact hEE

set_option maxHeartbeats 4000000 in
theorem nwD (hN : Nw w cb t p ss ps) (hQ : ∀ c a d v w, R (.panic c) (a.put d v) w → R (.panic c) a w) (hE : ∀ (y z : Sv) (W : World), Q w W → RowT W y ss → Row W z ps → New w.heap.size y → New w.heap.size z → R .normal (⟨#[x0, .pointer (some ⟨cb, 0, none⟩), x2, x3, x4, x5, x6, x7, x8, x9, x10, x11, x12, x13, x14, x15, x16, x17, x18, x19, x20, x21, x22, x23, x24, .pointer (some ⟨cb, 34, none⟩), .slice t.a t.n t.c, .slice y.a y.n y.c, .pointer (some ⟨cb, 35, none⟩), .slice p.a p.n p.c, .slice z.a z.n z.c, .pointer (some ⟨cb, 34, none⟩), .pointer (some ⟨cb, 35, none⟩), x33, x34, x35, x36, x37, x38, x39, x40, x41, x42, x43, x44, x45, x46], []⟩ : Act) ((W.setCell ⟨cb, 34, none⟩ (.slice y.a y.n y.c)).setCell ⟨cb, 35, none⟩ (.slice z.a z.n z.c))) {u : World} (q : Q w u) (y : Sv) (hy : RowT u y ss) (hyn : New w.heap.size y) : wpAnyH Try.prog .any (RofN Try.f6 3) R (fun _ => True) 5 (#[true, true, true, true, true, false, false, false, false, false] : Array Bool) (⟨#[x0, .pointer (some ⟨cb, 0, none⟩), x2, x3, x4, x5, x6, x7, x8, x9, x10, x11, x12, x13, x14, x15, x16, x17, x18, x19, x20, x21, x22, x23, x24, .pointer (some ⟨cb, 34, none⟩), .slice t.a t.n t.c, .slice y.a y.n y.c, .pointer (some ⟨cb, 35, none⟩), .slice p.a p.n p.c, x30, x31, x32, x33, x34, x35, x36, x37, x38, x39, x40, x41, x42, x43, x44, x45, x46], []⟩ : Act) u := by
  refine wpAnyH_take (i := 6) (v := .pointer (some ⟨cb, 34, none⟩)) (oi := ((RofN Try.f6 3)[6]?).getD default) (by kernel_rfl) (by kernel_rfl) (by kernel_rfl) (by kernel_rfl) (fun c a w => hQ c a _ _ w) (.inl ⟨by kernel_rfl, fun w _ => by kernel_rfl⟩) trivial ?_
  have e0 : (⟨#[x0, .pointer (some ⟨cb, 0, none⟩), x2, x3, x4, x5, x6, x7, x8, x9, x10, x11, x12, x13, x14, x15, x16, x17, x18, x19, x20, x21, x22, x23, x24, .pointer (some ⟨cb, 34, none⟩), .slice t.a t.n t.c, .slice y.a y.n y.c, .pointer (some ⟨cb, 35, none⟩), .slice p.a p.n p.c, x30, x31, x32, x33, x34, x35, x36, x37, x38, x39, x40, x41, x42, x43, x44, x45, x46], []⟩ : Act).put (((RofN Try.f6 3)[6]?).getD default).dst (.pointer (some ⟨cb, 34, none⟩)) = (⟨#[x0, .pointer (some ⟨cb, 0, none⟩), x2, x3, x4, x5, x6, x7, x8, x9, x10, x11, x12, x13, x14, x15, x16, x17, x18, x19, x20, x21, x22, x23, x24, .pointer (some ⟨cb, 34, none⟩), .slice t.a t.n t.c, .slice y.a y.n y.c, .pointer (some ⟨cb, 35, none⟩), .slice p.a p.n p.c, x30, .pointer (some ⟨cb, 34, none⟩), x32, x33, x34, x35, x36, x37, x38, x39, x40, x41, x42, x43, x44, x45, x46], []⟩ : Act) := by kernel_rfl
  have l0 : (#[true, true, true, true, true, false, false, false, false, false] : Array Bool).setIfInBounds 6 true = (#[true, true, true, true, true, false, true, false, false, false] : Array Bool) := by kernel_rfl
  rw [e0, l0]
  clear e0 l0
  have hc : (execOp (⟨#[x0, .pointer (some ⟨cb, 0, none⟩), x2, x3, x4, x5, x6, x7, x8, x9, x10, x11, x12, x13, x14, x15, x16, x17, x18, x19, x20, x21, x22, x23, x24, .pointer (some ⟨cb, 34, none⟩), .slice t.a t.n t.c, .slice y.a y.n y.c, .pointer (some ⟨cb, 35, none⟩), .slice p.a p.n p.c, x30, .pointer (some ⟨cb, 34, none⟩), x32, x33, x34, x35, x36, x37, x38, x39, x40, x41, x42, x43, x44, x45, x46], []⟩ : Act).eval (((RofN Try.f6 3)[5]?).getD default)).run Try.prog u = .ok (.enter 23 #[.slice p.a p.n p.c]) u := by kernel_rfl
  refine wpAnyH_one (i := 5) (by kernel_rfl) ?_
  refine wpOp_callx (some 30) (by kernel_rfl) (by kernel_rfl) (by kernel_rfl) 23 #[.slice p.a p.n p.c] hc (hN.k23 u q) ?_
  clear hc
  rintro e u1 ⟨z, rfl, q1, r1, n1⟩
  refine ⟨_, rfl, trivial, ?_⟩
  have e0 : (⟨#[x0, .pointer (some ⟨cb, 0, none⟩), x2, x3, x4, x5, x6, x7, x8, x9, x10, x11, x12, x13, x14, x15, x16, x17, x18, x19, x20, x21, x22, x23, x24, .pointer (some ⟨cb, 34, none⟩), .slice t.a t.n t.c, .slice y.a y.n y.c, .pointer (some ⟨cb, 35, none⟩), .slice p.a p.n p.c, x30, .pointer (some ⟨cb, 34, none⟩), x32, x33, x34, x35, x36, x37, x38, x39, x40, x41, x42, x43, x44, x45, x46], []⟩ : Act).put (some 30) (.slice z.a z.n z.c) = (⟨#[x0, .pointer (some ⟨cb, 0, none⟩), x2, x3, x4, x5, x6, x7, x8, x9, x10, x11, x12, x13, x14, x15, x16, x17, x18, x19, x20, x21, x22, x23, x24, .pointer (some ⟨cb, 34, none⟩), .slice t.a t.n t.c, .slice y.a y.n y.c, .pointer (some ⟨cb, 35, none⟩), .slice p.a p.n p.c, .slice z.a z.n z.c, .pointer (some ⟨cb, 34, none⟩), x32, x33, x34, x35, x36, x37, x38, x39, x40, x41, x42, x43, x44, x45, x46], []⟩ : Act) := by kernel_rfl
  have l0 : (#[true, true, true, true, true, false, true, false, false, false] : Array Bool).setIfInBounds 5 true = (#[true, true, true, true, true, true, true, false, false, false] : Array Bool) := by kernel_rfl
  rw [e0, l0]
  clear e0 l0
  exact nwG hN hQ hE (q.trans q1) y (Sub.q hy q1) hyn z r1 (n1.up q.size)

set_option maxHeartbeats 4000000 in
theorem nwE (hN : Nw w cb t p ss ps) (hQ : ∀ c a d v w, R (.panic c) (a.put d v) w → R (.panic c) a w) (hE : ∀ (y z : Sv) (W : World), Q w W → RowT W y ss → Row W z ps → New w.heap.size y → New w.heap.size z → R .normal (⟨#[x0, .pointer (some ⟨cb, 0, none⟩), x2, x3, x4, x5, x6, x7, x8, x9, x10, x11, x12, x13, x14, x15, x16, x17, x18, x19, x20, x21, x22, x23, x24, .pointer (some ⟨cb, 34, none⟩), .slice t.a t.n t.c, .slice y.a y.n y.c, .pointer (some ⟨cb, 35, none⟩), .slice p.a p.n p.c, .slice z.a z.n z.c, .pointer (some ⟨cb, 34, none⟩), .pointer (some ⟨cb, 35, none⟩), x33, x34, x35, x36, x37, x38, x39, x40, x41, x42, x43, x44, x45, x46], []⟩ : Act) ((W.setCell ⟨cb, 34, none⟩ (.slice y.a y.n y.c)).setCell ⟨cb, 35, none⟩ (.slice z.a z.n z.c))) {u : World} (q : Q w u) : wpAnyH Try.prog .any (RofN Try.f6 3) R (fun _ => True) 6 (#[true, true, false, true, true, false, false, false, false, false] : Array Bool) (⟨#[x0, .pointer (some ⟨cb, 0, none⟩), x2, x3, x4, x5, x6, x7, x8, x9, x10, x11, x12, x13, x14, x15, x16, x17, x18, x19, x20, x21, x22, x23, x24, .pointer (some ⟨cb, 34, none⟩), .slice t.a t.n t.c, x27, .pointer (some ⟨cb, 35, none⟩), .slice p.a p.n p.c, x30, x31, x32, x33, x34, x35, x36, x37, x38, x39, x40, x41, x42, x43, x44, x45, x46], []⟩ : Act) u := by
  refine wpAnyH_one (i := 2) (by kernel_rfl) ?_
  have hc : (execOp (⟨#[x0, .pointer (some ⟨cb, 0, none⟩), x2, x3, x4, x5, x6, x7, x8, x9, x10, x11, x12, x13, x14, x15, x16, x17, x18, x19, x20, x21, x22, x23, x24, .pointer (some ⟨cb, 34, none⟩), .slice t.a t.n t.c, x27, .pointer (some ⟨cb, 35, none⟩), .slice p.a p.n p.c, x30, x31, x32, x33, x34, x35, x36, x37, x38, x39, x40, x41, x42, x43, x44, x45, x46], []⟩ : Act).eval (((RofN Try.f6 3)[2]?).getD default)).run Try.prog u = .ok (.enter 22 #[.slice t.a t.n t.c]) u := by kernel_rfl
  refine wpOp_callx (some 27) (by kernel_rfl) (by kernel_rfl) (by kernel_rfl) 22 #[.slice t.a t.n t.c] hc (hN.k22 u q) ?_
  clear hc
  rintro e u1 ⟨y, rfl, q1, r1, n1⟩
  refine ⟨_, rfl, trivial, ?_⟩
  have e0 : (⟨#[x0, .pointer (some ⟨cb, 0, none⟩), x2, x3, x4, x5, x6, x7, x8, x9, x10, x11, x12, x13, x14, x15, x16, x17, x18, x19, x20, x21, x22, x23, x24, .pointer (some ⟨cb, 34, none⟩), .slice t.a t.n t.c, x27, .pointer (some ⟨cb, 35, none⟩), .slice p.a p.n p.c, x30, x31, x32, x33, x34, x35, x36, x37, x38, x39, x40, x41, x42, x43, x44, x45, x46], []⟩ : Act).put (some 27) (.slice y.a y.n y.c) = (⟨#[x0, .pointer (some ⟨cb, 0, none⟩), x2, x3, x4, x5, x6, x7, x8, x9, x10, x11, x12, x13, x14, x15, x16, x17, x18, x19, x20, x21, x22, x23, x24, .pointer (some ⟨cb, 34, none⟩), .slice t.a t.n t.c, .slice y.a y.n y.c, .pointer (some ⟨cb, 35, none⟩), .slice p.a p.n p.c, x30, x31, x32, x33, x34, x35, x36, x37, x38, x39, x40, x41, x42, x43, x44, x45, x46], []⟩ : Act) := by kernel_rfl
  have l0 : (#[true, true, false, true, true, false, false, false, false, false] : Array Bool).setIfInBounds 2 true = (#[true, true, true, true, true, false, false, false, false, false] : Array Bool) := by kernel_rfl
  rw [e0, l0]
  clear e0 l0
  exact nwD hN hQ hE (q.trans q1) y r1 (n1.up q.size)

set_option maxHeartbeats 4000000 in
theorem nwC (hN : Nw w cb t p ss ps) (hQ : ∀ c a d v w, R (.panic c) (a.put d v) w → R (.panic c) a w) (hE : ∀ (y z : Sv) (W : World), Q w W → RowT W y ss → Row W z ps → New w.heap.size y → New w.heap.size z → R .normal (⟨#[x0, .pointer (some ⟨cb, 0, none⟩), x2, x3, x4, x5, x6, x7, x8, x9, x10, x11, x12, x13, x14, x15, x16, x17, x18, x19, x20, x21, x22, x23, x24, .pointer (some ⟨cb, 34, none⟩), .slice t.a t.n t.c, .slice y.a y.n y.c, .pointer (some ⟨cb, 35, none⟩), .slice p.a p.n p.c, .slice z.a z.n z.c, .pointer (some ⟨cb, 34, none⟩), .pointer (some ⟨cb, 35, none⟩), x33, x34, x35, x36, x37, x38, x39, x40, x41, x42, x43, x44, x45, x46], []⟩ : Act) ((W.setCell ⟨cb, 34, none⟩ (.slice y.a y.n y.c)).setCell ⟨cb, 35, none⟩ (.slice z.a z.n z.c))) {u : World} (q : Q w u) (y : Sv) (hy : RowT u y ss) (hyn : New w.heap.size y) : wpAnyH Try.prog .any (RofN Try.f6 3) R (fun _ => True) 6 (#[true, true, true, true, false, false, false, false, false, false] : Array Bool) (⟨#[x0, .pointer (some ⟨cb, 0, none⟩), x2, x3, x4, x5, x6, x7, x8, x9, x10, x11, x12, x13, x14, x15, x16, x17, x18, x19, x20, x21, x22, x23, x24, .pointer (some ⟨cb, 34, none⟩), .slice t.a t.n t.c, .slice y.a y.n y.c, .pointer (some ⟨cb, 35, none⟩), x29, x30, x31, x32, x33, x34, x35, x36, x37, x38, x39, x40, x41, x42, x43, x44, x45, x46], []⟩ : Act) u := by
  refine wpAnyH_one (i := 4) (by kernel_rfl) ?_
  refine wpOp_val (some 29) (by kernel_rfl) (by kernel_rfl) (by kernel_rfl) (ld_sl (o := ((RofN Try.f6 3)[4]?).getD default) (a := (⟨#[x0, .pointer (some ⟨cb, 0, none⟩), x2, x3, x4, x5, x6, x7, x8, x9, x10, x11, x12, x13, x14, x15, x16, x17, x18, x19, x20, x21, x22, x23, x24, .pointer (some ⟨cb, 34, none⟩), .slice t.a t.n t.c, .slice y.a y.n y.c, .pointer (some ⟨cb, 35, none⟩), x29, x30, x31, x32, x33, x34, x35, x36, x37, x38, x39, x40, x41, x42, x43, x44, x45, x46], []⟩ : Act)) (w := u) (.tmp 28) cb 35 p (by kernel_rfl) (by kernel_rfl) (hN.g35 q)) ?_
  refine ⟨trivial, ?_⟩
  have e0 : (⟨#[x0, .pointer (some ⟨cb, 0, none⟩), x2, x3, x4, x5, x6, x7, x8, x9, x10, x11, x12, x13, x14, x15, x16, x17, x18, x19, x20, x21, x22, x23, x24, .pointer (some ⟨cb, 34, none⟩), .slice t.a t.n t.c, .slice y.a y.n y.c, .pointer (some ⟨cb, 35, none⟩), x29, x30, x31, x32, x33, x34, x35, x36, x37, x38, x39, x40, x41, x42, x43, x44, x45, x46], []⟩ : Act).put (some 29) (.slice p.a p.n p.c) = (⟨#[x0, .pointer (some ⟨cb, 0, none⟩), x2, x3, x4, x5, x6, x7, x8, x9, x10, x11, x12, x13, x14, x15, x16, x17, x18, x19, x20, x21, x22, x23, x24, .pointer (some ⟨cb, 34, none⟩), .slice t.a t.n t.c, .slice y.a y.n y.c, .pointer (some ⟨cb, 35, none⟩), .slice p.a p.n p.c, x30, x31, x32, x33, x34, x35, x36, x37, x38, x39, x40, x41, x42, x43, x44, x45, x46], []⟩ : Act) := by kernel_rfl
  have l0 : (#[true, true, true, true, false, false, false, false, false, false] : Array Bool).setIfInBounds 4 true = (#[true, true, true, true, true, false, false, false, false, false] : Array Bool) := by kernel_rfl
  rw [e0, l0]
  clear e0 l0
  exact nwD hN hQ hE q y hy hyn

set_option maxHeartbeats 4000000 in
theorem nwB (hN : Nw w cb t p ss ps) (hQ : ∀ c a d v w, R (.panic c) (a.put d v) w → R (.panic c) a w) (hE : ∀ (y z : Sv) (W : World), Q w W → RowT W y ss → Row W z ps → New w.heap.size y → New w.heap.size z → R .normal (⟨#[x0, .pointer (some ⟨cb, 0, none⟩), x2, x3, x4, x5, x6, x7, x8, x9, x10, x11, x12, x13, x14, x15, x16, x17, x18, x19, x20, x21, x22, x23, x24, .pointer (some ⟨cb, 34, none⟩), .slice t.a t.n t.c, .slice y.a y.n y.c, .pointer (some ⟨cb, 35, none⟩), .slice p.a p.n p.c, .slice z.a z.n z.c, .pointer (some ⟨cb, 34, none⟩), .pointer (some ⟨cb, 35, none⟩), x33, x34, x35, x36, x37, x38, x39, x40, x41, x42, x43, x44, x45, x46], []⟩ : Act) ((W.setCell ⟨cb, 34, none⟩ (.slice y.a y.n y.c)).setCell ⟨cb, 35, none⟩ (.slice z.a z.n z.c))) {u : World} (q : Q w u) : wpAnyH Try.prog .any (RofN Try.f6 3) R (fun _ => True) 7 (#[true, true, false, true, false, false, false, false, false, false] : Array Bool) (⟨#[x0, .pointer (some ⟨cb, 0, none⟩), x2, x3, x4, x5, x6, x7, x8, x9, x10, x11, x12, x13, x14, x15, x16, x17, x18, x19, x20, x21, x22, x23, x24, .pointer (some ⟨cb, 34, none⟩), .slice t.a t.n t.c, x27, .pointer (some ⟨cb, 35, none⟩), x29, x30, x31, x32, x33, x34, x35, x36, x37, x38, x39, x40, x41, x42, x43, x44, x45, x46], []⟩ : Act) u := by
  refine wpAnyH_two (i := 2) (j := 4) (by kernel_rfl) ?_ ?_
  · have hc : (execOp (⟨#[x0, .pointer (some ⟨cb, 0, none⟩), x2, x3, x4, x5, x6, x7, x8, x9, x10, x11, x12, x13, x14, x15, x16, x17, x18, x19, x20, x21, x22, x23, x24, .pointer (some ⟨cb, 34, none⟩), .slice t.a t.n t.c, x27, .pointer (some ⟨cb, 35, none⟩), x29, x30, x31, x32, x33, x34, x35, x36, x37, x38, x39, x40, x41, x42, x43, x44, x45, x46], []⟩ : Act).eval (((RofN Try.f6 3)[2]?).getD default)).run Try.prog u = .ok (.enter 22 #[.slice t.a t.n t.c]) u := by kernel_rfl
    refine wpOp_callx (some 27) (by kernel_rfl) (by kernel_rfl) (by kernel_rfl) 22 #[.slice t.a t.n t.c] hc (hN.k22 u q) ?_
    clear hc
    rintro e u1 ⟨y, rfl, q1, r1, n1⟩
    refine ⟨_, rfl, trivial, ?_⟩
    have e0 : (⟨#[x0, .pointer (some ⟨cb, 0, none⟩), x2, x3, x4, x5, x6, x7, x8, x9, x10, x11, x12, x13, x14, x15, x16, x17, x18, x19, x20, x21, x22, x23, x24, .pointer (some ⟨cb, 34, none⟩), .slice t.a t.n t.c, x27, .pointer (some ⟨cb, 35, none⟩), x29, x30, x31, x32, x33, x34, x35, x36, x37, x38, x39, x40, x41, x42, x43, x44, x45, x46], []⟩ : Act).put (some 27) (.slice y.a y.n y.c) = (⟨#[x0, .pointer (some ⟨cb, 0, none⟩), x2, x3, x4, x5, x6, x7, x8, x9, x10, x11, x12, x13, x14, x15, x16, x17, x18, x19, x20, x21, x22, x23, x24, .pointer (some ⟨cb, 34, none⟩), .slice t.a t.n t.c, .slice y.a y.n y.c, .pointer (some ⟨cb, 35, none⟩), x29, x30, x31, x32, x33, x34, x35, x36, x37, x38, x39, x40, x41, x42, x43, x44, x45, x46], []⟩ : Act) := by kernel_rfl
    have l0 : (#[true, true, false, true, false, false, false, false, false, false] : Array Bool).setIfInBounds 2 true = (#[true, true, true, true, false, false, false, false, false, false] : Array Bool) := by kernel_rfl
    rw [e0, l0]
    clear e0 l0
    exact nwC hN hQ hE (q.trans q1) y r1 (n1.up q.size)
  · refine wpOp_val (some 29) (by kernel_rfl) (by kernel_rfl) (by kernel_rfl) (ld_sl (o := ((RofN Try.f6 3)[4]?).getD default) (a := (⟨#[x0, .pointer (some ⟨cb, 0, none⟩), x2, x3, x4, x5, x6, x7, x8, x9, x10, x11, x12, x13, x14, x15, x16, x17, x18, x19, x20, x21, x22, x23, x24, .pointer (some ⟨cb, 34, none⟩), .slice t.a t.n t.c, x27, .pointer (some ⟨cb, 35, none⟩), x29, x30, x31, x32, x33, x34, x35, x36, x37, x38, x39, x40, x41, x42, x43, x44, x45, x46], []⟩ : Act)) (w := u) (.tmp 28) cb 35 p (by kernel_rfl) (by kernel_rfl) (hN.g35 q)) ?_
    refine ⟨trivial, ?_⟩
    have e0 : (⟨#[x0, .pointer (some ⟨cb, 0, none⟩), x2, x3, x4, x5, x6, x7, x8, x9, x10, x11, x12, x13, x14, x15, x16, x17, x18, x19, x20, x21, x22, x23, x24, .pointer (some ⟨cb, 34, none⟩), .slice t.a t.n t.c, x27, .pointer (some ⟨cb, 35, none⟩), x29, x30, x31, x32, x33, x34, x35, x36, x37, x38, x39, x40, x41, x42, x43, x44, x45, x46], []⟩ : Act).put (some 29) (.slice p.a p.n p.c) = (⟨#[x0, .pointer (some ⟨cb, 0, none⟩), x2, x3, x4, x5, x6, x7, x8, x9, x10, x11, x12, x13, x14, x15, x16, x17, x18, x19, x20, x21, x22, x23, x24, .pointer (some ⟨cb, 34, none⟩), .slice t.a t.n t.c, x27, .pointer (some ⟨cb, 35, none⟩), .slice p.a p.n p.c, x30, x31, x32, x33, x34, x35, x36, x37, x38, x39, x40, x41, x42, x43, x44, x45, x46], []⟩ : Act) := by kernel_rfl
    have l0 : (#[true, true, false, true, false, false, false, false, false, false] : Array Bool).setIfInBounds 4 true = (#[true, true, false, true, true, false, false, false, false, false] : Array Bool) := by kernel_rfl
    rw [e0, l0]
    clear e0 l0
    exact nwE hN hQ hE q

set_option maxHeartbeats 4000000 in
theorem nwF (hN : Nw w cb t p ss ps) (hQ : ∀ c a d v w, R (.panic c) (a.put d v) w → R (.panic c) a w) (hE : ∀ (y z : Sv) (W : World), Q w W → RowT W y ss → Row W z ps → New w.heap.size y → New w.heap.size z → R .normal (⟨#[x0, .pointer (some ⟨cb, 0, none⟩), x2, x3, x4, x5, x6, x7, x8, x9, x10, x11, x12, x13, x14, x15, x16, x17, x18, x19, x20, x21, x22, x23, x24, .pointer (some ⟨cb, 34, none⟩), .slice t.a t.n t.c, .slice y.a y.n y.c, .pointer (some ⟨cb, 35, none⟩), .slice p.a p.n p.c, .slice z.a z.n z.c, .pointer (some ⟨cb, 34, none⟩), .pointer (some ⟨cb, 35, none⟩), x33, x34, x35, x36, x37, x38, x39, x40, x41, x42, x43, x44, x45, x46], []⟩ : Act) ((W.setCell ⟨cb, 34, none⟩ (.slice y.a y.n y.c)).setCell ⟨cb, 35, none⟩ (.slice z.a z.n z.c))) {u : World} (q : Q w u) : wpAnyH Try.prog .any (RofN Try.f6 3) R (fun _ => True) 7 (#[true, false, false, true, true, false, false, false, false, false] : Array Bool) (⟨#[x0, .pointer (some ⟨cb, 0, none⟩), x2, x3, x4, x5, x6, x7, x8, x9, x10, x11, x12, x13, x14, x15, x16, x17, x18, x19, x20, x21, x22, x23, x24, .pointer (some ⟨cb, 34, none⟩), x26, x27, .pointer (some ⟨cb, 35, none⟩), .slice p.a p.n p.c, x30, x31, x32, x33, x34, x35, x36, x37, x38, x39, x40, x41, x42, x43, x44, x45, x46], []⟩ : Act) u := by
  refine wpAnyH_one (i := 1) (by kernel_rfl) ?_
  refine wpOp_val (some 26) (by kernel_rfl) (by kernel_rfl) (by kernel_rfl) (ld_tx (o := ((RofN Try.f6 3)[1]?).getD default) (a := (⟨#[x0, .pointer (some ⟨cb, 0, none⟩), x2, x3, x4, x5, x6, x7, x8, x9, x10, x11, x12, x13, x14, x15, x16, x17, x18, x19, x20, x21, x22, x23, x24, .pointer (some ⟨cb, 34, none⟩), x26, x27, .pointer (some ⟨cb, 35, none⟩), .slice p.a p.n p.c, x30, x31, x32, x33, x34, x35, x36, x37, x38, x39, x40, x41, x42, x43, x44, x45, x46], []⟩ : Act)) (w := u) (.tmp 25) cb 34 t (by kernel_rfl) (by kernel_rfl) (hN.g34 q)) ?_
  refine ⟨trivial, ?_⟩
  have e0 : (⟨#[x0, .pointer (some ⟨cb, 0, none⟩), x2, x3, x4, x5, x6, x7, x8, x9, x10, x11, x12, x13, x14, x15, x16, x17, x18, x19, x20, x21, x22, x23, x24, .pointer (some ⟨cb, 34, none⟩), x26, x27, .pointer (some ⟨cb, 35, none⟩), .slice p.a p.n p.c, x30, x31, x32, x33, x34, x35, x36, x37, x38, x39, x40, x41, x42, x43, x44, x45, x46], []⟩ : Act).put (some 26) (.slice t.a t.n t.c) = (⟨#[x0, .pointer (some ⟨cb, 0, none⟩), x2, x3, x4, x5, x6, x7, x8, x9, x10, x11, x12, x13, x14, x15, x16, x17, x18, x19, x20, x21, x22, x23, x24, .pointer (some ⟨cb, 34, none⟩), .slice t.a t.n t.c, x27, .pointer (some ⟨cb, 35, none⟩), .slice p.a p.n p.c, x30, x31, x32, x33, x34, x35, x36, x37, x38, x39, x40, x41, x42, x43, x44, x45, x46], []⟩ : Act) := by kernel_rfl
  have l0 : (#[true, false, false, true, true, false, false, false, false, false] : Array Bool).setIfInBounds 1 true = (#[true, true, false, true, true, false, false, false, false, false] : Array Bool) := by kernel_rfl
  rw [e0, l0]
  clear e0 l0
  exact nwE hN hQ hE q

set_option maxHeartbeats 4000000 in
theorem nwA (hN : Nw w cb t p ss ps) (hQ : ∀ c a d v w, R (.panic c) (a.put d v) w → R (.panic c) a w) (hE : ∀ (y z : Sv) (W : World), Q w W → RowT W y ss → Row W z ps → New w.heap.size y → New w.heap.size z → R .normal (⟨#[x0, .pointer (some ⟨cb, 0, none⟩), x2, x3, x4, x5, x6, x7, x8, x9, x10, x11, x12, x13, x14, x15, x16, x17, x18, x19, x20, x21, x22, x23, x24, .pointer (some ⟨cb, 34, none⟩), .slice t.a t.n t.c, .slice y.a y.n y.c, .pointer (some ⟨cb, 35, none⟩), .slice p.a p.n p.c, .slice z.a z.n z.c, .pointer (some ⟨cb, 34, none⟩), .pointer (some ⟨cb, 35, none⟩), x33, x34, x35, x36, x37, x38, x39, x40, x41, x42, x43, x44, x45, x46], []⟩ : Act) ((W.setCell ⟨cb, 34, none⟩ (.slice y.a y.n y.c)).setCell ⟨cb, 35, none⟩ (.slice z.a z.n z.c))) {u : World} (q : Q w u) : wpAnyH Try.prog .any (RofN Try.f6 3) R (fun _ => True) 8 (#[true, false, false, true, false, false, false, false, false, false] : Array Bool) (⟨#[x0, .pointer (some ⟨cb, 0, none⟩), x2, x3, x4, x5, x6, x7, x8, x9, x10, x11, x12, x13, x14, x15, x16, x17, x18, x19, x20, x21, x22, x23, x24, .pointer (some ⟨cb, 34, none⟩), x26, x27, .pointer (some ⟨cb, 35, none⟩), x29, x30, x31, x32, x33, x34, x35, x36, x37, x38, x39, x40, x41, x42, x43, x44, x45, x46], []⟩ : Act) u := by
  refine wpAnyH_two (i := 1) (j := 4) (by kernel_rfl) ?_ ?_
  · refine wpOp_val (some 26) (by kernel_rfl) (by kernel_rfl) (by kernel_rfl) (ld_tx (o := ((RofN Try.f6 3)[1]?).getD default) (a := (⟨#[x0, .pointer (some ⟨cb, 0, none⟩), x2, x3, x4, x5, x6, x7, x8, x9, x10, x11, x12, x13, x14, x15, x16, x17, x18, x19, x20, x21, x22, x23, x24, .pointer (some ⟨cb, 34, none⟩), x26, x27, .pointer (some ⟨cb, 35, none⟩), x29, x30, x31, x32, x33, x34, x35, x36, x37, x38, x39, x40, x41, x42, x43, x44, x45, x46], []⟩ : Act)) (w := u) (.tmp 25) cb 34 t (by kernel_rfl) (by kernel_rfl) (hN.g34 q)) ?_
    refine ⟨trivial, ?_⟩
    have e0 : (⟨#[x0, .pointer (some ⟨cb, 0, none⟩), x2, x3, x4, x5, x6, x7, x8, x9, x10, x11, x12, x13, x14, x15, x16, x17, x18, x19, x20, x21, x22, x23, x24, .pointer (some ⟨cb, 34, none⟩), x26, x27, .pointer (some ⟨cb, 35, none⟩), x29, x30, x31, x32, x33, x34, x35, x36, x37, x38, x39, x40, x41, x42, x43, x44, x45, x46], []⟩ : Act).put (some 26) (.slice t.a t.n t.c) = (⟨#[x0, .pointer (some ⟨cb, 0, none⟩), x2, x3, x4, x5, x6, x7, x8, x9, x10, x11, x12, x13, x14, x15, x16, x17, x18, x19, x20, x21, x22, x23, x24, .pointer (some ⟨cb, 34, none⟩), .slice t.a t.n t.c, x27, .pointer (some ⟨cb, 35, none⟩), x29, x30, x31, x32, x33, x34, x35, x36, x37, x38, x39, x40, x41, x42, x43, x44, x45, x46], []⟩ : Act) := by kernel_rfl
    have l0 : (#[true, false, false, true, false, false, false, false, false, false] : Array Bool).setIfInBounds 1 true = (#[true, true, false, true, false, false, false, false, false, false] : Array Bool) := by kernel_rfl
    rw [e0, l0]
    clear e0 l0
    exact nwB hN hQ hE q
  · refine wpOp_val (some 29) (by kernel_rfl) (by kernel_rfl) (by kernel_rfl) (ld_sl (o := ((RofN Try.f6 3)[4]?).getD default) (a := (⟨#[x0, .pointer (some ⟨cb, 0, none⟩), x2, x3, x4, x5, x6, x7, x8, x9, x10, x11, x12, x13, x14, x15, x16, x17, x18, x19, x20, x21, x22, x23, x24, .pointer (some ⟨cb, 34, none⟩), x26, x27, .pointer (some ⟨cb, 35, none⟩), x29, x30, x31, x32, x33, x34, x35, x36, x37, x38, x39, x40, x41, x42, x43, x44, x45, x46], []⟩ : Act)) (w := u) (.tmp 28) cb 35 p (by kernel_rfl) (by kernel_rfl) (hN.g35 q)) ?_
    refine ⟨trivial, ?_⟩
    have e0 : (⟨#[x0, .pointer (some ⟨cb, 0, none⟩), x2, x3, x4, x5, x6, x7, x8, x9, x10, x11, x12, x13, x14, x15, x16, x17, x18, x19, x20, x21, x22, x23, x24, .pointer (some ⟨cb, 34, none⟩), x26, x27, .pointer (some ⟨cb, 35, none⟩), x29, x30, x31, x32, x33, x34, x35, x36, x37, x38, x39, x40, x41, x42, x43, x44, x45, x46], []⟩ : Act).put (some 29) (.slice p.a p.n p.c) = (⟨#[x0, .pointer (some ⟨cb, 0, none⟩), x2, x3, x4, x5, x6, x7, x8, x9, x10, x11, x12, x13, x14, x15, x16, x17, x18, x19, x20, x21, x22, x23, x24, .pointer (some ⟨cb, 34, none⟩), x26, x27, .pointer (some ⟨cb, 35, none⟩), .slice p.a p.n p.c, x30, x31, x32, x33, x34, x35, x36, x37, x38, x39, x40, x41, x42, x43, x44, x45, x46], []⟩ : Act) := by kernel_rfl
    have l0 : (#[true, false, false, true, false, false, false, false, false, false] : Array Bool).setIfInBounds 4 true = (#[true, false, false, true, true, false, false, false, false, false] : Array Bool) := by kernel_rfl
    rw [e0, l0]
    clear e0 l0
    exact nwF hN hQ hE q

def n0 (cb : Nat) : List (Nat × Value) := [(0, .pointer (some ⟨cb, 34, none⟩)), (3, .pointer (some ⟨cb, 35, none⟩))]
theorem n0c : Chn Try.prog (RofN Try.f6 3) (fun _ => True) (n0 cb) (#[false, false, false, false, false, false, false, false, false, false] : Array Bool) (⟨#[x0, .pointer (some ⟨cb, 0, none⟩), x2, x3, x4, x5, x6, x7, x8, x9, x10, x11, x12, x13, x14, x15, x16, x17, x18, x19, x20, x21, x22, x23, x24, x25, x26, x27, x28, x29, x30, x31, x32, x33, x34, x35, x36, x37, x38, x39, x40, x41, x42, x43, x44, x45, x46], []⟩ : Act) := ⟨⟨by kernel_rfl, by kernel_rfl, by kernel_rfl, by kernel_rfl, fun w h => by kernel_rfl⟩, ⟨by kernel_rfl, by kernel_rfl, by kernel_rfl, by kernel_rfl, fun w h => by kernel_rfl⟩, trivial⟩
set_option maxHeartbeats 4000000 in
theorem nw3 (hN : Nw w cb t p ss ps) (hQ : ∀ c a d v w, R (.panic c) (a.put d v) w → R (.panic c) a w) (hE : ∀ (y z : Sv) (W : World), Q w W → RowT W y ss → Row W z ps → New w.heap.size y → New w.heap.size z → R .normal (⟨#[x0, .pointer (some ⟨cb, 0, none⟩), x2, x3, x4, x5, x6, x7, x8, x9, x10, x11, x12, x13, x14, x15, x16, x17, x18, x19, x20, x21, x22, x23, x24, .pointer (some ⟨cb, 34, none⟩), .slice t.a t.n t.c, .slice y.a y.n y.c, .pointer (some ⟨cb, 35, none⟩), .slice p.a p.n p.c, .slice z.a z.n z.c, .pointer (some ⟨cb, 34, none⟩), .pointer (some ⟨cb, 35, none⟩), x33, x34, x35, x36, x37, x38, x39, x40, x41, x42, x43, x44, x45, x46], []⟩ : Act) ((W.setCell ⟨cb, 34, none⟩ (.slice y.a y.n y.c)).setCell ⟨cb, 35, none⟩ (.slice z.a z.n z.c))) : (Code.region 3 (RofN Try.f6 3) true).wp Try.prog R (⟨#[x0, .pointer (some ⟨cb, 0, none⟩), x2, x3, x4, x5, x6, x7, x8, x9, x10, x11, x12, x13, x14, x15, x16, x17, x18, x19, x20, x21, x22, x23, x24, x25, x26, x27, x28, x29, x30, x31, x32, x33, x34, x35, x36, x37, x38, x39, x40, x41, x42, x43, x44, x45, x46], []⟩ : Act) w := by
  refine wp_region_held (S := (fun _ => True)) (by kernel_rfl) ?_
  have hsz : (RofN Try.f6 3).size = 10 := by kernel_rfl
  rw [hsz]
  refine chn_take (by kernel_rfl) hQ trivial 8 (n0 cb) _ _ n0c ?_
  have e0 : putL (RofN Try.f6 3) (n0 cb) (⟨#[x0, .pointer (some ⟨cb, 0, none⟩), x2, x3, x4, x5, x6, x7, x8, x9, x10, x11, x12, x13, x14, x15, x16, x17, x18, x19, x20, x21, x22, x23, x24, x25, x26, x27, x28, x29, x30, x31, x32, x33, x34, x35, x36, x37, x38, x39, x40, x41, x42, x43, x44, x45, x46], []⟩ : Act) = (⟨#[x0, .pointer (some ⟨cb, 0, none⟩), x2, x3, x4, x5, x6, x7, x8, x9, x10, x11, x12, x13, x14, x15, x16, x17, x18, x19, x20, x21, x22, x23, x24, .pointer (some ⟨cb, 34, none⟩), x26, x27, .pointer (some ⟨cb, 35, none⟩), x29, x30, x31, x32, x33, x34, x35, x36, x37, x38, x39, x40, x41, x42, x43, x44, x45, x46], []⟩ : Act) := by kernel_rfl
  have l0 : setL (n0 cb) (Array.replicate 10 false) = (#[true, false, false, true, false, false, false, false, false, false] : Array Bool) := by kernel_rfl
  rw [e0, l0]
  exact nwA hN hQ hE ((Q.refl w).drew)
end
end Go.Proofs.Ytekpepnonhbkcaa
