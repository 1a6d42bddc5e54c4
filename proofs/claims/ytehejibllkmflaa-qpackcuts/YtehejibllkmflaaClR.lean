/-
  The drawn region of the inner classes, gone through by hand: the first number of a class out of the class ahead of it.
-/
import Derived.Test.YtehejibllkmflaaHnd
namespace Go.Proofs.Ytehejibllkmflaa
open Go.RowKit
set_option linter.unusedVariables false
set_option maxRecDepth 20000

theorem ld_any {o : Oper} {a : Act} {w : World} {v : Value} (t : TypeId) (x : Operand) (g p : Nat) (ho : o.op = .load t x) (hx : a.eval x = .pointer (some ⟨g, p, none⟩)) (hst : (loadVar t ⟨g, p, none⟩).run Try.prog w = .ok v w) :
    (execOp a.eval o).run Try.prog w = .ok (.value v) w := by
  unfold execOp
  simp only [ho, hx, Instr.loadAt, Instr.sureAddr, Sem.run_bind, Sem.run_pure, Result.andThen_ok, hst]
theorem st_any {o : Oper} {a : Act} {w w' : World} {v : Value} (t : TypeId) (x y : Operand) (g p : Nat) (ho : o.op = .store t x y) (hx : a.eval x = .pointer (some ⟨g, p, none⟩)) (hy : a.eval y = v) (hst : (storeVar t ⟨g, p, none⟩ v).run Try.prog w = .ok () w') :
    (execOp a.eval o).run Try.prog w = .ok .skip w' := by
  unfold execOp
  simp only [ho, hx, hy, Instr.storeAt, Instr.sureAddr, Sem.run_bind, Sem.run_pure, Result.andThen_ok, hst]
theorem Q.ofDrew {a b : World} (h : Q a.drew b) : Q a b := (Keep.ofQ (F := fun _ => False) h).ofDrew.toQ (fun _ _ => id)
/-- A class as a value; behind. -/
abbrev clV (b f : Int) (m : List Int) : Value := .agg #[.int .i64 b, .int .i64 f, .string (strOfNums m)]
theorem str_len (m : List Int) : (strOfNums m).size = m.length := strOfNums_size m
set_option maxHeartbeats 1000000 in
theorem behind_any (b f : Int) (m : List Int) (r : Int) (w : World) (h0 : 0 ≤ f) (h1 : f ≤ 100000) (h2 : m.length ≤ 1000) (hr : r = f + (m.length : Nat)) :
    Calls Try.prog 95 #[clV b f m] w fun e w' => e = .returned (.int .i64 r) ∧ Q w w' := by
  have hz := str_len m
  go_enter Try.func95, Try.ntmps95
  go_wp2
  go_ret
  exact ⟨ret_int hr.symm, (Q.refl w).alloc _⟩
/-- What holds throughout. -/
structure SC (g c : Nat) (b f : Int) (m : List Int) (d : Int) (u : World) : Prop where
  c0 : u.cell? ⟨g, 3 * c, none⟩ = some (.int .i64 b)
  c1 : u.cell? ⟨g, 3 * c + 1, none⟩ = some (.int .i64 f)
  c2 : u.cell? ⟨g, 3 * c + 2, none⟩ = some (.string (strOfNums m))
  c3 : u.cell? ⟨g, 3 * c + 3, none⟩ = some (.int .i64 d)
theorem SC.q {g c : Nat} {b f : Int} {m : List Int} {d : Int} {u u' : World} (h : SC g c b f m d u) (k : Q u u') : SC g c b f m d u' :=
  ⟨(k.cell (lt_of_cell h.c0)).trans h.c0, (k.cell (lt_of_cell h.c1)).trans h.c1, (k.cell (lt_of_cell h.c2)).trans h.c2, (k.cell (lt_of_cell h.c3)).trans h.c3⟩
theorem cell_set_ne {w : World} {g i j : Nat} {u v : Value} (h : w.cell? ⟨g, i, none⟩ = some u) (hne : i ≠ j) : (w.setCell ⟨g, j, none⟩ v).cell? ⟨g, i, none⟩ = some u := by
  have hne' : (⟨g, j, none⟩ : Addr) ≠ ⟨g, i, none⟩ := by intro e; injection e; omega
  rw [World.cell?_setCell_other (h := hne')]; exact h
theorem SC.set {g c : Nat} {b f : Int} {m : List Int} {d : Int} {u : World} (h : SC g c b f m d u) (v : Value) : SC g c b f m d (u.setCell ⟨g, 3 * c + 4, none⟩ v) :=
  ⟨cell_set_ne h.c0 (by omega), cell_set_ne h.c1 (by omega), cell_set_ne h.c2 (by omega), cell_set_ne h.c3 (by omega)⟩
theorem ld_int {w : World} {g p : Nat} {v : Int} (h : w.cell? ⟨g, p, none⟩ = some (.int .i64 v)) : (loadVar 3 ⟨g, p, none⟩).run Try.prog w = .ok (.int .i64 v) w := by simp [loadVar, go_sem, h]
theorem ld_cls {w : World} {g c : Nat} {b f : Int} {m : List Int} {d : Int} (h : SC g c b f m d w) : (loadVar 124 ⟨g, 3 * c, none⟩).run Try.prog w = .ok (clV b f m) w := by
  have h0 := h.c0; have h1 := h.c1; have h2 := h.c2
  simp [loadVar, go_sem, h0, h1, h2]
theorem sv_int {w : World} {g p : Nat} {u : Value} {v : Int} (h : w.cell? ⟨g, p, none⟩ = some u) (hf : w.frozen? ⟨g, p, none⟩ = false) : (storeVar 3 ⟨g, p, none⟩ (.int .i64 v)).run Try.prog w = .ok () (w.setCell ⟨g, p, none⟩ (.int .i64 v)) := by simp [storeVar, go_sem, h, hf]
def y1 (g : Nat) : List (Nat × Value) := [(0, .int .i64 1), (1, .int .i64 1), (6, .int .i64 1), (10, .int .i64 1), (2, .int .i64 0), (3, .pointer (some ⟨g, 0, none⟩)), (4, (clV 5 0 hq5)), (7, .pointer (some ⟨g, 3, none⟩)), (8, .pointer (some ⟨g, 3, none⟩)), (9, .int .i64 6), (11, .int .i64 0), (12, .pointer (some ⟨g, 0, none⟩)), (13, .pointer (some ⟨g, 0, none⟩)), (14, .int .i64 5), (15, .int .i64 1)]
set_option maxHeartbeats 4000000 in
theorem g1 (g : Nat) {x0 x3 x4 x5 x6 x7 x8 x9 x10 x11 x12 x13 x14 x15 x16 x17 x18 x19 x20 x21 x22 x23 x24 x25 x26 x27 x28 x29 x30 x31 x32 x33 : Value} : Chn Try.prog (RofN Try.f83 5) (SC g 0 5 0 hq5 6) (y1 g) (#[false, false, false, false, false, false, false, false, false, false, false, false, false, false, false, false, false, false, false, false] : Array Bool) (⟨#[x0, .pointer (some ⟨g, 0, none⟩), .int .i64 1, x3, x4, x5, x6, x7, x8, x9, x10, x11, x12, x13, x14, x15, x16, x17, x18, x19, x20, x21, x22, x23, x24, x25, x26, x27, x28, x29, x30, x31, x32, x33], []⟩ : Act) :=
  ⟨⟨by kernel_rfl, by kernel_rfl, by kernel_rfl, by kernel_rfl, fun w h => by kernel_rfl⟩,
    ⟨by kernel_rfl, by kernel_rfl, by kernel_rfl, by kernel_rfl, fun w h => by kernel_rfl⟩,
    ⟨by kernel_rfl, by kernel_rfl, by kernel_rfl, by kernel_rfl, fun w h => by kernel_rfl⟩,
    ⟨by kernel_rfl, by kernel_rfl, by kernel_rfl, by kernel_rfl, fun w h => by kernel_rfl⟩,
    ⟨by kernel_rfl, by kernel_rfl, by kernel_rfl, by kernel_rfl, fun w h => by kernel_rfl⟩,
    ⟨by kernel_rfl, by kernel_rfl, by kernel_rfl, by kernel_rfl, fun w h => by kernel_rfl⟩,
    ⟨by kernel_rfl, by kernel_rfl, by kernel_rfl, by kernel_rfl, fun w h => ld_any 124 (.tmp 17) g 0 (by kernel_rfl) (by kernel_rfl) (ld_cls h)⟩,
    ⟨by kernel_rfl, by kernel_rfl, by kernel_rfl, by kernel_rfl, fun w h => by kernel_rfl⟩,
    ⟨by kernel_rfl, by kernel_rfl, by kernel_rfl, by kernel_rfl, fun w h => by kernel_rfl⟩,
    ⟨by kernel_rfl, by kernel_rfl, by kernel_rfl, by kernel_rfl, fun w h => ld_any 3 (.tmp 22) g 3 (by kernel_rfl) (by kernel_rfl) (ld_int h.c3)⟩,
    ⟨by kernel_rfl, by kernel_rfl, by kernel_rfl, by kernel_rfl, fun w h => by kernel_rfl⟩,
    ⟨by kernel_rfl, by kernel_rfl, by kernel_rfl, by kernel_rfl, fun w h => by kernel_rfl⟩,
    ⟨by kernel_rfl, by kernel_rfl, by kernel_rfl, by kernel_rfl, fun w h => by kernel_rfl⟩,
    ⟨by kernel_rfl, by kernel_rfl, by kernel_rfl, by kernel_rfl, fun w h => ld_any 3 (.tmp 27) g 0 (by kernel_rfl) (by kernel_rfl) (ld_int h.c0)⟩,
    ⟨by kernel_rfl, by kernel_rfl, by kernel_rfl, by kernel_rfl, fun w h => by kernel_rfl⟩,
    trivial⟩
set_option maxHeartbeats 8000000 in
theorem rg5_1 (g : Nat) {x0 x3 x4 x5 x6 x7 x8 x9 x10 x11 x12 x13 x14 x15 x16 x17 x18 x19 x20 x21 x22 x23 x24 x25 x26 x27 x28 x29 x30 x31 x32 x33 : Value} (w : World) (R : Exit → Act → World → Prop) (hQ : ∀ c a d v w, R (.panic c) (a.put d v) w → R (.panic c) a w) (hS : (SC g 0 5 0 hq5 6) w) {u : Value} (hd : ∀ w2, Q w w2 → w2.cell? ⟨g, 4, none⟩ = some u ∧ w2.frozen? ⟨g, 4, none⟩ = false)
    (h : ∀ w2, Q w w2 → R .normal (⟨#[x0, .pointer (some ⟨g, 0, none⟩), .int .i64 1, x3, x4, x5, x6, x7, x8, x9, x10, x11, x12, x13, .int .i64 1, .int .i64 1, .int .i64 0, .pointer (some ⟨g, 0, none⟩), (clV 5 0 hq5), .int .i64 10, .int .i64 1, .pointer (some ⟨g, 3, none⟩), .pointer (some ⟨g, 3, none⟩), .int .i64 6, .int .i64 1, .int .i64 0, .pointer (some ⟨g, 0, none⟩), .pointer (some ⟨g, 0, none⟩), .int .i64 5, .int .i64 1, .int .i64 20, .pointer (some ⟨g, 3, none⟩), .pointer (some ⟨g, 4, none⟩), x33], []⟩ : Act) (w2.setCell ⟨g, 4, none⟩ (.int .i64 20))) :
    (Code.region 5 (RofN Try.f83 5) true).wp Try.prog R (⟨#[x0, .pointer (some ⟨g, 0, none⟩), .int .i64 1, x3, x4, x5, x6, x7, x8, x9, x10, x11, x12, x13, x14, x15, x16, x17, x18, x19, x20, x21, x22, x23, x24, x25, x26, x27, x28, x29, x30, x31, x32, x33], []⟩ : Act) w := by
  refine wp_region_held (S := (SC g 0 5 0 hq5 6)) (by kernel_rfl) ?_
  have hsz : (RofN Try.f83 5).size = 20 := by kernel_rfl
  rw [hsz]
  have hS0 : (SC g 0 5 0 hq5 6) w.drew := ⟨hS.c0, hS.c1, hS.c2, hS.c3⟩
  refine chn_take (by kernel_rfl) hQ hS0 5 (y1 g) _ _ (g1 g) ?_
  have e0 : putL (RofN Try.f83 5) (y1 g) (⟨#[x0, .pointer (some ⟨g, 0, none⟩), .int .i64 1, x3, x4, x5, x6, x7, x8, x9, x10, x11, x12, x13, x14, x15, x16, x17, x18, x19, x20, x21, x22, x23, x24, x25, x26, x27, x28, x29, x30, x31, x32, x33], []⟩ : Act) = (⟨#[x0, .pointer (some ⟨g, 0, none⟩), .int .i64 1, x3, x4, x5, x6, x7, x8, x9, x10, x11, x12, x13, .int .i64 1, .int .i64 1, .int .i64 0, .pointer (some ⟨g, 0, none⟩), (clV 5 0 hq5), x19, .int .i64 1, .pointer (some ⟨g, 3, none⟩), .pointer (some ⟨g, 3, none⟩), .int .i64 6, .int .i64 1, .int .i64 0, .pointer (some ⟨g, 0, none⟩), .pointer (some ⟨g, 0, none⟩), .int .i64 5, .int .i64 1, x30, x31, x32, x33], []⟩ : Act) := by kernel_rfl
  have l0 : setL (y1 g) (Array.replicate 20 false) = (#[true, true, true, true, true, false, true, true, true, true, true, true, true, true, true, true, false, false, false, false] : Array Bool) := by kernel_rfl
  rw [e0, l0]
  clear e0 l0
  refine wpAnyH_one (i := 5) (by kernel_rfl) ?_
  refine wpOp_call (some 19) (by kernel_rfl) (by kernel_rfl) (by kernel_rfl) 95 #[(clV 5 0 hq5)] (by kernel_rfl) (behind_any 5 0 hq5 10 _ (by decide) (by decide) (by decide) (by decide)) (.int .i64 10) ?_
  rintro e w2 ⟨rfl, q2⟩
  have q2' : Q w w2 := q2.ofDrew
  refine ⟨rfl, hS0.q q2, ?_⟩
  have hS2 := hS.q q2'
  clear q2
  have e0 : (⟨#[x0, .pointer (some ⟨g, 0, none⟩), .int .i64 1, x3, x4, x5, x6, x7, x8, x9, x10, x11, x12, x13, .int .i64 1, .int .i64 1, .int .i64 0, .pointer (some ⟨g, 0, none⟩), (clV 5 0 hq5), x19, .int .i64 1, .pointer (some ⟨g, 3, none⟩), .pointer (some ⟨g, 3, none⟩), .int .i64 6, .int .i64 1, .int .i64 0, .pointer (some ⟨g, 0, none⟩), .pointer (some ⟨g, 0, none⟩), .int .i64 5, .int .i64 1, x30, x31, x32, x33], []⟩ : Act).put (some 19) (.int .i64 10) = (⟨#[x0, .pointer (some ⟨g, 0, none⟩), .int .i64 1, x3, x4, x5, x6, x7, x8, x9, x10, x11, x12, x13, .int .i64 1, .int .i64 1, .int .i64 0, .pointer (some ⟨g, 0, none⟩), (clV 5 0 hq5), .int .i64 10, .int .i64 1, .pointer (some ⟨g, 3, none⟩), .pointer (some ⟨g, 3, none⟩), .int .i64 6, .int .i64 1, .int .i64 0, .pointer (some ⟨g, 0, none⟩), .pointer (some ⟨g, 0, none⟩), .int .i64 5, .int .i64 1, x30, x31, x32, x33], []⟩ : Act) := by kernel_rfl
  have l0 : (#[true, true, true, true, true, false, true, true, true, true, true, true, true, true, true, true, false, false, false, false] : Array Bool).setIfInBounds 5 true = (#[true, true, true, true, true, true, true, true, true, true, true, true, true, true, true, true, false, false, false, false] : Array Bool) := by kernel_rfl
  rw [e0, l0]
  clear e0 l0
  refine wpAnyH_one (i := 16) (by kernel_rfl) ?_
  refine wpOp_val (w' := w2) (v := .int .i64 20) (some 30) (by kernel_rfl) (by kernel_rfl) (by kernel_rfl) (by kernel_rfl) ?_
  refine ⟨hS2, ?_⟩
  have e0 : (⟨#[x0, .pointer (some ⟨g, 0, none⟩), .int .i64 1, x3, x4, x5, x6, x7, x8, x9, x10, x11, x12, x13, .int .i64 1, .int .i64 1, .int .i64 0, .pointer (some ⟨g, 0, none⟩), (clV 5 0 hq5), .int .i64 10, .int .i64 1, .pointer (some ⟨g, 3, none⟩), .pointer (some ⟨g, 3, none⟩), .int .i64 6, .int .i64 1, .int .i64 0, .pointer (some ⟨g, 0, none⟩), .pointer (some ⟨g, 0, none⟩), .int .i64 5, .int .i64 1, x30, x31, x32, x33], []⟩ : Act).put (some 30) (.int .i64 20) = (⟨#[x0, .pointer (some ⟨g, 0, none⟩), .int .i64 1, x3, x4, x5, x6, x7, x8, x9, x10, x11, x12, x13, .int .i64 1, .int .i64 1, .int .i64 0, .pointer (some ⟨g, 0, none⟩), (clV 5 0 hq5), .int .i64 10, .int .i64 1, .pointer (some ⟨g, 3, none⟩), .pointer (some ⟨g, 3, none⟩), .int .i64 6, .int .i64 1, .int .i64 0, .pointer (some ⟨g, 0, none⟩), .pointer (some ⟨g, 0, none⟩), .int .i64 5, .int .i64 1, .int .i64 20, x31, x32, x33], []⟩ : Act) := by kernel_rfl
  have l0 : (#[true, true, true, true, true, true, true, true, true, true, true, true, true, true, true, true, false, false, false, false] : Array Bool).setIfInBounds 16 true = (#[true, true, true, true, true, true, true, true, true, true, true, true, true, true, true, true, true, false, false, false] : Array Bool) := by kernel_rfl
  rw [e0, l0]
  clear e0 l0
  refine wpAnyH_one (i := 17) (by kernel_rfl) ?_
  refine wpOp_val (w' := w2) (v := .pointer (some ⟨g, 3, none⟩)) (some 31) (by kernel_rfl) (by kernel_rfl) (by kernel_rfl) (by kernel_rfl) ?_
  refine ⟨hS2, ?_⟩
  have e0 : (⟨#[x0, .pointer (some ⟨g, 0, none⟩), .int .i64 1, x3, x4, x5, x6, x7, x8, x9, x10, x11, x12, x13, .int .i64 1, .int .i64 1, .int .i64 0, .pointer (some ⟨g, 0, none⟩), (clV 5 0 hq5), .int .i64 10, .int .i64 1, .pointer (some ⟨g, 3, none⟩), .pointer (some ⟨g, 3, none⟩), .int .i64 6, .int .i64 1, .int .i64 0, .pointer (some ⟨g, 0, none⟩), .pointer (some ⟨g, 0, none⟩), .int .i64 5, .int .i64 1, .int .i64 20, x31, x32, x33], []⟩ : Act).put (some 31) (.pointer (some ⟨g, 3, none⟩)) = (⟨#[x0, .pointer (some ⟨g, 0, none⟩), .int .i64 1, x3, x4, x5, x6, x7, x8, x9, x10, x11, x12, x13, .int .i64 1, .int .i64 1, .int .i64 0, .pointer (some ⟨g, 0, none⟩), (clV 5 0 hq5), .int .i64 10, .int .i64 1, .pointer (some ⟨g, 3, none⟩), .pointer (some ⟨g, 3, none⟩), .int .i64 6, .int .i64 1, .int .i64 0, .pointer (some ⟨g, 0, none⟩), .pointer (some ⟨g, 0, none⟩), .int .i64 5, .int .i64 1, .int .i64 20, .pointer (some ⟨g, 3, none⟩), x32, x33], []⟩ : Act) := by kernel_rfl
  have l0 : (#[true, true, true, true, true, true, true, true, true, true, true, true, true, true, true, true, true, false, false, false] : Array Bool).setIfInBounds 17 true = (#[true, true, true, true, true, true, true, true, true, true, true, true, true, true, true, true, true, true, false, false] : Array Bool) := by kernel_rfl
  rw [e0, l0]
  clear e0 l0
  refine wpAnyH_one (i := 18) (by kernel_rfl) ?_
  refine wpOp_val (w' := w2) (v := .pointer (some ⟨g, 4, none⟩)) (some 32) (by kernel_rfl) (by kernel_rfl) (by kernel_rfl) (by kernel_rfl) ?_
  refine ⟨hS2, ?_⟩
  have e0 : (⟨#[x0, .pointer (some ⟨g, 0, none⟩), .int .i64 1, x3, x4, x5, x6, x7, x8, x9, x10, x11, x12, x13, .int .i64 1, .int .i64 1, .int .i64 0, .pointer (some ⟨g, 0, none⟩), (clV 5 0 hq5), .int .i64 10, .int .i64 1, .pointer (some ⟨g, 3, none⟩), .pointer (some ⟨g, 3, none⟩), .int .i64 6, .int .i64 1, .int .i64 0, .pointer (some ⟨g, 0, none⟩), .pointer (some ⟨g, 0, none⟩), .int .i64 5, .int .i64 1, .int .i64 20, .pointer (some ⟨g, 3, none⟩), x32, x33], []⟩ : Act).put (some 32) (.pointer (some ⟨g, 4, none⟩)) = (⟨#[x0, .pointer (some ⟨g, 0, none⟩), .int .i64 1, x3, x4, x5, x6, x7, x8, x9, x10, x11, x12, x13, .int .i64 1, .int .i64 1, .int .i64 0, .pointer (some ⟨g, 0, none⟩), (clV 5 0 hq5), .int .i64 10, .int .i64 1, .pointer (some ⟨g, 3, none⟩), .pointer (some ⟨g, 3, none⟩), .int .i64 6, .int .i64 1, .int .i64 0, .pointer (some ⟨g, 0, none⟩), .pointer (some ⟨g, 0, none⟩), .int .i64 5, .int .i64 1, .int .i64 20, .pointer (some ⟨g, 3, none⟩), .pointer (some ⟨g, 4, none⟩), x33], []⟩ : Act) := by kernel_rfl
  have l0 : (#[true, true, true, true, true, true, true, true, true, true, true, true, true, true, true, true, true, true, false, false] : Array Bool).setIfInBounds 18 true = (#[true, true, true, true, true, true, true, true, true, true, true, true, true, true, true, true, true, true, true, false] : Array Bool) := by kernel_rfl
  rw [e0, l0]
  clear e0 l0
  have hc := st_any (o := ((RofN Try.f83 5)[19]?).getD default) (a := (⟨#[x0, .pointer (some ⟨g, 0, none⟩), .int .i64 1, x3, x4, x5, x6, x7, x8, x9, x10, x11, x12, x13, .int .i64 1, .int .i64 1, .int .i64 0, .pointer (some ⟨g, 0, none⟩), (clV 5 0 hq5), .int .i64 10, .int .i64 1, .pointer (some ⟨g, 3, none⟩), .pointer (some ⟨g, 3, none⟩), .int .i64 6, .int .i64 1, .int .i64 0, .pointer (some ⟨g, 0, none⟩), .pointer (some ⟨g, 0, none⟩), .int .i64 5, .int .i64 1, .int .i64 20, .pointer (some ⟨g, 3, none⟩), .pointer (some ⟨g, 4, none⟩), x33], []⟩ : Act)) (w := w2) 3 (.tmp 32) (.tmp 30) g 4 (by kernel_rfl) (by kernel_rfl) (by kernel_rfl) (sv_int (v := 20) (hd w2 q2').1 (hd w2 q2').2)
  refine wpAnyH_one (i := 19) (by kernel_rfl) ?_
  refine wpOp_skip none (by kernel_rfl) (by kernel_rfl) (by kernel_rfl) hc ?_
  clear hc
  refine ⟨hS2.set _, ?_⟩
  have e0 : (⟨#[x0, .pointer (some ⟨g, 0, none⟩), .int .i64 1, x3, x4, x5, x6, x7, x8, x9, x10, x11, x12, x13, .int .i64 1, .int .i64 1, .int .i64 0, .pointer (some ⟨g, 0, none⟩), (clV 5 0 hq5), .int .i64 10, .int .i64 1, .pointer (some ⟨g, 3, none⟩), .pointer (some ⟨g, 3, none⟩), .int .i64 6, .int .i64 1, .int .i64 0, .pointer (some ⟨g, 0, none⟩), .pointer (some ⟨g, 0, none⟩), .int .i64 5, .int .i64 1, .int .i64 20, .pointer (some ⟨g, 3, none⟩), .pointer (some ⟨g, 4, none⟩), x33], []⟩ : Act).put none undef = (⟨#[x0, .pointer (some ⟨g, 0, none⟩), .int .i64 1, x3, x4, x5, x6, x7, x8, x9, x10, x11, x12, x13, .int .i64 1, .int .i64 1, .int .i64 0, .pointer (some ⟨g, 0, none⟩), (clV 5 0 hq5), .int .i64 10, .int .i64 1, .pointer (some ⟨g, 3, none⟩), .pointer (some ⟨g, 3, none⟩), .int .i64 6, .int .i64 1, .int .i64 0, .pointer (some ⟨g, 0, none⟩), .pointer (some ⟨g, 0, none⟩), .int .i64 5, .int .i64 1, .int .i64 20, .pointer (some ⟨g, 3, none⟩), .pointer (some ⟨g, 4, none⟩), x33], []⟩ : Act) := by kernel_rfl
  have l0 : (#[true, true, true, true, true, true, true, true, true, true, true, true, true, true, true, true, true, true, true, false] : Array Bool).setIfInBounds 19 true = (#[true, true, true, true, true, true, true, true, true, true, true, true, true, true, true, true, true, true, true, true] : Array Bool) := by kernel_rfl
  rw [e0, l0]
  clear e0 l0
  refine wpAnyH_done (by kernel_rfl) ?_ _
  exact h w2 q2'
def y2 (g : Nat) : List (Nat × Value) := [(0, .int .i64 2), (1, .int .i64 2), (6, .int .i64 2), (10, .int .i64 2), (2, .int .i64 1), (3, .pointer (some ⟨g, 3, none⟩)), (4, (clV 6 20 hq6)), (7, .pointer (some ⟨g, 6, none⟩)), (8, .pointer (some ⟨g, 6, none⟩)), (9, .int .i64 7), (11, .int .i64 1), (12, .pointer (some ⟨g, 3, none⟩)), (13, .pointer (some ⟨g, 3, none⟩)), (14, .int .i64 6), (15, .int .i64 1)]
set_option maxHeartbeats 4000000 in
theorem g2 (g : Nat) {x0 x3 x4 x5 x6 x7 x8 x9 x10 x11 x12 x13 x14 x15 x16 x17 x18 x19 x20 x21 x22 x23 x24 x25 x26 x27 x28 x29 x30 x31 x32 x33 : Value} : Chn Try.prog (RofN Try.f83 5) (SC g 1 6 20 hq6 7) (y2 g) (#[false, false, false, false, false, false, false, false, false, false, false, false, false, false, false, false, false, false, false, false] : Array Bool) (⟨#[x0, .pointer (some ⟨g, 0, none⟩), .int .i64 2, x3, x4, x5, x6, x7, x8, x9, x10, x11, x12, x13, x14, x15, x16, x17, x18, x19, x20, x21, x22, x23, x24, x25, x26, x27, x28, x29, x30, x31, x32, x33], []⟩ : Act) :=
  ⟨⟨by kernel_rfl, by kernel_rfl, by kernel_rfl, by kernel_rfl, fun w h => by kernel_rfl⟩,
    ⟨by kernel_rfl, by kernel_rfl, by kernel_rfl, by kernel_rfl, fun w h => by kernel_rfl⟩,
    ⟨by kernel_rfl, by kernel_rfl, by kernel_rfl, by kernel_rfl, fun w h => by kernel_rfl⟩,
    ⟨by kernel_rfl, by kernel_rfl, by kernel_rfl, by kernel_rfl, fun w h => by kernel_rfl⟩,
    ⟨by kernel_rfl, by kernel_rfl, by kernel_rfl, by kernel_rfl, fun w h => by kernel_rfl⟩,
    ⟨by kernel_rfl, by kernel_rfl, by kernel_rfl, by kernel_rfl, fun w h => by kernel_rfl⟩,
    ⟨by kernel_rfl, by kernel_rfl, by kernel_rfl, by kernel_rfl, fun w h => ld_any 124 (.tmp 17) g 3 (by kernel_rfl) (by kernel_rfl) (ld_cls h)⟩,
    ⟨by kernel_rfl, by kernel_rfl, by kernel_rfl, by kernel_rfl, fun w h => by kernel_rfl⟩,
    ⟨by kernel_rfl, by kernel_rfl, by kernel_rfl, by kernel_rfl, fun w h => by kernel_rfl⟩,
    ⟨by kernel_rfl, by kernel_rfl, by kernel_rfl, by kernel_rfl, fun w h => ld_any 3 (.tmp 22) g 6 (by kernel_rfl) (by kernel_rfl) (ld_int h.c3)⟩,
    ⟨by kernel_rfl, by kernel_rfl, by kernel_rfl, by kernel_rfl, fun w h => by kernel_rfl⟩,
    ⟨by kernel_rfl, by kernel_rfl, by kernel_rfl, by kernel_rfl, fun w h => by kernel_rfl⟩,
    ⟨by kernel_rfl, by kernel_rfl, by kernel_rfl, by kernel_rfl, fun w h => by kernel_rfl⟩,
    ⟨by kernel_rfl, by kernel_rfl, by kernel_rfl, by kernel_rfl, fun w h => ld_any 3 (.tmp 27) g 3 (by kernel_rfl) (by kernel_rfl) (ld_int h.c0)⟩,
    ⟨by kernel_rfl, by kernel_rfl, by kernel_rfl, by kernel_rfl, fun w h => by kernel_rfl⟩,
    trivial⟩
set_option maxHeartbeats 8000000 in
theorem rg5_2 (g : Nat) {x0 x3 x4 x5 x6 x7 x8 x9 x10 x11 x12 x13 x14 x15 x16 x17 x18 x19 x20 x21 x22 x23 x24 x25 x26 x27 x28 x29 x30 x31 x32 x33 : Value} (w : World) (R : Exit → Act → World → Prop) (hQ : ∀ c a d v w, R (.panic c) (a.put d v) w → R (.panic c) a w) (hS : (SC g 1 6 20 hq6 7) w) {u : Value} (hd : ∀ w2, Q w w2 → w2.cell? ⟨g, 7, none⟩ = some u ∧ w2.frozen? ⟨g, 7, none⟩ = false)
    (h : ∀ w2, Q w w2 → R .normal (⟨#[x0, .pointer (some ⟨g, 0, none⟩), .int .i64 2, x3, x4, x5, x6, x7, x8, x9, x10, x11, x12, x13, .int .i64 2, .int .i64 2, .int .i64 1, .pointer (some ⟨g, 3, none⟩), (clV 6 20 hq6), .int .i64 46, .int .i64 2, .pointer (some ⟨g, 6, none⟩), .pointer (some ⟨g, 6, none⟩), .int .i64 7, .int .i64 2, .int .i64 1, .pointer (some ⟨g, 3, none⟩), .pointer (some ⟨g, 3, none⟩), .int .i64 6, .int .i64 1, .int .i64 92, .pointer (some ⟨g, 6, none⟩), .pointer (some ⟨g, 7, none⟩), x33], []⟩ : Act) (w2.setCell ⟨g, 7, none⟩ (.int .i64 92))) :
    (Code.region 5 (RofN Try.f83 5) true).wp Try.prog R (⟨#[x0, .pointer (some ⟨g, 0, none⟩), .int .i64 2, x3, x4, x5, x6, x7, x8, x9, x10, x11, x12, x13, x14, x15, x16, x17, x18, x19, x20, x21, x22, x23, x24, x25, x26, x27, x28, x29, x30, x31, x32, x33], []⟩ : Act) w := by
  refine wp_region_held (S := (SC g 1 6 20 hq6 7)) (by kernel_rfl) ?_
  have hsz : (RofN Try.f83 5).size = 20 := by kernel_rfl
  rw [hsz]
  have hS0 : (SC g 1 6 20 hq6 7) w.drew := ⟨hS.c0, hS.c1, hS.c2, hS.c3⟩
  refine chn_take (by kernel_rfl) hQ hS0 5 (y2 g) _ _ (g2 g) ?_
  have e0 : putL (RofN Try.f83 5) (y2 g) (⟨#[x0, .pointer (some ⟨g, 0, none⟩), .int .i64 2, x3, x4, x5, x6, x7, x8, x9, x10, x11, x12, x13, x14, x15, x16, x17, x18, x19, x20, x21, x22, x23, x24, x25, x26, x27, x28, x29, x30, x31, x32, x33], []⟩ : Act) = (⟨#[x0, .pointer (some ⟨g, 0, none⟩), .int .i64 2, x3, x4, x5, x6, x7, x8, x9, x10, x11, x12, x13, .int .i64 2, .int .i64 2, .int .i64 1, .pointer (some ⟨g, 3, none⟩), (clV 6 20 hq6), x19, .int .i64 2, .pointer (some ⟨g, 6, none⟩), .pointer (some ⟨g, 6, none⟩), .int .i64 7, .int .i64 2, .int .i64 1, .pointer (some ⟨g, 3, none⟩), .pointer (some ⟨g, 3, none⟩), .int .i64 6, .int .i64 1, x30, x31, x32, x33], []⟩ : Act) := by kernel_rfl
  have l0 : setL (y2 g) (Array.replicate 20 false) = (#[true, true, true, true, true, false, true, true, true, true, true, true, true, true, true, true, false, false, false, false] : Array Bool) := by kernel_rfl
  rw [e0, l0]
  clear e0 l0
  refine wpAnyH_one (i := 5) (by kernel_rfl) ?_
  refine wpOp_call (some 19) (by kernel_rfl) (by kernel_rfl) (by kernel_rfl) 95 #[(clV 6 20 hq6)] (by kernel_rfl) (behind_any 6 20 hq6 46 _ (by decide) (by decide) (by decide) (by decide)) (.int .i64 46) ?_
  rintro e w2 ⟨rfl, q2⟩
  have q2' : Q w w2 := q2.ofDrew
  refine ⟨rfl, hS0.q q2, ?_⟩
  have hS2 := hS.q q2'
  clear q2
  have e0 : (⟨#[x0, .pointer (some ⟨g, 0, none⟩), .int .i64 2, x3, x4, x5, x6, x7, x8, x9, x10, x11, x12, x13, .int .i64 2, .int .i64 2, .int .i64 1, .pointer (some ⟨g, 3, none⟩), (clV 6 20 hq6), x19, .int .i64 2, .pointer (some ⟨g, 6, none⟩), .pointer (some ⟨g, 6, none⟩), .int .i64 7, .int .i64 2, .int .i64 1, .pointer (some ⟨g, 3, none⟩), .pointer (some ⟨g, 3, none⟩), .int .i64 6, .int .i64 1, x30, x31, x32, x33], []⟩ : Act).put (some 19) (.int .i64 46) = (⟨#[x0, .pointer (some ⟨g, 0, none⟩), .int .i64 2, x3, x4, x5, x6, x7, x8, x9, x10, x11, x12, x13, .int .i64 2, .int .i64 2, .int .i64 1, .pointer (some ⟨g, 3, none⟩), (clV 6 20 hq6), .int .i64 46, .int .i64 2, .pointer (some ⟨g, 6, none⟩), .pointer (some ⟨g, 6, none⟩), .int .i64 7, .int .i64 2, .int .i64 1, .pointer (some ⟨g, 3, none⟩), .pointer (some ⟨g, 3, none⟩), .int .i64 6, .int .i64 1, x30, x31, x32, x33], []⟩ : Act) := by kernel_rfl
  have l0 : (#[true, true, true, true, true, false, true, true, true, true, true, true, true, true, true, true, false, false, false, false] : Array Bool).setIfInBounds 5 true = (#[true, true, true, true, true, true, true, true, true, true, true, true, true, true, true, true, false, false, false, false] : Array Bool) := by kernel_rfl
  rw [e0, l0]
  clear e0 l0
  refine wpAnyH_one (i := 16) (by kernel_rfl) ?_
  refine wpOp_val (w' := w2) (v := .int .i64 92) (some 30) (by kernel_rfl) (by kernel_rfl) (by kernel_rfl) (by kernel_rfl) ?_
  refine ⟨hS2, ?_⟩
  have e0 : (⟨#[x0, .pointer (some ⟨g, 0, none⟩), .int .i64 2, x3, x4, x5, x6, x7, x8, x9, x10, x11, x12, x13, .int .i64 2, .int .i64 2, .int .i64 1, .pointer (some ⟨g, 3, none⟩), (clV 6 20 hq6), .int .i64 46, .int .i64 2, .pointer (some ⟨g, 6, none⟩), .pointer (some ⟨g, 6, none⟩), .int .i64 7, .int .i64 2, .int .i64 1, .pointer (some ⟨g, 3, none⟩), .pointer (some ⟨g, 3, none⟩), .int .i64 6, .int .i64 1, x30, x31, x32, x33], []⟩ : Act).put (some 30) (.int .i64 92) = (⟨#[x0, .pointer (some ⟨g, 0, none⟩), .int .i64 2, x3, x4, x5, x6, x7, x8, x9, x10, x11, x12, x13, .int .i64 2, .int .i64 2, .int .i64 1, .pointer (some ⟨g, 3, none⟩), (clV 6 20 hq6), .int .i64 46, .int .i64 2, .pointer (some ⟨g, 6, none⟩), .pointer (some ⟨g, 6, none⟩), .int .i64 7, .int .i64 2, .int .i64 1, .pointer (some ⟨g, 3, none⟩), .pointer (some ⟨g, 3, none⟩), .int .i64 6, .int .i64 1, .int .i64 92, x31, x32, x33], []⟩ : Act) := by kernel_rfl
  have l0 : (#[true, true, true, true, true, true, true, true, true, true, true, true, true, true, true, true, false, false, false, false] : Array Bool).setIfInBounds 16 true = (#[true, true, true, true, true, true, true, true, true, true, true, true, true, true, true, true, true, false, false, false] : Array Bool) := by kernel_rfl
  rw [e0, l0]
  clear e0 l0
  refine wpAnyH_one (i := 17) (by kernel_rfl) ?_
  refine wpOp_val (w' := w2) (v := .pointer (some ⟨g, 6, none⟩)) (some 31) (by kernel_rfl) (by kernel_rfl) (by kernel_rfl) (by kernel_rfl) ?_
  refine ⟨hS2, ?_⟩
  have e0 : (⟨#[x0, .pointer (some ⟨g, 0, none⟩), .int .i64 2, x3, x4, x5, x6, x7, x8, x9, x10, x11, x12, x13, .int .i64 2, .int .i64 2, .int .i64 1, .pointer (some ⟨g, 3, none⟩), (clV 6 20 hq6), .int .i64 46, .int .i64 2, .pointer (some ⟨g, 6, none⟩), .pointer (some ⟨g, 6, none⟩), .int .i64 7, .int .i64 2, .int .i64 1, .pointer (some ⟨g, 3, none⟩), .pointer (some ⟨g, 3, none⟩), .int .i64 6, .int .i64 1, .int .i64 92, x31, x32, x33], []⟩ : Act).put (some 31) (.pointer (some ⟨g, 6, none⟩)) = (⟨#[x0, .pointer (some ⟨g, 0, none⟩), .int .i64 2, x3, x4, x5, x6, x7, x8, x9, x10, x11, x12, x13, .int .i64 2, .int .i64 2, .int .i64 1, .pointer (some ⟨g, 3, none⟩), (clV 6 20 hq6), .int .i64 46, .int .i64 2, .pointer (some ⟨g, 6, none⟩), .pointer (some ⟨g, 6, none⟩), .int .i64 7, .int .i64 2, .int .i64 1, .pointer (some ⟨g, 3, none⟩), .pointer (some ⟨g, 3, none⟩), .int .i64 6, .int .i64 1, .int .i64 92, .pointer (some ⟨g, 6, none⟩), x32, x33], []⟩ : Act) := by kernel_rfl
  have l0 : (#[true, true, true, true, true, true, true, true, true, true, true, true, true, true, true, true, true, false, false, false] : Array Bool).setIfInBounds 17 true = (#[true, true, true, true, true, true, true, true, true, true, true, true, true, true, true, true, true, true, false, false] : Array Bool) := by kernel_rfl
  rw [e0, l0]
  clear e0 l0
  refine wpAnyH_one (i := 18) (by kernel_rfl) ?_
  refine wpOp_val (w' := w2) (v := .pointer (some ⟨g, 7, none⟩)) (some 32) (by kernel_rfl) (by kernel_rfl) (by kernel_rfl) (by kernel_rfl) ?_
  refine ⟨hS2, ?_⟩
  have e0 : (⟨#[x0, .pointer (some ⟨g, 0, none⟩), .int .i64 2, x3, x4, x5, x6, x7, x8, x9, x10, x11, x12, x13, .int .i64 2, .int .i64 2, .int .i64 1, .pointer (some ⟨g, 3, none⟩), (clV 6 20 hq6), .int .i64 46, .int .i64 2, .pointer (some ⟨g, 6, none⟩), .pointer (some ⟨g, 6, none⟩), .int .i64 7, .int .i64 2, .int .i64 1, .pointer (some ⟨g, 3, none⟩), .pointer (some ⟨g, 3, none⟩), .int .i64 6, .int .i64 1, .int .i64 92, .pointer (some ⟨g, 6, none⟩), x32, x33], []⟩ : Act).put (some 32) (.pointer (some ⟨g, 7, none⟩)) = (⟨#[x0, .pointer (some ⟨g, 0, none⟩), .int .i64 2, x3, x4, x5, x6, x7, x8, x9, x10, x11, x12, x13, .int .i64 2, .int .i64 2, .int .i64 1, .pointer (some ⟨g, 3, none⟩), (clV 6 20 hq6), .int .i64 46, .int .i64 2, .pointer (some ⟨g, 6, none⟩), .pointer (some ⟨g, 6, none⟩), .int .i64 7, .int .i64 2, .int .i64 1, .pointer (some ⟨g, 3, none⟩), .pointer (some ⟨g, 3, none⟩), .int .i64 6, .int .i64 1, .int .i64 92, .pointer (some ⟨g, 6, none⟩), .pointer (some ⟨g, 7, none⟩), x33], []⟩ : Act) := by kernel_rfl
  have l0 : (#[true, true, true, true, true, true, true, true, true, true, true, true, true, true, true, true, true, true, false, false] : Array Bool).setIfInBounds 18 true = (#[true, true, true, true, true, true, true, true, true, true, true, true, true, true, true, true, true, true, true, false] : Array Bool) := by kernel_rfl
  rw [e0, l0]
  clear e0 l0
  have hc := st_any (o := ((RofN Try.f83 5)[19]?).getD default) (a := (⟨#[x0, .pointer (some ⟨g, 0, none⟩), .int .i64 2, x3, x4, x5, x6, x7, x8, x9, x10, x11, x12, x13, .int .i64 2, .int .i64 2, .int .i64 1, .pointer (some ⟨g, 3, none⟩), (clV 6 20 hq6), .int .i64 46, .int .i64 2, .pointer (some ⟨g, 6, none⟩), .pointer (some ⟨g, 6, none⟩), .int .i64 7, .int .i64 2, .int .i64 1, .pointer (some ⟨g, 3, none⟩), .pointer (some ⟨g, 3, none⟩), .int .i64 6, .int .i64 1, .int .i64 92, .pointer (some ⟨g, 6, none⟩), .pointer (some ⟨g, 7, none⟩), x33], []⟩ : Act)) (w := w2) 3 (.tmp 32) (.tmp 30) g 7 (by kernel_rfl) (by kernel_rfl) (by kernel_rfl) (sv_int (v := 92) (hd w2 q2').1 (hd w2 q2').2)
  refine wpAnyH_one (i := 19) (by kernel_rfl) ?_
  refine wpOp_skip none (by kernel_rfl) (by kernel_rfl) (by kernel_rfl) hc ?_
  clear hc
  refine ⟨hS2.set _, ?_⟩
  have e0 : (⟨#[x0, .pointer (some ⟨g, 0, none⟩), .int .i64 2, x3, x4, x5, x6, x7, x8, x9, x10, x11, x12, x13, .int .i64 2, .int .i64 2, .int .i64 1, .pointer (some ⟨g, 3, none⟩), (clV 6 20 hq6), .int .i64 46, .int .i64 2, .pointer (some ⟨g, 6, none⟩), .pointer (some ⟨g, 6, none⟩), .int .i64 7, .int .i64 2, .int .i64 1, .pointer (some ⟨g, 3, none⟩), .pointer (some ⟨g, 3, none⟩), .int .i64 6, .int .i64 1, .int .i64 92, .pointer (some ⟨g, 6, none⟩), .pointer (some ⟨g, 7, none⟩), x33], []⟩ : Act).put none undef = (⟨#[x0, .pointer (some ⟨g, 0, none⟩), .int .i64 2, x3, x4, x5, x6, x7, x8, x9, x10, x11, x12, x13, .int .i64 2, .int .i64 2, .int .i64 1, .pointer (some ⟨g, 3, none⟩), (clV 6 20 hq6), .int .i64 46, .int .i64 2, .pointer (some ⟨g, 6, none⟩), .pointer (some ⟨g, 6, none⟩), .int .i64 7, .int .i64 2, .int .i64 1, .pointer (some ⟨g, 3, none⟩), .pointer (some ⟨g, 3, none⟩), .int .i64 6, .int .i64 1, .int .i64 92, .pointer (some ⟨g, 6, none⟩), .pointer (some ⟨g, 7, none⟩), x33], []⟩ : Act) := by kernel_rfl
  have l0 : (#[true, true, true, true, true, true, true, true, true, true, true, true, true, true, true, true, true, true, true, false] : Array Bool).setIfInBounds 19 true = (#[true, true, true, true, true, true, true, true, true, true, true, true, true, true, true, true, true, true, true, true] : Array Bool) := by kernel_rfl
  rw [e0, l0]
  clear e0 l0
  refine wpAnyH_done (by kernel_rfl) ?_ _
  exact h w2 q2'
def y3 (g : Nat) : List (Nat × Value) := [(0, .int .i64 3), (1, .int .i64 3), (6, .int .i64 3), (10, .int .i64 3), (2, .int .i64 2), (3, .pointer (some ⟨g, 6, none⟩)), (4, (clV 7 92 hq7)), (7, .pointer (some ⟨g, 9, none⟩)), (8, .pointer (some ⟨g, 9, none⟩)), (9, .int .i64 8), (11, .int .i64 2), (12, .pointer (some ⟨g, 6, none⟩)), (13, .pointer (some ⟨g, 6, none⟩)), (14, .int .i64 7), (15, .int .i64 1)]
set_option maxHeartbeats 4000000 in
theorem g3 (g : Nat) {x0 x3 x4 x5 x6 x7 x8 x9 x10 x11 x12 x13 x14 x15 x16 x17 x18 x19 x20 x21 x22 x23 x24 x25 x26 x27 x28 x29 x30 x31 x32 x33 : Value} : Chn Try.prog (RofN Try.f83 5) (SC g 2 7 92 hq7 8) (y3 g) (#[false, false, false, false, false, false, false, false, false, false, false, false, false, false, false, false, false, false, false, false] : Array Bool) (⟨#[x0, .pointer (some ⟨g, 0, none⟩), .int .i64 3, x3, x4, x5, x6, x7, x8, x9, x10, x11, x12, x13, x14, x15, x16, x17, x18, x19, x20, x21, x22, x23, x24, x25, x26, x27, x28, x29, x30, x31, x32, x33], []⟩ : Act) :=
  ⟨⟨by kernel_rfl, by kernel_rfl, by kernel_rfl, by kernel_rfl, fun w h => by kernel_rfl⟩,
    ⟨by kernel_rfl, by kernel_rfl, by kernel_rfl, by kernel_rfl, fun w h => by kernel_rfl⟩,
    ⟨by kernel_rfl, by kernel_rfl, by kernel_rfl, by kernel_rfl, fun w h => by kernel_rfl⟩,
    ⟨by kernel_rfl, by kernel_rfl, by kernel_rfl, by kernel_rfl, fun w h => by kernel_rfl⟩,
    ⟨by kernel_rfl, by kernel_rfl, by kernel_rfl, by kernel_rfl, fun w h => by kernel_rfl⟩,
    ⟨by kernel_rfl, by kernel_rfl, by kernel_rfl, by kernel_rfl, fun w h => by kernel_rfl⟩,
    ⟨by kernel_rfl, by kernel_rfl, by kernel_rfl, by kernel_rfl, fun w h => ld_any 124 (.tmp 17) g 6 (by kernel_rfl) (by kernel_rfl) (ld_cls h)⟩,
    ⟨by kernel_rfl, by kernel_rfl, by kernel_rfl, by kernel_rfl, fun w h => by kernel_rfl⟩,
    ⟨by kernel_rfl, by kernel_rfl, by kernel_rfl, by kernel_rfl, fun w h => by kernel_rfl⟩,
    ⟨by kernel_rfl, by kernel_rfl, by kernel_rfl, by kernel_rfl, fun w h => ld_any 3 (.tmp 22) g 9 (by kernel_rfl) (by kernel_rfl) (ld_int h.c3)⟩,
    ⟨by kernel_rfl, by kernel_rfl, by kernel_rfl, by kernel_rfl, fun w h => by kernel_rfl⟩,
    ⟨by kernel_rfl, by kernel_rfl, by kernel_rfl, by kernel_rfl, fun w h => by kernel_rfl⟩,
    ⟨by kernel_rfl, by kernel_rfl, by kernel_rfl, by kernel_rfl, fun w h => by kernel_rfl⟩,
    ⟨by kernel_rfl, by kernel_rfl, by kernel_rfl, by kernel_rfl, fun w h => ld_any 3 (.tmp 27) g 6 (by kernel_rfl) (by kernel_rfl) (ld_int h.c0)⟩,
    ⟨by kernel_rfl, by kernel_rfl, by kernel_rfl, by kernel_rfl, fun w h => by kernel_rfl⟩,
    trivial⟩
set_option maxHeartbeats 8000000 in
theorem rg5_3 (g : Nat) {x0 x3 x4 x5 x6 x7 x8 x9 x10 x11 x12 x13 x14 x15 x16 x17 x18 x19 x20 x21 x22 x23 x24 x25 x26 x27 x28 x29 x30 x31 x32 x33 : Value} (w : World) (R : Exit → Act → World → Prop) (hQ : ∀ c a d v w, R (.panic c) (a.put d v) w → R (.panic c) a w) (hS : (SC g 2 7 92 hq7 8) w) {u : Value} (hd : ∀ w2, Q w w2 → w2.cell? ⟨g, 10, none⟩ = some u ∧ w2.frozen? ⟨g, 10, none⟩ = false)
    (h : ∀ w2, Q w w2 → R .normal (⟨#[x0, .pointer (some ⟨g, 0, none⟩), .int .i64 3, x3, x4, x5, x6, x7, x8, x9, x10, x11, x12, x13, .int .i64 3, .int .i64 3, .int .i64 2, .pointer (some ⟨g, 6, none⟩), (clV 7 92 hq7), .int .i64 124, .int .i64 3, .pointer (some ⟨g, 9, none⟩), .pointer (some ⟨g, 9, none⟩), .int .i64 8, .int .i64 3, .int .i64 2, .pointer (some ⟨g, 6, none⟩), .pointer (some ⟨g, 6, none⟩), .int .i64 7, .int .i64 1, .int .i64 248, .pointer (some ⟨g, 9, none⟩), .pointer (some ⟨g, 10, none⟩), x33], []⟩ : Act) (w2.setCell ⟨g, 10, none⟩ (.int .i64 248))) :
    (Code.region 5 (RofN Try.f83 5) true).wp Try.prog R (⟨#[x0, .pointer (some ⟨g, 0, none⟩), .int .i64 3, x3, x4, x5, x6, x7, x8, x9, x10, x11, x12, x13, x14, x15, x16, x17, x18, x19, x20, x21, x22, x23, x24, x25, x26, x27, x28, x29, x30, x31, x32, x33], []⟩ : Act) w := by
  refine wp_region_held (S := (SC g 2 7 92 hq7 8)) (by kernel_rfl) ?_
  have hsz : (RofN Try.f83 5).size = 20 := by kernel_rfl
  rw [hsz]
  have hS0 : (SC g 2 7 92 hq7 8) w.drew := ⟨hS.c0, hS.c1, hS.c2, hS.c3⟩
  refine chn_take (by kernel_rfl) hQ hS0 5 (y3 g) _ _ (g3 g) ?_
  have e0 : putL (RofN Try.f83 5) (y3 g) (⟨#[x0, .pointer (some ⟨g, 0, none⟩), .int .i64 3, x3, x4, x5, x6, x7, x8, x9, x10, x11, x12, x13, x14, x15, x16, x17, x18, x19, x20, x21, x22, x23, x24, x25, x26, x27, x28, x29, x30, x31, x32, x33], []⟩ : Act) = (⟨#[x0, .pointer (some ⟨g, 0, none⟩), .int .i64 3, x3, x4, x5, x6, x7, x8, x9, x10, x11, x12, x13, .int .i64 3, .int .i64 3, .int .i64 2, .pointer (some ⟨g, 6, none⟩), (clV 7 92 hq7), x19, .int .i64 3, .pointer (some ⟨g, 9, none⟩), .pointer (some ⟨g, 9, none⟩), .int .i64 8, .int .i64 3, .int .i64 2, .pointer (some ⟨g, 6, none⟩), .pointer (some ⟨g, 6, none⟩), .int .i64 7, .int .i64 1, x30, x31, x32, x33], []⟩ : Act) := by kernel_rfl
  have l0 : setL (y3 g) (Array.replicate 20 false) = (#[true, true, true, true, true, false, true, true, true, true, true, true, true, true, true, true, false, false, false, false] : Array Bool) := by kernel_rfl
  rw [e0, l0]
  clear e0 l0
  refine wpAnyH_one (i := 5) (by kernel_rfl) ?_
  refine wpOp_call (some 19) (by kernel_rfl) (by kernel_rfl) (by kernel_rfl) 95 #[(clV 7 92 hq7)] (by kernel_rfl) (behind_any 7 92 hq7 124 _ (by decide) (by decide) (by decide) (by decide)) (.int .i64 124) ?_
  rintro e w2 ⟨rfl, q2⟩
  have q2' : Q w w2 := q2.ofDrew
  refine ⟨rfl, hS0.q q2, ?_⟩
  have hS2 := hS.q q2'
  clear q2
  have e0 : (⟨#[x0, .pointer (some ⟨g, 0, none⟩), .int .i64 3, x3, x4, x5, x6, x7, x8, x9, x10, x11, x12, x13, .int .i64 3, .int .i64 3, .int .i64 2, .pointer (some ⟨g, 6, none⟩), (clV 7 92 hq7), x19, .int .i64 3, .pointer (some ⟨g, 9, none⟩), .pointer (some ⟨g, 9, none⟩), .int .i64 8, .int .i64 3, .int .i64 2, .pointer (some ⟨g, 6, none⟩), .pointer (some ⟨g, 6, none⟩), .int .i64 7, .int .i64 1, x30, x31, x32, x33], []⟩ : Act).put (some 19) (.int .i64 124) = (⟨#[x0, .pointer (some ⟨g, 0, none⟩), .int .i64 3, x3, x4, x5, x6, x7, x8, x9, x10, x11, x12, x13, .int .i64 3, .int .i64 3, .int .i64 2, .pointer (some ⟨g, 6, none⟩), (clV 7 92 hq7), .int .i64 124, .int .i64 3, .pointer (some ⟨g, 9, none⟩), .pointer (some ⟨g, 9, none⟩), .int .i64 8, .int .i64 3, .int .i64 2, .pointer (some ⟨g, 6, none⟩), .pointer (some ⟨g, 6, none⟩), .int .i64 7, .int .i64 1, x30, x31, x32, x33], []⟩ : Act) := by kernel_rfl
  have l0 : (#[true, true, true, true, true, false, true, true, true, true, true, true, true, true, true, true, false, false, false, false] : Array Bool).setIfInBounds 5 true = (#[true, true, true, true, true, true, true, true, true, true, true, true, true, true, true, true, false, false, false, false] : Array Bool) := by kernel_rfl
  rw [e0, l0]
  clear e0 l0
  refine wpAnyH_one (i := 16) (by kernel_rfl) ?_
  refine wpOp_val (w' := w2) (v := .int .i64 248) (some 30) (by kernel_rfl) (by kernel_rfl) (by kernel_rfl) (by kernel_rfl) ?_
  refine ⟨hS2, ?_⟩
  have e0 : (⟨#[x0, .pointer (some ⟨g, 0, none⟩), .int .i64 3, x3, x4, x5, x6, x7, x8, x9, x10, x11, x12, x13, .int .i64 3, .int .i64 3, .int .i64 2, .pointer (some ⟨g, 6, none⟩), (clV 7 92 hq7), .int .i64 124, .int .i64 3, .pointer (some ⟨g, 9, none⟩), .pointer (some ⟨g, 9, none⟩), .int .i64 8, .int .i64 3, .int .i64 2, .pointer (some ⟨g, 6, none⟩), .pointer (some ⟨g, 6, none⟩), .int .i64 7, .int .i64 1, x30, x31, x32, x33], []⟩ : Act).put (some 30) (.int .i64 248) = (⟨#[x0, .pointer (some ⟨g, 0, none⟩), .int .i64 3, x3, x4, x5, x6, x7, x8, x9, x10, x11, x12, x13, .int .i64 3, .int .i64 3, .int .i64 2, .pointer (some ⟨g, 6, none⟩), (clV 7 92 hq7), .int .i64 124, .int .i64 3, .pointer (some ⟨g, 9, none⟩), .pointer (some ⟨g, 9, none⟩), .int .i64 8, .int .i64 3, .int .i64 2, .pointer (some ⟨g, 6, none⟩), .pointer (some ⟨g, 6, none⟩), .int .i64 7, .int .i64 1, .int .i64 248, x31, x32, x33], []⟩ : Act) := by kernel_rfl
  have l0 : (#[true, true, true, true, true, true, true, true, true, true, true, true, true, true, true, true, false, false, false, false] : Array Bool).setIfInBounds 16 true = (#[true, true, true, true, true, true, true, true, true, true, true, true, true, true, true, true, true, false, false, false] : Array Bool) := by kernel_rfl
  rw [e0, l0]
  clear e0 l0
  refine wpAnyH_one (i := 17) (by kernel_rfl) ?_
  refine wpOp_val (w' := w2) (v := .pointer (some ⟨g, 9, none⟩)) (some 31) (by kernel_rfl) (by kernel_rfl) (by kernel_rfl) (by kernel_rfl) ?_
  refine ⟨hS2, ?_⟩
  have e0 : (⟨#[x0, .pointer (some ⟨g, 0, none⟩), .int .i64 3, x3, x4, x5, x6, x7, x8, x9, x10, x11, x12, x13, .int .i64 3, .int .i64 3, .int .i64 2, .pointer (some ⟨g, 6, none⟩), (clV 7 92 hq7), .int .i64 124, .int .i64 3, .pointer (some ⟨g, 9, none⟩), .pointer (some ⟨g, 9, none⟩), .int .i64 8, .int .i64 3, .int .i64 2, .pointer (some ⟨g, 6, none⟩), .pointer (some ⟨g, 6, none⟩), .int .i64 7, .int .i64 1, .int .i64 248, x31, x32, x33], []⟩ : Act).put (some 31) (.pointer (some ⟨g, 9, none⟩)) = (⟨#[x0, .pointer (some ⟨g, 0, none⟩), .int .i64 3, x3, x4, x5, x6, x7, x8, x9, x10, x11, x12, x13, .int .i64 3, .int .i64 3, .int .i64 2, .pointer (some ⟨g, 6, none⟩), (clV 7 92 hq7), .int .i64 124, .int .i64 3, .pointer (some ⟨g, 9, none⟩), .pointer (some ⟨g, 9, none⟩), .int .i64 8, .int .i64 3, .int .i64 2, .pointer (some ⟨g, 6, none⟩), .pointer (some ⟨g, 6, none⟩), .int .i64 7, .int .i64 1, .int .i64 248, .pointer (some ⟨g, 9, none⟩), x32, x33], []⟩ : Act) := by kernel_rfl
  have l0 : (#[true, true, true, true, true, true, true, true, true, true, true, true, true, true, true, true, true, false, false, false] : Array Bool).setIfInBounds 17 true = (#[true, true, true, true, true, true, true, true, true, true, true, true, true, true, true, true, true, true, false, false] : Array Bool) := by kernel_rfl
  rw [e0, l0]
  clear e0 l0
  refine wpAnyH_one (i := 18) (by kernel_rfl) ?_
  refine wpOp_val (w' := w2) (v := .pointer (some ⟨g, 10, none⟩)) (some 32) (by kernel_rfl) (by kernel_rfl) (by kernel_rfl) (by kernel_rfl) ?_
  refine ⟨hS2, ?_⟩
  have e0 : (⟨#[x0, .pointer (some ⟨g, 0, none⟩), .int .i64 3, x3, x4, x5, x6, x7, x8, x9, x10, x11, x12, x13, .int .i64 3, .int .i64 3, .int .i64 2, .pointer (some ⟨g, 6, none⟩), (clV 7 92 hq7), .int .i64 124, .int .i64 3, .pointer (some ⟨g, 9, none⟩), .pointer (some ⟨g, 9, none⟩), .int .i64 8, .int .i64 3, .int .i64 2, .pointer (some ⟨g, 6, none⟩), .pointer (some ⟨g, 6, none⟩), .int .i64 7, .int .i64 1, .int .i64 248, .pointer (some ⟨g, 9, none⟩), x32, x33], []⟩ : Act).put (some 32) (.pointer (some ⟨g, 10, none⟩)) = (⟨#[x0, .pointer (some ⟨g, 0, none⟩), .int .i64 3, x3, x4, x5, x6, x7, x8, x9, x10, x11, x12, x13, .int .i64 3, .int .i64 3, .int .i64 2, .pointer (some ⟨g, 6, none⟩), (clV 7 92 hq7), .int .i64 124, .int .i64 3, .pointer (some ⟨g, 9, none⟩), .pointer (some ⟨g, 9, none⟩), .int .i64 8, .int .i64 3, .int .i64 2, .pointer (some ⟨g, 6, none⟩), .pointer (some ⟨g, 6, none⟩), .int .i64 7, .int .i64 1, .int .i64 248, .pointer (some ⟨g, 9, none⟩), .pointer (some ⟨g, 10, none⟩), x33], []⟩ : Act) := by kernel_rfl
  have l0 : (#[true, true, true, true, true, true, true, true, true, true, true, true, true, true, true, true, true, true, false, false] : Array Bool).setIfInBounds 18 true = (#[true, true, true, true, true, true, true, true, true, true, true, true, true, true, true, true, true, true, true, false] : Array Bool) := by kernel_rfl
  rw [e0, l0]
  clear e0 l0
  have hc := st_any (o := ((RofN Try.f83 5)[19]?).getD default) (a := (⟨#[x0, .pointer (some ⟨g, 0, none⟩), .int .i64 3, x3, x4, x5, x6, x7, x8, x9, x10, x11, x12, x13, .int .i64 3, .int .i64 3, .int .i64 2, .pointer (some ⟨g, 6, none⟩), (clV 7 92 hq7), .int .i64 124, .int .i64 3, .pointer (some ⟨g, 9, none⟩), .pointer (some ⟨g, 9, none⟩), .int .i64 8, .int .i64 3, .int .i64 2, .pointer (some ⟨g, 6, none⟩), .pointer (some ⟨g, 6, none⟩), .int .i64 7, .int .i64 1, .int .i64 248, .pointer (some ⟨g, 9, none⟩), .pointer (some ⟨g, 10, none⟩), x33], []⟩ : Act)) (w := w2) 3 (.tmp 32) (.tmp 30) g 10 (by kernel_rfl) (by kernel_rfl) (by kernel_rfl) (sv_int (v := 248) (hd w2 q2').1 (hd w2 q2').2)
  refine wpAnyH_one (i := 19) (by kernel_rfl) ?_
  refine wpOp_skip none (by kernel_rfl) (by kernel_rfl) (by kernel_rfl) hc ?_
  clear hc
  refine ⟨hS2.set _, ?_⟩
  have e0 : (⟨#[x0, .pointer (some ⟨g, 0, none⟩), .int .i64 3, x3, x4, x5, x6, x7, x8, x9, x10, x11, x12, x13, .int .i64 3, .int .i64 3, .int .i64 2, .pointer (some ⟨g, 6, none⟩), (clV 7 92 hq7), .int .i64 124, .int .i64 3, .pointer (some ⟨g, 9, none⟩), .pointer (some ⟨g, 9, none⟩), .int .i64 8, .int .i64 3, .int .i64 2, .pointer (some ⟨g, 6, none⟩), .pointer (some ⟨g, 6, none⟩), .int .i64 7, .int .i64 1, .int .i64 248, .pointer (some ⟨g, 9, none⟩), .pointer (some ⟨g, 10, none⟩), x33], []⟩ : Act).put none undef = (⟨#[x0, .pointer (some ⟨g, 0, none⟩), .int .i64 3, x3, x4, x5, x6, x7, x8, x9, x10, x11, x12, x13, .int .i64 3, .int .i64 3, .int .i64 2, .pointer (some ⟨g, 6, none⟩), (clV 7 92 hq7), .int .i64 124, .int .i64 3, .pointer (some ⟨g, 9, none⟩), .pointer (some ⟨g, 9, none⟩), .int .i64 8, .int .i64 3, .int .i64 2, .pointer (some ⟨g, 6, none⟩), .pointer (some ⟨g, 6, none⟩), .int .i64 7, .int .i64 1, .int .i64 248, .pointer (some ⟨g, 9, none⟩), .pointer (some ⟨g, 10, none⟩), x33], []⟩ : Act) := by kernel_rfl
  have l0 : (#[true, true, true, true, true, true, true, true, true, true, true, true, true, true, true, true, true, true, true, false] : Array Bool).setIfInBounds 19 true = (#[true, true, true, true, true, true, true, true, true, true, true, true, true, true, true, true, true, true, true, true] : Array Bool) := by kernel_rfl
  rw [e0, l0]
  clear e0 l0
  refine wpAnyH_done (by kernel_rfl) ?_ _
  exact h w2 q2'
def y4 (g : Nat) : List (Nat × Value) := [(0, .int .i64 4), (1, .int .i64 4), (6, .int .i64 4), (10, .int .i64 4), (2, .int .i64 3), (3, .pointer (some ⟨g, 9, none⟩)), (4, (clV 8 248 hq8)), (7, .pointer (some ⟨g, 12, none⟩)), (8, .pointer (some ⟨g, 12, none⟩)), (9, .int .i64 15), (11, .int .i64 3), (12, .pointer (some ⟨g, 9, none⟩)), (13, .pointer (some ⟨g, 9, none⟩)), (14, .int .i64 8), (15, .int .i64 7)]
set_option maxHeartbeats 4000000 in
theorem g4 (g : Nat) {x0 x3 x4 x5 x6 x7 x8 x9 x10 x11 x12 x13 x14 x15 x16 x17 x18 x19 x20 x21 x22 x23 x24 x25 x26 x27 x28 x29 x30 x31 x32 x33 : Value} : Chn Try.prog (RofN Try.f83 5) (SC g 3 8 248 hq8 15) (y4 g) (#[false, false, false, false, false, false, false, false, false, false, false, false, false, false, false, false, false, false, false, false] : Array Bool) (⟨#[x0, .pointer (some ⟨g, 0, none⟩), .int .i64 4, x3, x4, x5, x6, x7, x8, x9, x10, x11, x12, x13, x14, x15, x16, x17, x18, x19, x20, x21, x22, x23, x24, x25, x26, x27, x28, x29, x30, x31, x32, x33], []⟩ : Act) :=
  ⟨⟨by kernel_rfl, by kernel_rfl, by kernel_rfl, by kernel_rfl, fun w h => by kernel_rfl⟩,
    ⟨by kernel_rfl, by kernel_rfl, by kernel_rfl, by kernel_rfl, fun w h => by kernel_rfl⟩,
    ⟨by kernel_rfl, by kernel_rfl, by kernel_rfl, by kernel_rfl, fun w h => by kernel_rfl⟩,
    ⟨by kernel_rfl, by kernel_rfl, by kernel_rfl, by kernel_rfl, fun w h => by kernel_rfl⟩,
    ⟨by kernel_rfl, by kernel_rfl, by kernel_rfl, by kernel_rfl, fun w h => by kernel_rfl⟩,
    ⟨by kernel_rfl, by kernel_rfl, by kernel_rfl, by kernel_rfl, fun w h => by kernel_rfl⟩,
    ⟨by kernel_rfl, by kernel_rfl, by kernel_rfl, by kernel_rfl, fun w h => ld_any 124 (.tmp 17) g 9 (by kernel_rfl) (by kernel_rfl) (ld_cls h)⟩,
    ⟨by kernel_rfl, by kernel_rfl, by kernel_rfl, by kernel_rfl, fun w h => by kernel_rfl⟩,
    ⟨by kernel_rfl, by kernel_rfl, by kernel_rfl, by kernel_rfl, fun w h => by kernel_rfl⟩,
    ⟨by kernel_rfl, by kernel_rfl, by kernel_rfl, by kernel_rfl, fun w h => ld_any 3 (.tmp 22) g 12 (by kernel_rfl) (by kernel_rfl) (ld_int h.c3)⟩,
    ⟨by kernel_rfl, by kernel_rfl, by kernel_rfl, by kernel_rfl, fun w h => by kernel_rfl⟩,
    ⟨by kernel_rfl, by kernel_rfl, by kernel_rfl, by kernel_rfl, fun w h => by kernel_rfl⟩,
    ⟨by kernel_rfl, by kernel_rfl, by kernel_rfl, by kernel_rfl, fun w h => by kernel_rfl⟩,
    ⟨by kernel_rfl, by kernel_rfl, by kernel_rfl, by kernel_rfl, fun w h => ld_any 3 (.tmp 27) g 9 (by kernel_rfl) (by kernel_rfl) (ld_int h.c0)⟩,
    ⟨by kernel_rfl, by kernel_rfl, by kernel_rfl, by kernel_rfl, fun w h => by kernel_rfl⟩,
    trivial⟩
set_option maxHeartbeats 8000000 in
theorem rg5_4 (g : Nat) {x0 x3 x4 x5 x6 x7 x8 x9 x10 x11 x12 x13 x14 x15 x16 x17 x18 x19 x20 x21 x22 x23 x24 x25 x26 x27 x28 x29 x30 x31 x32 x33 : Value} (w : World) (R : Exit → Act → World → Prop) (hQ : ∀ c a d v w, R (.panic c) (a.put d v) w → R (.panic c) a w) (hS : (SC g 3 8 248 hq8 15) w) {u : Value} (hd : ∀ w2, Q w w2 → w2.cell? ⟨g, 13, none⟩ = some u ∧ w2.frozen? ⟨g, 13, none⟩ = false)
    (h : ∀ w2, Q w w2 → R .normal (⟨#[x0, .pointer (some ⟨g, 0, none⟩), .int .i64 4, x3, x4, x5, x6, x7, x8, x9, x10, x11, x12, x13, .int .i64 4, .int .i64 4, .int .i64 3, .pointer (some ⟨g, 9, none⟩), (clV 8 248 hq8), .int .i64 254, .int .i64 4, .pointer (some ⟨g, 12, none⟩), .pointer (some ⟨g, 12, none⟩), .int .i64 15, .int .i64 4, .int .i64 3, .pointer (some ⟨g, 9, none⟩), .pointer (some ⟨g, 9, none⟩), .int .i64 8, .int .i64 7, .int .i64 32512, .pointer (some ⟨g, 12, none⟩), .pointer (some ⟨g, 13, none⟩), x33], []⟩ : Act) (w2.setCell ⟨g, 13, none⟩ (.int .i64 32512))) :
    (Code.region 5 (RofN Try.f83 5) true).wp Try.prog R (⟨#[x0, .pointer (some ⟨g, 0, none⟩), .int .i64 4, x3, x4, x5, x6, x7, x8, x9, x10, x11, x12, x13, x14, x15, x16, x17, x18, x19, x20, x21, x22, x23, x24, x25, x26, x27, x28, x29, x30, x31, x32, x33], []⟩ : Act) w := by
  refine wp_region_held (S := (SC g 3 8 248 hq8 15)) (by kernel_rfl) ?_
  have hsz : (RofN Try.f83 5).size = 20 := by kernel_rfl
  rw [hsz]
  have hS0 : (SC g 3 8 248 hq8 15) w.drew := ⟨hS.c0, hS.c1, hS.c2, hS.c3⟩
  refine chn_take (by kernel_rfl) hQ hS0 5 (y4 g) _ _ (g4 g) ?_
  have e0 : putL (RofN Try.f83 5) (y4 g) (⟨#[x0, .pointer (some ⟨g, 0, none⟩), .int .i64 4, x3, x4, x5, x6, x7, x8, x9, x10, x11, x12, x13, x14, x15, x16, x17, x18, x19, x20, x21, x22, x23, x24, x25, x26, x27, x28, x29, x30, x31, x32, x33], []⟩ : Act) = (⟨#[x0, .pointer (some ⟨g, 0, none⟩), .int .i64 4, x3, x4, x5, x6, x7, x8, x9, x10, x11, x12, x13, .int .i64 4, .int .i64 4, .int .i64 3, .pointer (some ⟨g, 9, none⟩), (clV 8 248 hq8), x19, .int .i64 4, .pointer (some ⟨g, 12, none⟩), .pointer (some ⟨g, 12, none⟩), .int .i64 15, .int .i64 4, .int .i64 3, .pointer (some ⟨g, 9, none⟩), .pointer (some ⟨g, 9, none⟩), .int .i64 8, .int .i64 7, x30, x31, x32, x33], []⟩ : Act) := by kernel_rfl
  have l0 : setL (y4 g) (Array.replicate 20 false) = (#[true, true, true, true, true, false, true, true, true, true, true, true, true, true, true, true, false, false, false, false] : Array Bool) := by kernel_rfl
  rw [e0, l0]
  clear e0 l0
  refine wpAnyH_one (i := 5) (by kernel_rfl) ?_
  refine wpOp_call (some 19) (by kernel_rfl) (by kernel_rfl) (by kernel_rfl) 95 #[(clV 8 248 hq8)] (by kernel_rfl) (behind_any 8 248 hq8 254 _ (by decide) (by decide) (by decide) (by decide)) (.int .i64 254) ?_
  rintro e w2 ⟨rfl, q2⟩
  have q2' : Q w w2 := q2.ofDrew
  refine ⟨rfl, hS0.q q2, ?_⟩
  have hS2 := hS.q q2'
  clear q2
  have e0 : (⟨#[x0, .pointer (some ⟨g, 0, none⟩), .int .i64 4, x3, x4, x5, x6, x7, x8, x9, x10, x11, x12, x13, .int .i64 4, .int .i64 4, .int .i64 3, .pointer (some ⟨g, 9, none⟩), (clV 8 248 hq8), x19, .int .i64 4, .pointer (some ⟨g, 12, none⟩), .pointer (some ⟨g, 12, none⟩), .int .i64 15, .int .i64 4, .int .i64 3, .pointer (some ⟨g, 9, none⟩), .pointer (some ⟨g, 9, none⟩), .int .i64 8, .int .i64 7, x30, x31, x32, x33], []⟩ : Act).put (some 19) (.int .i64 254) = (⟨#[x0, .pointer (some ⟨g, 0, none⟩), .int .i64 4, x3, x4, x5, x6, x7, x8, x9, x10, x11, x12, x13, .int .i64 4, .int .i64 4, .int .i64 3, .pointer (some ⟨g, 9, none⟩), (clV 8 248 hq8), .int .i64 254, .int .i64 4, .pointer (some ⟨g, 12, none⟩), .pointer (some ⟨g, 12, none⟩), .int .i64 15, .int .i64 4, .int .i64 3, .pointer (some ⟨g, 9, none⟩), .pointer (some ⟨g, 9, none⟩), .int .i64 8, .int .i64 7, x30, x31, x32, x33], []⟩ : Act) := by kernel_rfl
  have l0 : (#[true, true, true, true, true, false, true, true, true, true, true, true, true, true, true, true, false, false, false, false] : Array Bool).setIfInBounds 5 true = (#[true, true, true, true, true, true, true, true, true, true, true, true, true, true, true, true, false, false, false, false] : Array Bool) := by kernel_rfl
  rw [e0, l0]
  clear e0 l0
  refine wpAnyH_one (i := 16) (by kernel_rfl) ?_
  refine wpOp_val (w' := w2) (v := .int .i64 32512) (some 30) (by kernel_rfl) (by kernel_rfl) (by kernel_rfl) (by kernel_rfl) ?_
  refine ⟨hS2, ?_⟩
  have e0 : (⟨#[x0, .pointer (some ⟨g, 0, none⟩), .int .i64 4, x3, x4, x5, x6, x7, x8, x9, x10, x11, x12, x13, .int .i64 4, .int .i64 4, .int .i64 3, .pointer (some ⟨g, 9, none⟩), (clV 8 248 hq8), .int .i64 254, .int .i64 4, .pointer (some ⟨g, 12, none⟩), .pointer (some ⟨g, 12, none⟩), .int .i64 15, .int .i64 4, .int .i64 3, .pointer (some ⟨g, 9, none⟩), .pointer (some ⟨g, 9, none⟩), .int .i64 8, .int .i64 7, x30, x31, x32, x33], []⟩ : Act).put (some 30) (.int .i64 32512) = (⟨#[x0, .pointer (some ⟨g, 0, none⟩), .int .i64 4, x3, x4, x5, x6, x7, x8, x9, x10, x11, x12, x13, .int .i64 4, .int .i64 4, .int .i64 3, .pointer (some ⟨g, 9, none⟩), (clV 8 248 hq8), .int .i64 254, .int .i64 4, .pointer (some ⟨g, 12, none⟩), .pointer (some ⟨g, 12, none⟩), .int .i64 15, .int .i64 4, .int .i64 3, .pointer (some ⟨g, 9, none⟩), .pointer (some ⟨g, 9, none⟩), .int .i64 8, .int .i64 7, .int .i64 32512, x31, x32, x33], []⟩ : Act) := by kernel_rfl
  have l0 : (#[true, true, true, true, true, true, true, true, true, true, true, true, true, true, true, true, false, false, false, false] : Array Bool).setIfInBounds 16 true = (#[true, true, true, true, true, true, true, true, true, true, true, true, true, true, true, true, true, false, false, false] : Array Bool) := by kernel_rfl
  rw [e0, l0]
  clear e0 l0
  refine wpAnyH_one (i := 17) (by kernel_rfl) ?_
  refine wpOp_val (w' := w2) (v := .pointer (some ⟨g, 12, none⟩)) (some 31) (by kernel_rfl) (by kernel_rfl) (by kernel_rfl) (by kernel_rfl) ?_
  refine ⟨hS2, ?_⟩
  have e0 : (⟨#[x0, .pointer (some ⟨g, 0, none⟩), .int .i64 4, x3, x4, x5, x6, x7, x8, x9, x10, x11, x12, x13, .int .i64 4, .int .i64 4, .int .i64 3, .pointer (some ⟨g, 9, none⟩), (clV 8 248 hq8), .int .i64 254, .int .i64 4, .pointer (some ⟨g, 12, none⟩), .pointer (some ⟨g, 12, none⟩), .int .i64 15, .int .i64 4, .int .i64 3, .pointer (some ⟨g, 9, none⟩), .pointer (some ⟨g, 9, none⟩), .int .i64 8, .int .i64 7, .int .i64 32512, x31, x32, x33], []⟩ : Act).put (some 31) (.pointer (some ⟨g, 12, none⟩)) = (⟨#[x0, .pointer (some ⟨g, 0, none⟩), .int .i64 4, x3, x4, x5, x6, x7, x8, x9, x10, x11, x12, x13, .int .i64 4, .int .i64 4, .int .i64 3, .pointer (some ⟨g, 9, none⟩), (clV 8 248 hq8), .int .i64 254, .int .i64 4, .pointer (some ⟨g, 12, none⟩), .pointer (some ⟨g, 12, none⟩), .int .i64 15, .int .i64 4, .int .i64 3, .pointer (some ⟨g, 9, none⟩), .pointer (some ⟨g, 9, none⟩), .int .i64 8, .int .i64 7, .int .i64 32512, .pointer (some ⟨g, 12, none⟩), x32, x33], []⟩ : Act) := by kernel_rfl
  have l0 : (#[true, true, true, true, true, true, true, true, true, true, true, true, true, true, true, true, true, false, false, false] : Array Bool).setIfInBounds 17 true = (#[true, true, true, true, true, true, true, true, true, true, true, true, true, true, true, true, true, true, false, false] : Array Bool) := by kernel_rfl
  rw [e0, l0]
  clear e0 l0
  refine wpAnyH_one (i := 18) (by kernel_rfl) ?_
  refine wpOp_val (w' := w2) (v := .pointer (some ⟨g, 13, none⟩)) (some 32) (by kernel_rfl) (by kernel_rfl) (by kernel_rfl) (by kernel_rfl) ?_
  refine ⟨hS2, ?_⟩
  have e0 : (⟨#[x0, .pointer (some ⟨g, 0, none⟩), .int .i64 4, x3, x4, x5, x6, x7, x8, x9, x10, x11, x12, x13, .int .i64 4, .int .i64 4, .int .i64 3, .pointer (some ⟨g, 9, none⟩), (clV 8 248 hq8), .int .i64 254, .int .i64 4, .pointer (some ⟨g, 12, none⟩), .pointer (some ⟨g, 12, none⟩), .int .i64 15, .int .i64 4, .int .i64 3, .pointer (some ⟨g, 9, none⟩), .pointer (some ⟨g, 9, none⟩), .int .i64 8, .int .i64 7, .int .i64 32512, .pointer (some ⟨g, 12, none⟩), x32, x33], []⟩ : Act).put (some 32) (.pointer (some ⟨g, 13, none⟩)) = (⟨#[x0, .pointer (some ⟨g, 0, none⟩), .int .i64 4, x3, x4, x5, x6, x7, x8, x9, x10, x11, x12, x13, .int .i64 4, .int .i64 4, .int .i64 3, .pointer (some ⟨g, 9, none⟩), (clV 8 248 hq8), .int .i64 254, .int .i64 4, .pointer (some ⟨g, 12, none⟩), .pointer (some ⟨g, 12, none⟩), .int .i64 15, .int .i64 4, .int .i64 3, .pointer (some ⟨g, 9, none⟩), .pointer (some ⟨g, 9, none⟩), .int .i64 8, .int .i64 7, .int .i64 32512, .pointer (some ⟨g, 12, none⟩), .pointer (some ⟨g, 13, none⟩), x33], []⟩ : Act) := by kernel_rfl
  have l0 : (#[true, true, true, true, true, true, true, true, true, true, true, true, true, true, true, true, true, true, false, false] : Array Bool).setIfInBounds 18 true = (#[true, true, true, true, true, true, true, true, true, true, true, true, true, true, true, true, true, true, true, false] : Array Bool) := by kernel_rfl
  rw [e0, l0]
  clear e0 l0
  have hc := st_any (o := ((RofN Try.f83 5)[19]?).getD default) (a := (⟨#[x0, .pointer (some ⟨g, 0, none⟩), .int .i64 4, x3, x4, x5, x6, x7, x8, x9, x10, x11, x12, x13, .int .i64 4, .int .i64 4, .int .i64 3, .pointer (some ⟨g, 9, none⟩), (clV 8 248 hq8), .int .i64 254, .int .i64 4, .pointer (some ⟨g, 12, none⟩), .pointer (some ⟨g, 12, none⟩), .int .i64 15, .int .i64 4, .int .i64 3, .pointer (some ⟨g, 9, none⟩), .pointer (some ⟨g, 9, none⟩), .int .i64 8, .int .i64 7, .int .i64 32512, .pointer (some ⟨g, 12, none⟩), .pointer (some ⟨g, 13, none⟩), x33], []⟩ : Act)) (w := w2) 3 (.tmp 32) (.tmp 30) g 13 (by kernel_rfl) (by kernel_rfl) (by kernel_rfl) (sv_int (v := 32512) (hd w2 q2').1 (hd w2 q2').2)
  refine wpAnyH_one (i := 19) (by kernel_rfl) ?_
  refine wpOp_skip none (by kernel_rfl) (by kernel_rfl) (by kernel_rfl) hc ?_
  clear hc
  refine ⟨hS2.set _, ?_⟩
  have e0 : (⟨#[x0, .pointer (some ⟨g, 0, none⟩), .int .i64 4, x3, x4, x5, x6, x7, x8, x9, x10, x11, x12, x13, .int .i64 4, .int .i64 4, .int .i64 3, .pointer (some ⟨g, 9, none⟩), (clV 8 248 hq8), .int .i64 254, .int .i64 4, .pointer (some ⟨g, 12, none⟩), .pointer (some ⟨g, 12, none⟩), .int .i64 15, .int .i64 4, .int .i64 3, .pointer (some ⟨g, 9, none⟩), .pointer (some ⟨g, 9, none⟩), .int .i64 8, .int .i64 7, .int .i64 32512, .pointer (some ⟨g, 12, none⟩), .pointer (some ⟨g, 13, none⟩), x33], []⟩ : Act).put none undef = (⟨#[x0, .pointer (some ⟨g, 0, none⟩), .int .i64 4, x3, x4, x5, x6, x7, x8, x9, x10, x11, x12, x13, .int .i64 4, .int .i64 4, .int .i64 3, .pointer (some ⟨g, 9, none⟩), (clV 8 248 hq8), .int .i64 254, .int .i64 4, .pointer (some ⟨g, 12, none⟩), .pointer (some ⟨g, 12, none⟩), .int .i64 15, .int .i64 4, .int .i64 3, .pointer (some ⟨g, 9, none⟩), .pointer (some ⟨g, 9, none⟩), .int .i64 8, .int .i64 7, .int .i64 32512, .pointer (some ⟨g, 12, none⟩), .pointer (some ⟨g, 13, none⟩), x33], []⟩ : Act) := by kernel_rfl
  have l0 : (#[true, true, true, true, true, true, true, true, true, true, true, true, true, true, true, true, true, true, true, false] : Array Bool).setIfInBounds 19 true = (#[true, true, true, true, true, true, true, true, true, true, true, true, true, true, true, true, true, true, true, true] : Array Bool) := by kernel_rfl
  rw [e0, l0]
  clear e0 l0
  refine wpAnyH_done (by kernel_rfl) ?_ _
  exact h w2 q2'
end Go.Proofs.Ytehejibllkmflaa
