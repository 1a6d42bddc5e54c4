/-
  A side that has failed stays so: whatever is said to it besides, it gives the same error, and it says nothing more. Every Config, all that is said ahead and behind.
-/
import Derived.Test.YtekpepnonhbkcaaMgD
import Derived.ProofKit
import Derived.OpenShut
import Derived.ChangeOld
import Derived.SizedLaws
import Derived.SliceStrings
import Derived.Deep.Slices
import Derived.Deep.SlicePairs
import Derived.Test.YtekpepnonhbkcaaRows

/-
  The drawn region of shake's takeBytes, gone through by hand, a lemma a state.
-/
namespace Go.Proofs.Ytekpepnonhbkcaa
open Go.RowKit
set_option linter.unusedVariables false
set_option maxRecDepth 20000

theorem run_sl {o : Oper} {a : Act} {w : World} (x y : Operand) (xv : Sv) (yv v : Value) (ho : o.op = .slice 24 x none (some y) none) (hx : a.eval x = .slice xv.a xv.n xv.c) (hy : a.eval y = yv) (hr : (Instr.slice 24 (.slice xv.a xv.n xv.c) none (some yv) none).run Try.prog w = .ok v w) : (execOp a.eval o).run Try.prog w = .ok (.value v) w := by
  unfold execOp
  simp [ho, hx, hy, Instr.sliceAt, hr, Result.andThen]
def tb7g0z (sb m : Nat) (k d y x : Sv) (w1 : World)  : List (Nat × Value) := [(0, .pointer (some ⟨sb, 0, none⟩)), (1, .pointer (some ⟨sb, 0, none⟩)), (5, .slice d.a d.n d.c), (6, .int .i64 (m : Int)), (2, .pointer (some ⟨sb, 0, none⟩)), (7, .slice y.a y.n y.c), (3, .pointer (some ⟨sb, 37, none⟩))]
set_option maxHeartbeats 8000000 in
theorem tb7g0 (sb m : Nat) (k d y x : Sv) (w1 : World)  {x1 x3 x4 x5 x6 x8 x9 x10 x11 x12 x13 x14 x15 x16 x17 x18 x19 x20 x21 x22 x23 x24 x25 x26 x27 x28 x29 x30 x31 x32 x33 x34 x35 x36 x37 x38 x39 x40 x41 x42 x43 x44 x45 x46 : Value} (w : World) (c37 : w.drew.cell? ⟨sb, 37, none⟩ = some (.slice k.a k.n k.c)) (hsl : ∀ u, (Instr.slice 24 (.slice d.a d.n d.c) none (some (.int .i64 (m : Int))) none).run Try.prog u = .ok (.slice y.a y.n y.c) u) (hap : (Builtin.append_ #[24, 24] 24 #[.slice k.a k.n k.c, .slice y.a y.n y.c]).run Try.prog w.drew = .ok (.slice x.a x.n x.c) w1) (d37 : w1.cell? ⟨sb, 37, none⟩ = some (.slice k.a k.n k.c)) (f37 : w1.frozen? ⟨sb, 37, none⟩ = false) : Chn Try.prog (RofN Try.f28 7) (fun _ => True) (tb7g0z sb m k d y x w1 ) (#[false, false, false, false, false, false, false, false, false, false, false, false] : Array Bool) (⟨#[.pointer (some ⟨sb, 0, none⟩), x1, .slice d.a d.n d.c, x3, x4, x5, x6, .int .i64 (m : Int), x8, x9, x10, x11, x12, x13, x14, x15, x16, x17, x18, x19, x20, x21, x22, x23, x24, x25, x26, x27, x28, x29, x30, x31, x32, x33, x34, x35, x36, x37, x38, x39, x40, x41, x42, x43, x44, x45, x46], []⟩ : Act) :=
  ⟨⟨by kernel_rfl, by kernel_rfl, by kernel_rfl, by kernel_rfl, fun u h => by kernel_rfl⟩,
    ⟨by kernel_rfl, by kernel_rfl, by kernel_rfl, by kernel_rfl, fun u h => by kernel_rfl⟩,
    ⟨by kernel_rfl, by kernel_rfl, by kernel_rfl, by kernel_rfl, fun u h => by kernel_rfl⟩,
    ⟨by kernel_rfl, by kernel_rfl, by kernel_rfl, by kernel_rfl, fun u h => by kernel_rfl⟩,
    ⟨by kernel_rfl, by kernel_rfl, by kernel_rfl, by kernel_rfl, fun u h => by kernel_rfl⟩,
    ⟨by kernel_rfl, by kernel_rfl, by kernel_rfl, by kernel_rfl, fun u h => run_sl (.tmp 33) (.tmp 34) d _ _ (by kernel_rfl) (by kernel_rfl) (by kernel_rfl) (hsl u)⟩,
    ⟨by kernel_rfl, by kernel_rfl, by kernel_rfl, by kernel_rfl, fun u h => by kernel_rfl⟩,
    trivial⟩
def tb7g1z (sb m : Nat) (k d y x : Sv) (w1 : World)   : List (Nat × Value) := [(9, .pointer (some ⟨sb, 0, none⟩)), (10, .pointer (some ⟨sb, 37, none⟩))]
set_option maxHeartbeats 8000000 in
theorem tb7g1 (sb m : Nat) (k d y x : Sv) (w1 : World)   {x1 x3 x4 x5 x6 x8 x9 x10 x11 x12 x13 x14 x15 x16 x17 x18 x19 x20 x21 x22 x23 x24 x25 x26 x27 x37 x38 x39 x40 x41 x42 x43 x44 x45 x46 : Value} (w : World) (c37 : w.drew.cell? ⟨sb, 37, none⟩ = some (.slice k.a k.n k.c)) (hsl : ∀ u, (Instr.slice 24 (.slice d.a d.n d.c) none (some (.int .i64 (m : Int))) none).run Try.prog u = .ok (.slice y.a y.n y.c) u) (hap : (Builtin.append_ #[24, 24] 24 #[.slice k.a k.n k.c, .slice y.a y.n y.c]).run Try.prog w.drew = .ok (.slice x.a x.n x.c) w1) (d37 : w1.cell? ⟨sb, 37, none⟩ = some (.slice k.a k.n k.c)) (f37 : w1.frozen? ⟨sb, 37, none⟩ = false) : Chn Try.prog (RofN Try.f28 7) (fun _ => True) (tb7g1z sb m k d y x w1 ) (#[true, true, true, true, true, true, true, true, true, false, false, false] : Array Bool) (⟨#[.pointer (some ⟨sb, 0, none⟩), x1, .slice d.a d.n d.c, x3, x4, x5, x6, .int .i64 (m : Int), x8, x9, x10, x11, x12, x13, x14, x15, x16, x17, x18, x19, x20, x21, x22, x23, x24, x25, x26, x27, .pointer (some ⟨sb, 0, none⟩), .pointer (some ⟨sb, 0, none⟩), .pointer (some ⟨sb, 0, none⟩), .pointer (some ⟨sb, 37, none⟩), .slice k.a k.n k.c, .slice d.a d.n d.c, .int .i64 (m : Int), .slice y.a y.n y.c, .slice x.a x.n x.c, x37, x38, x39, x40, x41, x42, x43, x44, x45, x46], []⟩ : Act) :=
  ⟨⟨by kernel_rfl, by kernel_rfl, by kernel_rfl, by kernel_rfl, fun u h => by kernel_rfl⟩,
    ⟨by kernel_rfl, by kernel_rfl, by kernel_rfl, by kernel_rfl, fun u h => by kernel_rfl⟩,
    trivial⟩
set_option maxHeartbeats 16000000 in
theorem tb7_4_8_11 (sb m : Nat) (k d y x : Sv) (w1 : World)    {x1 x3 x4 x5 x6 x8 x9 x10 x11 x12 x13 x14 x15 x16 x17 x18 x19 x20 x21 x22 x23 x24 x25 x26 x27 x39 x40 x41 x42 x43 x44 x45 x46 : Value} (w : World) (R : Exit → Act → World → Prop) (hQ : ∀ c a d v w, R (.panic c) (a.put d v) w → R (.panic c) a w) (c37 : w.drew.cell? ⟨sb, 37, none⟩ = some (.slice k.a k.n k.c)) (hsl : ∀ u, (Instr.slice 24 (.slice d.a d.n d.c) none (some (.int .i64 (m : Int))) none).run Try.prog u = .ok (.slice y.a y.n y.c) u) (hap : (Builtin.append_ #[24, 24] 24 #[.slice k.a k.n k.c, .slice y.a y.n y.c]).run Try.prog w.drew = .ok (.slice x.a x.n x.c) w1) (d37 : w1.cell? ⟨sb, 37, none⟩ = some (.slice k.a k.n k.c)) (f37 : w1.frozen? ⟨sb, 37, none⟩ = false)
    (h : R .normal (⟨#[.pointer (some ⟨sb, 0, none⟩), x1, .slice d.a d.n d.c, x3, x4, x5, x6, .int .i64 (m : Int), x8, x9, x10, x11, x12, x13, x14, x15, x16, x17, x18, x19, x20, x21, x22, x23, x24, x25, x26, x27, .pointer (some ⟨sb, 0, none⟩), .pointer (some ⟨sb, 0, none⟩), .pointer (some ⟨sb, 0, none⟩), .pointer (some ⟨sb, 37, none⟩), .slice k.a k.n k.c, .slice d.a d.n d.c, .int .i64 (m : Int), .slice y.a y.n y.c, .slice x.a x.n x.c, .pointer (some ⟨sb, 0, none⟩), .pointer (some ⟨sb, 37, none⟩), x39, x40, x41, x42, x43, x44, x45, x46], []⟩ : Act) (w1.setCell ⟨sb, 37, none⟩ (.slice x.a x.n x.c))) (u : World) (hS : (fun _ => True) u) (hz : u = w1.setCell ⟨sb, 37, none⟩ (.slice x.a x.n x.c)) :
    wpAnyH Try.prog .any (RofN Try.f28 7) R (fun _ => True) 0 (#[true, true, true, true, true, true, true, true, true, true, true, true] : Array Bool) (⟨#[.pointer (some ⟨sb, 0, none⟩), x1, .slice d.a d.n d.c, x3, x4, x5, x6, .int .i64 (m : Int), x8, x9, x10, x11, x12, x13, x14, x15, x16, x17, x18, x19, x20, x21, x22, x23, x24, x25, x26, x27, .pointer (some ⟨sb, 0, none⟩), .pointer (some ⟨sb, 0, none⟩), .pointer (some ⟨sb, 0, none⟩), .pointer (some ⟨sb, 37, none⟩), .slice k.a k.n k.c, .slice d.a d.n d.c, .int .i64 (m : Int), .slice y.a y.n y.c, .slice x.a x.n x.c, .pointer (some ⟨sb, 0, none⟩), .pointer (some ⟨sb, 37, none⟩), x39, x40, x41, x42, x43, x44, x45, x46], []⟩ : Act) u := by
  refine wpAnyH_done (by kernel_rfl) ?_ _
  exact hz ▸ h
set_option maxHeartbeats 16000000 in
theorem tb7_4_8 (sb m : Nat) (k d y x : Sv) (w1 : World)   {x1 x3 x4 x5 x6 x8 x9 x10 x11 x12 x13 x14 x15 x16 x17 x18 x19 x20 x21 x22 x23 x24 x25 x26 x27 x39 x40 x41 x42 x43 x44 x45 x46 : Value} (w : World) (R : Exit → Act → World → Prop) (hQ : ∀ c a d v w, R (.panic c) (a.put d v) w → R (.panic c) a w) (c37 : w.drew.cell? ⟨sb, 37, none⟩ = some (.slice k.a k.n k.c)) (hsl : ∀ u, (Instr.slice 24 (.slice d.a d.n d.c) none (some (.int .i64 (m : Int))) none).run Try.prog u = .ok (.slice y.a y.n y.c) u) (hap : (Builtin.append_ #[24, 24] 24 #[.slice k.a k.n k.c, .slice y.a y.n y.c]).run Try.prog w.drew = .ok (.slice x.a x.n x.c) w1) (d37 : w1.cell? ⟨sb, 37, none⟩ = some (.slice k.a k.n k.c)) (f37 : w1.frozen? ⟨sb, 37, none⟩ = false)
    (h : R .normal (⟨#[.pointer (some ⟨sb, 0, none⟩), x1, .slice d.a d.n d.c, x3, x4, x5, x6, .int .i64 (m : Int), x8, x9, x10, x11, x12, x13, x14, x15, x16, x17, x18, x19, x20, x21, x22, x23, x24, x25, x26, x27, .pointer (some ⟨sb, 0, none⟩), .pointer (some ⟨sb, 0, none⟩), .pointer (some ⟨sb, 0, none⟩), .pointer (some ⟨sb, 37, none⟩), .slice k.a k.n k.c, .slice d.a d.n d.c, .int .i64 (m : Int), .slice y.a y.n y.c, .slice x.a x.n x.c, .pointer (some ⟨sb, 0, none⟩), .pointer (some ⟨sb, 37, none⟩), x39, x40, x41, x42, x43, x44, x45, x46], []⟩ : Act) (w1.setCell ⟨sb, 37, none⟩ (.slice x.a x.n x.c))) (u : World) (hS : (fun _ => True) u) (hv : u = w1) :
    wpAnyH Try.prog .any (RofN Try.f28 7) R (fun _ => True) 1 (#[true, true, true, true, true, true, true, true, true, true, true, false] : Array Bool) (⟨#[.pointer (some ⟨sb, 0, none⟩), x1, .slice d.a d.n d.c, x3, x4, x5, x6, .int .i64 (m : Int), x8, x9, x10, x11, x12, x13, x14, x15, x16, x17, x18, x19, x20, x21, x22, x23, x24, x25, x26, x27, .pointer (some ⟨sb, 0, none⟩), .pointer (some ⟨sb, 0, none⟩), .pointer (some ⟨sb, 0, none⟩), .pointer (some ⟨sb, 37, none⟩), .slice k.a k.n k.c, .slice d.a d.n d.c, .int .i64 (m : Int), .slice y.a y.n y.c, .slice x.a x.n x.c, .pointer (some ⟨sb, 0, none⟩), .pointer (some ⟨sb, 37, none⟩), x39, x40, x41, x42, x43, x44, x45, x46], []⟩ : Act) u := by
  refine wpAnyH_one (i := 11) (by kernel_rfl) ?_
  have hc : (execOp (⟨#[.pointer (some ⟨sb, 0, none⟩), x1, .slice d.a d.n d.c, x3, x4, x5, x6, .int .i64 (m : Int), x8, x9, x10, x11, x12, x13, x14, x15, x16, x17, x18, x19, x20, x21, x22, x23, x24, x25, x26, x27, .pointer (some ⟨sb, 0, none⟩), .pointer (some ⟨sb, 0, none⟩), .pointer (some ⟨sb, 0, none⟩), .pointer (some ⟨sb, 37, none⟩), .slice k.a k.n k.c, .slice d.a d.n d.c, .int .i64 (m : Int), .slice y.a y.n y.c, .slice x.a x.n x.c, .pointer (some ⟨sb, 0, none⟩), .pointer (some ⟨sb, 37, none⟩), x39, x40, x41, x42, x43, x44, x45, x46], []⟩ : Act).eval (((RofN Try.f28 7)[11]?).getD default)).run Try.prog u = .ok .skip (w1.setCell ⟨sb, 37, none⟩ (.slice x.a x.n x.c)) := (by rw [hv]; exact st24 (.tmp 38) (.tmp 36) sb 37 x k (by kernel_rfl) (by kernel_rfl) (by kernel_rfl) d37 f37)
  refine wpOp_skip none (by kernel_rfl) (by kernel_rfl) (by kernel_rfl) hc ?_
  clear hc
  have hS1 : (fun _ => True) (w1.setCell ⟨sb, 37, none⟩ (.slice x.a x.n x.c)) := trivial
  refine ⟨hS1, ?_⟩
  have e1 : (⟨#[.pointer (some ⟨sb, 0, none⟩), x1, .slice d.a d.n d.c, x3, x4, x5, x6, .int .i64 (m : Int), x8, x9, x10, x11, x12, x13, x14, x15, x16, x17, x18, x19, x20, x21, x22, x23, x24, x25, x26, x27, .pointer (some ⟨sb, 0, none⟩), .pointer (some ⟨sb, 0, none⟩), .pointer (some ⟨sb, 0, none⟩), .pointer (some ⟨sb, 37, none⟩), .slice k.a k.n k.c, .slice d.a d.n d.c, .int .i64 (m : Int), .slice y.a y.n y.c, .slice x.a x.n x.c, .pointer (some ⟨sb, 0, none⟩), .pointer (some ⟨sb, 37, none⟩), x39, x40, x41, x42, x43, x44, x45, x46], []⟩ : Act).put none undef = (⟨#[.pointer (some ⟨sb, 0, none⟩), x1, .slice d.a d.n d.c, x3, x4, x5, x6, .int .i64 (m : Int), x8, x9, x10, x11, x12, x13, x14, x15, x16, x17, x18, x19, x20, x21, x22, x23, x24, x25, x26, x27, .pointer (some ⟨sb, 0, none⟩), .pointer (some ⟨sb, 0, none⟩), .pointer (some ⟨sb, 0, none⟩), .pointer (some ⟨sb, 37, none⟩), .slice k.a k.n k.c, .slice d.a d.n d.c, .int .i64 (m : Int), .slice y.a y.n y.c, .slice x.a x.n x.c, .pointer (some ⟨sb, 0, none⟩), .pointer (some ⟨sb, 37, none⟩), x39, x40, x41, x42, x43, x44, x45, x46], []⟩ : Act) := by kernel_rfl
  have l1 : (#[true, true, true, true, true, true, true, true, true, true, true, false] : Array Bool).setIfInBounds 11 true = (#[true, true, true, true, true, true, true, true, true, true, true, true] : Array Bool) := by kernel_rfl
  rw [e1, l1]
  clear e1 l1
  exact tb7_4_8_11 sb m k d y x w1  w R hQ c37 hsl hap d37 f37 h (w1.setCell ⟨sb, 37, none⟩ (.slice x.a x.n x.c)) hS1 (rfl)
set_option maxHeartbeats 16000000 in
theorem tb7_4 (sb m : Nat) (k d y x : Sv) (w1 : World)  {x1 x3 x4 x5 x6 x8 x9 x10 x11 x12 x13 x14 x15 x16 x17 x18 x19 x20 x21 x22 x23 x24 x25 x26 x27 x36 x37 x38 x39 x40 x41 x42 x43 x44 x45 x46 : Value} (w : World) (R : Exit → Act → World → Prop) (hQ : ∀ c a d v w, R (.panic c) (a.put d v) w → R (.panic c) a w) (c37 : w.drew.cell? ⟨sb, 37, none⟩ = some (.slice k.a k.n k.c)) (hsl : ∀ u, (Instr.slice 24 (.slice d.a d.n d.c) none (some (.int .i64 (m : Int))) none).run Try.prog u = .ok (.slice y.a y.n y.c) u) (hap : (Builtin.append_ #[24, 24] 24 #[.slice k.a k.n k.c, .slice y.a y.n y.c]).run Try.prog w.drew = .ok (.slice x.a x.n x.c) w1) (d37 : w1.cell? ⟨sb, 37, none⟩ = some (.slice k.a k.n k.c)) (f37 : w1.frozen? ⟨sb, 37, none⟩ = false)
    (h : R .normal (⟨#[.pointer (some ⟨sb, 0, none⟩), x1, .slice d.a d.n d.c, x3, x4, x5, x6, .int .i64 (m : Int), x8, x9, x10, x11, x12, x13, x14, x15, x16, x17, x18, x19, x20, x21, x22, x23, x24, x25, x26, x27, .pointer (some ⟨sb, 0, none⟩), .pointer (some ⟨sb, 0, none⟩), .pointer (some ⟨sb, 0, none⟩), .pointer (some ⟨sb, 37, none⟩), .slice k.a k.n k.c, .slice d.a d.n d.c, .int .i64 (m : Int), .slice y.a y.n y.c, .slice x.a x.n x.c, .pointer (some ⟨sb, 0, none⟩), .pointer (some ⟨sb, 37, none⟩), x39, x40, x41, x42, x43, x44, x45, x46], []⟩ : Act) (w1.setCell ⟨sb, 37, none⟩ (.slice x.a x.n x.c))) (u : World) (hS : (fun _ => True) u) (hu : u = w.drew) :
    wpAnyH Try.prog .any (RofN Try.f28 7) R (fun _ => True) 4 (#[true, true, true, true, true, true, true, true, false, false, false, false] : Array Bool) (⟨#[.pointer (some ⟨sb, 0, none⟩), x1, .slice d.a d.n d.c, x3, x4, x5, x6, .int .i64 (m : Int), x8, x9, x10, x11, x12, x13, x14, x15, x16, x17, x18, x19, x20, x21, x22, x23, x24, x25, x26, x27, .pointer (some ⟨sb, 0, none⟩), .pointer (some ⟨sb, 0, none⟩), .pointer (some ⟨sb, 0, none⟩), .pointer (some ⟨sb, 37, none⟩), .slice k.a k.n k.c, .slice d.a d.n d.c, .int .i64 (m : Int), .slice y.a y.n y.c, x36, x37, x38, x39, x40, x41, x42, x43, x44, x45, x46], []⟩ : Act) u := by
  refine wpAnyH_one (i := 8) (by kernel_rfl) ?_
  have hc : (execOp (⟨#[.pointer (some ⟨sb, 0, none⟩), x1, .slice d.a d.n d.c, x3, x4, x5, x6, .int .i64 (m : Int), x8, x9, x10, x11, x12, x13, x14, x15, x16, x17, x18, x19, x20, x21, x22, x23, x24, x25, x26, x27, .pointer (some ⟨sb, 0, none⟩), .pointer (some ⟨sb, 0, none⟩), .pointer (some ⟨sb, 0, none⟩), .pointer (some ⟨sb, 37, none⟩), .slice k.a k.n k.c, .slice d.a d.n d.c, .int .i64 (m : Int), .slice y.a y.n y.c, x36, x37, x38, x39, x40, x41, x42, x43, x44, x45, x46], []⟩ : Act).eval (((RofN Try.f28 7)[8]?).getD default)).run Try.prog u = .ok (.value (.slice x.a x.n x.c)) (w1) := (by rw [hu]; exact run_app (.tmp 32) (.tmp 35) (by kernel_rfl) (by kernel_rfl) (by kernel_rfl) (by kernel_rfl) hap)
  refine wpOp_val (some 36) (by kernel_rfl) (by kernel_rfl) (by kernel_rfl) hc ?_
  clear hc
  have hS1 : (fun _ => True) (w1) := trivial
  refine ⟨hS1, ?_⟩
  have e1 : (⟨#[.pointer (some ⟨sb, 0, none⟩), x1, .slice d.a d.n d.c, x3, x4, x5, x6, .int .i64 (m : Int), x8, x9, x10, x11, x12, x13, x14, x15, x16, x17, x18, x19, x20, x21, x22, x23, x24, x25, x26, x27, .pointer (some ⟨sb, 0, none⟩), .pointer (some ⟨sb, 0, none⟩), .pointer (some ⟨sb, 0, none⟩), .pointer (some ⟨sb, 37, none⟩), .slice k.a k.n k.c, .slice d.a d.n d.c, .int .i64 (m : Int), .slice y.a y.n y.c, x36, x37, x38, x39, x40, x41, x42, x43, x44, x45, x46], []⟩ : Act).put (some 36) (.slice x.a x.n x.c) = (⟨#[.pointer (some ⟨sb, 0, none⟩), x1, .slice d.a d.n d.c, x3, x4, x5, x6, .int .i64 (m : Int), x8, x9, x10, x11, x12, x13, x14, x15, x16, x17, x18, x19, x20, x21, x22, x23, x24, x25, x26, x27, .pointer (some ⟨sb, 0, none⟩), .pointer (some ⟨sb, 0, none⟩), .pointer (some ⟨sb, 0, none⟩), .pointer (some ⟨sb, 37, none⟩), .slice k.a k.n k.c, .slice d.a d.n d.c, .int .i64 (m : Int), .slice y.a y.n y.c, .slice x.a x.n x.c, x37, x38, x39, x40, x41, x42, x43, x44, x45, x46], []⟩ : Act) := by kernel_rfl
  have l1 : (#[true, true, true, true, true, true, true, true, false, false, false, false] : Array Bool).setIfInBounds 8 true = (#[true, true, true, true, true, true, true, true, true, false, false, false] : Array Bool) := by kernel_rfl
  rw [e1, l1]
  clear e1 l1
  refine chn_take (by kernel_rfl) hQ hS1 1 (tb7g1z sb m k d y x w1 ) _ _ (tb7g1 sb m k d y x w1  w c37 hsl hap d37 f37) ?_
  have e0 : putL (RofN Try.f28 7) (tb7g1z sb m k d y x w1 ) (⟨#[.pointer (some ⟨sb, 0, none⟩), x1, .slice d.a d.n d.c, x3, x4, x5, x6, .int .i64 (m : Int), x8, x9, x10, x11, x12, x13, x14, x15, x16, x17, x18, x19, x20, x21, x22, x23, x24, x25, x26, x27, .pointer (some ⟨sb, 0, none⟩), .pointer (some ⟨sb, 0, none⟩), .pointer (some ⟨sb, 0, none⟩), .pointer (some ⟨sb, 37, none⟩), .slice k.a k.n k.c, .slice d.a d.n d.c, .int .i64 (m : Int), .slice y.a y.n y.c, .slice x.a x.n x.c, x37, x38, x39, x40, x41, x42, x43, x44, x45, x46], []⟩ : Act) = (⟨#[.pointer (some ⟨sb, 0, none⟩), x1, .slice d.a d.n d.c, x3, x4, x5, x6, .int .i64 (m : Int), x8, x9, x10, x11, x12, x13, x14, x15, x16, x17, x18, x19, x20, x21, x22, x23, x24, x25, x26, x27, .pointer (some ⟨sb, 0, none⟩), .pointer (some ⟨sb, 0, none⟩), .pointer (some ⟨sb, 0, none⟩), .pointer (some ⟨sb, 37, none⟩), .slice k.a k.n k.c, .slice d.a d.n d.c, .int .i64 (m : Int), .slice y.a y.n y.c, .slice x.a x.n x.c, .pointer (some ⟨sb, 0, none⟩), .pointer (some ⟨sb, 37, none⟩), x39, x40, x41, x42, x43, x44, x45, x46], []⟩ : Act) := by kernel_rfl
  have l0 : setL (tb7g1z sb m k d y x w1 ) (#[true, true, true, true, true, true, true, true, true, false, false, false] : Array Bool) = (#[true, true, true, true, true, true, true, true, true, true, true, false] : Array Bool) := by kernel_rfl
  rw [e0, l0]
  clear e0 l0
  exact tb7_4_8 sb m k d y x w1  w R hQ c37 hsl hap d37 f37 h (w1) hS1 (rfl)
set_option maxHeartbeats 16000000 in
theorem tb7_o (sb m : Nat) (k d y x : Sv) (w1 : World)  {x1 x3 x4 x5 x6 x8 x9 x10 x11 x12 x13 x14 x15 x16 x17 x18 x19 x20 x21 x22 x23 x24 x25 x26 x27 x32 x36 x37 x38 x39 x40 x41 x42 x43 x44 x45 x46 : Value} (w : World) (R : Exit → Act → World → Prop) (hQ : ∀ c a d v w, R (.panic c) (a.put d v) w → R (.panic c) a w) (c37 : w.drew.cell? ⟨sb, 37, none⟩ = some (.slice k.a k.n k.c)) (hsl : ∀ u, (Instr.slice 24 (.slice d.a d.n d.c) none (some (.int .i64 (m : Int))) none).run Try.prog u = .ok (.slice y.a y.n y.c) u) (hap : (Builtin.append_ #[24, 24] 24 #[.slice k.a k.n k.c, .slice y.a y.n y.c]).run Try.prog w.drew = .ok (.slice x.a x.n x.c) w1) (d37 : w1.cell? ⟨sb, 37, none⟩ = some (.slice k.a k.n k.c)) (f37 : w1.frozen? ⟨sb, 37, none⟩ = false)
    (h : R .normal (⟨#[.pointer (some ⟨sb, 0, none⟩), x1, .slice d.a d.n d.c, x3, x4, x5, x6, .int .i64 (m : Int), x8, x9, x10, x11, x12, x13, x14, x15, x16, x17, x18, x19, x20, x21, x22, x23, x24, x25, x26, x27, .pointer (some ⟨sb, 0, none⟩), .pointer (some ⟨sb, 0, none⟩), .pointer (some ⟨sb, 0, none⟩), .pointer (some ⟨sb, 37, none⟩), .slice k.a k.n k.c, .slice d.a d.n d.c, .int .i64 (m : Int), .slice y.a y.n y.c, .slice x.a x.n x.c, .pointer (some ⟨sb, 0, none⟩), .pointer (some ⟨sb, 37, none⟩), x39, x40, x41, x42, x43, x44, x45, x46], []⟩ : Act) (w1.setCell ⟨sb, 37, none⟩ (.slice x.a x.n x.c))) (u : World) (hS : (fun _ => True) u) (hu : u = w.drew) :
    wpAnyH Try.prog .any (RofN Try.f28 7) R (fun _ => True) 5 (#[true, true, true, true, false, true, true, true, false, false, false, false] : Array Bool) (⟨#[.pointer (some ⟨sb, 0, none⟩), x1, .slice d.a d.n d.c, x3, x4, x5, x6, .int .i64 (m : Int), x8, x9, x10, x11, x12, x13, x14, x15, x16, x17, x18, x19, x20, x21, x22, x23, x24, x25, x26, x27, .pointer (some ⟨sb, 0, none⟩), .pointer (some ⟨sb, 0, none⟩), .pointer (some ⟨sb, 0, none⟩), .pointer (some ⟨sb, 37, none⟩), x32, .slice d.a d.n d.c, .int .i64 (m : Int), .slice y.a y.n y.c, x36, x37, x38, x39, x40, x41, x42, x43, x44, x45, x46], []⟩ : Act) u := by
  refine wpAnyH_one (i := 4) (by kernel_rfl) ?_
  have hc : (execOp (⟨#[.pointer (some ⟨sb, 0, none⟩), x1, .slice d.a d.n d.c, x3, x4, x5, x6, .int .i64 (m : Int), x8, x9, x10, x11, x12, x13, x14, x15, x16, x17, x18, x19, x20, x21, x22, x23, x24, x25, x26, x27, .pointer (some ⟨sb, 0, none⟩), .pointer (some ⟨sb, 0, none⟩), .pointer (some ⟨sb, 0, none⟩), .pointer (some ⟨sb, 37, none⟩), x32, .slice d.a d.n d.c, .int .i64 (m : Int), .slice y.a y.n y.c, x36, x37, x38, x39, x40, x41, x42, x43, x44, x45, x46], []⟩ : Act).eval (((RofN Try.f28 7)[4]?).getD default)).run Try.prog u = .ok (.value (.slice k.a k.n k.c)) (u) := (by rw [hu]; exact ld_t 24 (.tmp 31) sb 37 (by kernel_rfl) (by kernel_rfl) (ld24' c37))
  refine wpOp_val (some 32) (by kernel_rfl) (by kernel_rfl) (by kernel_rfl) hc ?_
  clear hc
  have hS1 : (fun _ => True) (u) := trivial
  refine ⟨hS1, ?_⟩
  have e1 : (⟨#[.pointer (some ⟨sb, 0, none⟩), x1, .slice d.a d.n d.c, x3, x4, x5, x6, .int .i64 (m : Int), x8, x9, x10, x11, x12, x13, x14, x15, x16, x17, x18, x19, x20, x21, x22, x23, x24, x25, x26, x27, .pointer (some ⟨sb, 0, none⟩), .pointer (some ⟨sb, 0, none⟩), .pointer (some ⟨sb, 0, none⟩), .pointer (some ⟨sb, 37, none⟩), x32, .slice d.a d.n d.c, .int .i64 (m : Int), .slice y.a y.n y.c, x36, x37, x38, x39, x40, x41, x42, x43, x44, x45, x46], []⟩ : Act).put (some 32) (.slice k.a k.n k.c) = (⟨#[.pointer (some ⟨sb, 0, none⟩), x1, .slice d.a d.n d.c, x3, x4, x5, x6, .int .i64 (m : Int), x8, x9, x10, x11, x12, x13, x14, x15, x16, x17, x18, x19, x20, x21, x22, x23, x24, x25, x26, x27, .pointer (some ⟨sb, 0, none⟩), .pointer (some ⟨sb, 0, none⟩), .pointer (some ⟨sb, 0, none⟩), .pointer (some ⟨sb, 37, none⟩), .slice k.a k.n k.c, .slice d.a d.n d.c, .int .i64 (m : Int), .slice y.a y.n y.c, x36, x37, x38, x39, x40, x41, x42, x43, x44, x45, x46], []⟩ : Act) := by kernel_rfl
  have l1 : (#[true, true, true, true, false, true, true, true, false, false, false, false] : Array Bool).setIfInBounds 4 true = (#[true, true, true, true, true, true, true, true, false, false, false, false] : Array Bool) := by kernel_rfl
  rw [e1, l1]
  clear e1 l1
  exact tb7_4 sb m k d y x w1  w R hQ c37 hsl hap d37 f37 h (u) hS1 (hu)
set_option maxHeartbeats 16000000 in
theorem tb7 (sb m : Nat) (k d y x : Sv) (w1 : World) {x1 x3 x4 x5 x6 x8 x9 x10 x11 x12 x13 x14 x15 x16 x17 x18 x19 x20 x21 x22 x23 x24 x25 x26 x27 x28 x29 x30 x31 x32 x33 x34 x35 x36 x37 x38 x39 x40 x41 x42 x43 x44 x45 x46 : Value} (w : World) (R : Exit → Act → World → Prop) (hQ : ∀ c a d v w, R (.panic c) (a.put d v) w → R (.panic c) a w) (c37 : w.drew.cell? ⟨sb, 37, none⟩ = some (.slice k.a k.n k.c)) (hsl : ∀ u, (Instr.slice 24 (.slice d.a d.n d.c) none (some (.int .i64 (m : Int))) none).run Try.prog u = .ok (.slice y.a y.n y.c) u) (hap : (Builtin.append_ #[24, 24] 24 #[.slice k.a k.n k.c, .slice y.a y.n y.c]).run Try.prog w.drew = .ok (.slice x.a x.n x.c) w1) (d37 : w1.cell? ⟨sb, 37, none⟩ = some (.slice k.a k.n k.c)) (f37 : w1.frozen? ⟨sb, 37, none⟩ = false) (hS : (fun _ => True) w)
    (h : R .normal (⟨#[.pointer (some ⟨sb, 0, none⟩), x1, .slice d.a d.n d.c, x3, x4, x5, x6, .int .i64 (m : Int), x8, x9, x10, x11, x12, x13, x14, x15, x16, x17, x18, x19, x20, x21, x22, x23, x24, x25, x26, x27, .pointer (some ⟨sb, 0, none⟩), .pointer (some ⟨sb, 0, none⟩), .pointer (some ⟨sb, 0, none⟩), .pointer (some ⟨sb, 37, none⟩), .slice k.a k.n k.c, .slice d.a d.n d.c, .int .i64 (m : Int), .slice y.a y.n y.c, .slice x.a x.n x.c, .pointer (some ⟨sb, 0, none⟩), .pointer (some ⟨sb, 37, none⟩), x39, x40, x41, x42, x43, x44, x45, x46], []⟩ : Act) (w1.setCell ⟨sb, 37, none⟩ (.slice x.a x.n x.c))) :
    (Code.region 7 (RofN Try.f28 7) true).wp Try.prog R (⟨#[.pointer (some ⟨sb, 0, none⟩), x1, .slice d.a d.n d.c, x3, x4, x5, x6, .int .i64 (m : Int), x8, x9, x10, x11, x12, x13, x14, x15, x16, x17, x18, x19, x20, x21, x22, x23, x24, x25, x26, x27, x28, x29, x30, x31, x32, x33, x34, x35, x36, x37, x38, x39, x40, x41, x42, x43, x44, x45, x46], []⟩ : Act) w := by
  refine wp_region_held (S := (fun _ => True)) (by kernel_rfl) ?_
  have hsz : (RofN Try.f28 7).size = 12 := by kernel_rfl
  rw [hsz]
  have hS0 : (fun _ => True) w.drew := tc11_q hS (show KU w w.drew from trivial)
  refine chn_take (by kernel_rfl) hQ hS0 5 (tb7g0z sb m k d y x w1 ) _ _ (tb7g0 sb m k d y x w1  w c37 hsl hap d37 f37) ?_
  have e0 : putL (RofN Try.f28 7) (tb7g0z sb m k d y x w1 ) (⟨#[.pointer (some ⟨sb, 0, none⟩), x1, .slice d.a d.n d.c, x3, x4, x5, x6, .int .i64 (m : Int), x8, x9, x10, x11, x12, x13, x14, x15, x16, x17, x18, x19, x20, x21, x22, x23, x24, x25, x26, x27, x28, x29, x30, x31, x32, x33, x34, x35, x36, x37, x38, x39, x40, x41, x42, x43, x44, x45, x46], []⟩ : Act) = (⟨#[.pointer (some ⟨sb, 0, none⟩), x1, .slice d.a d.n d.c, x3, x4, x5, x6, .int .i64 (m : Int), x8, x9, x10, x11, x12, x13, x14, x15, x16, x17, x18, x19, x20, x21, x22, x23, x24, x25, x26, x27, .pointer (some ⟨sb, 0, none⟩), .pointer (some ⟨sb, 0, none⟩), .pointer (some ⟨sb, 0, none⟩), .pointer (some ⟨sb, 37, none⟩), x32, .slice d.a d.n d.c, .int .i64 (m : Int), .slice y.a y.n y.c, x36, x37, x38, x39, x40, x41, x42, x43, x44, x45, x46], []⟩ : Act) := by kernel_rfl
  have l0 : setL (tb7g0z sb m k d y x w1 ) (Array.replicate 12 false) = (#[true, true, true, true, false, true, true, true, false, false, false, false] : Array Bool) := by kernel_rfl
  rw [e0, l0]
  clear e0 l0
  exact tb7_o sb m k d y x w1 w R hQ c37 hsl hap d37 f37 h _ hS0 (rfl)
end Go.Proofs.Ytekpepnonhbkcaa

/-
  How a side grows when it takes a message: what the bounds of its numbers need.
-/
namespace Go.Proofs.Ytekpepnonhbkcaa
open Go.RowKit
set_option linter.unusedVariables false
set_option maxRecDepth 20000

structure Grew (A A' : Ab) : Prop where
  sd : ByL A'.sd
  rt : ByL A'.rt
  hc : ByL A'.hc
  hs : ByL A'.hs
  nhc : A'.hc.length ≤ 1000
  nhs : A'.hs.length ≤ 1000
  kp : A'.kp = A.kp
  pv : A'.pv = A.pv
  ss : A'.ss = A.ss
  ps : A'.ps = A.ps
  rs : A'.rs = A.rs
  n : A'.sd.length ≤ A.sd.length + 7000
  o : A'.out.length ≤ A.out.length + 3
  z : ∀ n, (∀ x ∈ A.out, x.2.length ≤ n) → ∀ x ∈ A'.out, x.2.length ≤ n + 2000
theorem Grew.refl {A : Ab} (h : Ok A) : Grew A A := ⟨h.sd, h.rt, h.hc, h.hs, h.nhc, h.nhs, rfl, rfl, rfl, rfl, rfl, Nat.le_add_right _ _, Nat.le_add_right _ _, fun n hn x hx => Nat.le_trans (hn x hx) (Nat.le_add_right _ _)⟩
theorem ch5_hc (A : Ab) : (coA (ch5 A)).hc = expR (rtL (ch2 A) (rdG (A.kp.drop 4) 0 0).1) (sb sChs) 16 := rfl
theorem ch5_hs (A : Ab) : (coA (ch5 A)).hs = expR (rtL (ch2 A) (rdG (A.kp.drop 4) 0 0).1) (sb sShs) 16 := rfl
theorem ch5_rt (A : Ab) : (coA (ch5 A)).rt = rtL (ch2 A) (rdG (A.kp.drop 4) 0 0).1 := rfl
theorem ch5_sd (A : Ab) : (coA (ch5 A)).sd = (((A.sd ++ A.kp) ++ msgL 2 (grL A.rs A.pv)) ++ coB (ch1 A).pr A.ps) ++ msgL 20 (prL (ch4 A).hs (ch4 A).sd) := rfl
theorem ch5_out (A : Ab) : (coA (ch5 A)).out = addC (addC (addC A.out 0 (msgL 2 (grL A.rs A.pv))) 1 (coB (ch1 A).pr A.ps)) 1 (msgL 20 (prL (ch4 A).hs (ch4 A).sd)) := rfl
theorem ch5_eq (A : Ab) : (coA (ch5 A)).kp = A.kp ∧ (coA (ch5 A)).pv = A.pv ∧ (coA (ch5 A)).ss = A.ss ∧ (coA (ch5 A)).ps = A.ps ∧ (coA (ch5 A)).rs = A.rs := by
  refine ⟨?_, ?_, ?_, ?_, ?_⟩ <;> unfold coA ch5 sayA ch4 sayA ch3 agA ch2 sayA hearA ch1 <;> rfl
theorem tkCH_grew {A : Ab} (h : Ok A) (h32 : A.rs.length = 32) : Grew A (coA (ch5 A)) := by
  have hsz : (ch1 A).pr.size ≤ 32 := okTs_sz h.nss _
  have hps := h.nps
  have hkp := h.nkp
  have l1 : (msgL 2 (grL A.rs A.pv)).length = 44 := by rw [msgL_len, grL_len h32]
  have l2 : (coB (ch1 A).pr A.ps).length ≤ 1063 := by rw [coB_len]; omega
  have l3 : (msgL 20 (prL (ch4 A).hs (ch4 A).sd)).length = 20 := by rw [msgL_len]; unfold prL; rw [dg_len]
  refine ⟨?_, ?_, ?_, ?_, ?_, ?_, (ch5_eq A).1, (ch5_eq A).2.1, (ch5_eq A).2.2.1, (ch5_eq A).2.2.2.1, (ch5_eq A).2.2.2.2, ?_, ?_, ?_⟩
  · rw [ch5_sd]; exact (((h.sd.app h.kp).app (msgL_by (grL_by h.rs) (by decide) (by decide))).app (coB_by h.ps)).app (msgL_by (dg_lt _) (by decide) (by decide))
  · rw [ch5_rt]; exact dg_lt _
  · rw [ch5_hc]; exact expR_by _ _ _
  · rw [ch5_hs]; exact expR_by _ _ _
  · rw [ch5_hc]; exact Nat.le_trans (expR_le _ _) (by decide)
  · rw [ch5_hs]; exact Nat.le_trans (expR_le _ _) (by decide)
  · rw [ch5_sd]; simp only [List.length_append]; omega
  · rw [ch5_out]
    have a1 := addC_len A.out 0 (msgL 2 (grL A.rs A.pv))
    have a2 := addC_len (addC A.out 0 (msgL 2 (grL A.rs A.pv))) 1 (coB (ch1 A).pr A.ps)
    have a3 := addC_len (addC (addC A.out 0 (msgL 2 (grL A.rs A.pv))) 1 (coB (ch1 A).pr A.ps)) 1 (msgL 20 (prL (ch4 A).hs (ch4 A).sd))
    omega
  · intro n hn x hx
    rw [ch5_out] at hx
    have := addC_bd (addC_bd (addC_bd hn)) x hx
    omega
theorem agH_hc (A : Ab) (p : Int) (m : List Int) : (agA (hearA A m) p).hc = expR (rtL (hearA A m) p) (sb sChs) 16 := rfl
theorem agH_hs (A : Ab) (p : Int) (m : List Int) : (agA (hearA A m) p).hs = expR (rtL (hearA A m) p) (sb sShs) 16 := rfl
theorem tkSH_grew {A : Ab} (h : Ok A) (p : Int) : Grew A (agA (hearA A A.kp) p) := by
  have hkp := h.nkp
  refine ⟨h.sd.app h.kp, dg_lt _, ?_, ?_, ?_, ?_, rfl, rfl, rfl, rfl, rfl, ?_, Nat.le_add_right _ _, fun n hn x hx => Nat.le_trans (hn x hx) (Nat.le_add_right _ _)⟩
  · rw [agH_hc]; exact expR_by _ _ _
  · rw [agH_hs]; exact expR_by _ _ _
  · rw [agH_hc]; exact Nat.le_trans (expR_le _ _) (by decide)
  · rw [agH_hs]; exact Nat.le_trans (expR_le _ _) (by decide)
  · show (A.sd ++ A.kp).length ≤ _; rw [List.length_append]; omega
theorem tkCo_grew {A : Ab} (h : Ok A) : Grew A (hearA (chA A) A.kp) := by
  have hkp := h.nkp
  refine ⟨h.sd.app h.kp, h.rt, h.hc, h.hs, h.nhc, h.nhs, rfl, rfl, rfl, rfl, rfl, ?_, Nat.le_add_right _ _, fun n hn x hx => Nat.le_trans (hn x hx) (Nat.le_add_right _ _)⟩
  show (A.sd ++ A.kp).length ≤ _; rw [List.length_append]; omega
theorem tkSF_grew {A : Ab} (h : Ok A) : Grew A (sayA (coA (hearA A A.kp)) 1 (msgL 20 (prL A.hc (A.sd ++ A.kp)))) := by
  have hkp := h.nkp
  have l3 : (msgL 20 (prL A.hc (A.sd ++ A.kp))).length = 20 := by rw [msgL_len]; unfold prL; rw [dg_len]
  refine ⟨(h.sd.app h.kp).app (msgL_by (dg_lt _) (by decide) (by decide)), h.rt, h.hc, h.hs, h.nhc, h.nhs, rfl, rfl, rfl, rfl, rfl, ?_, ?_, ?_⟩
  · show ((A.sd ++ A.kp) ++ msgL 20 (prL A.hc (A.sd ++ A.kp))).length ≤ _; rw [List.length_append, List.length_append]; omega
  · have := addC_len A.out 1 (msgL 20 (prL A.hc (A.sd ++ A.kp)))
    show (addC A.out 1 (msgL 20 (prL A.hc (A.sd ++ A.kp)))).length ≤ _
    omega
  · intro n hn x hx
    have := addC_bd (lv := 1) (ms := msgL 20 (prL A.hc (A.sd ++ A.kp))) hn x hx
    omega
theorem tkF_grew {A : Ab} (h : Ok A) (h32 : A.rs.length = 32) (f : Nat) : Grew A (tkF f A).2 := by
  unfold tkF
  split
  · unfold tkCH
    split
    · split
      · exact tkCH_grew h h32
      · exact Grew.refl h
    · exact Grew.refl h
  split
  · exact Grew.refl h
  split
  · unfold tkSH
    split
    · exact tkSH_grew h _
    · exact Grew.refl h
  split
  · unfold tkCo
    split
    · split
      · exact tkCo_grew h
      · exact Grew.refl h
    · exact Grew.refl h
  · unfold tkSF
    split
    · exact tkSF_grew h
    · exact Grew.refl h
/-- A side's bounds between two messages. -/
structure Ok2 (A : Ab) : Prop where
  ok : Ok A
  r : A.rs.length = 32
  n1 : A.sd.length + 8000 * A.wt.length ≤ 100000
  n2 : A.out.length + 3 * A.wt.length ≤ 100
  n3 : ∀ x ∈ A.out, x.2.length + 3000 * A.wt.length ≤ 100000
  lk : 0 < lack A.kp
  hd : 4 ≤ A.kp.length → bsz A.kp ≤ 4096
  fs : ∀ x ∈ A.wt, x.2.2 = 30 ∨ x.2.2 = 31 ∨ x.2.2 = 32 ∨ x.2.2 = 33 ∨ x.2.2 = 34
theorem bsz_app {zs ys : List Int} (h : 4 ≤ zs.length) : bsz (zs ++ ys) = bsz zs := by
  unfold bsz
  simp only [List.getD_eq_getElem?_getD]
  rw [List.getElem?_append_left (by omega), List.getElem?_append_left (by omega), List.getElem?_append_left (by omega)]
theorem Ok2.up {A : Ab} (h : Ok2 A) {xs : List Int} (hx : ByL xs) (hl : (xs.length : Int) ≤ lack A.kp) : Ok { A with kp := A.kp ++ xs } := by
  have hk := h.lk
  have hh := h.hd
  have e : (A.kp ++ xs).length ≤ 5000 := by
    rw [List.length_append]
    unfold lack at hl hk
    split at hl
    · omega
    · have := hh (by omega); omega
  exact ⟨h.ok.sd, h.ok.kp.app hx, h.ok.rt, h.ok.hc, h.ok.hs, h.ok.nsd, e, h.ok.nhc, h.ok.nhs, h.ok.pv, h.ok.nss, h.ok.nps, h.ok.no, h.ok.nz, h.ok.rs, h.ok.ps⟩
theorem Ok2.step {A : Ab} (h : Ok2 A) {xs : List Int} (hx : ByL xs) (hl : (xs.length : Int) ≤ lack A.kp) (hne : A.wt ≠ []) (he : (tkK { A with kp := A.kp ++ xs }).1 = 0) : Ok2 (tkK { A with kp := A.kp ++ xs }).2 := by
  have ho := h.up hx hl
  have hk := h.lk
  have hh := h.hd
  generalize hA1 : ({ A with kp := A.kp ++ xs } : Ab) = A1 at *
  have e1 : A1.kp = A.kp ++ xs := by rw [← hA1]
  have e2 : A1.wt = A.wt := by rw [← hA1]
  have e3 : A1.sd = A.sd := by rw [← hA1]
  have e4 : A1.out = A.out := by rw [← hA1]
  have e5 : A1.rs = A.rs := by rw [← hA1]
  unfold tkK at he ⊢
  split at he
  · next hc => exact absurd he hc.2
  · next hc =>
    rw [if_neg hc]
    split at he
    · next hlk =>
      rw [if_pos hlk]
      refine ⟨ho, by rw [e5]; exact h.r, by rw [e3, e2]; exact h.n1, by rw [e4, e2]; exact h.n2, by rw [e4, e2]; exact h.n3, hlk, fun h4 => ?_, by rw [e2]; exact h.fs⟩
      show bsz A1.kp ≤ 4096
      by_cases h5 : 4 ≤ A.kp.length
      · rw [e1, bsz_app h5]; exact hh h5
      · have h6 : A1.kp.length = 4 := by
          rw [e1, List.length_append] at h4 ⊢
          unfold lack at hl
          rw [if_pos (by omega)] at hl
          omega
        have h7 : headE A1.kp (kdA A1) = 0 := Classical.byContradiction fun e => hc ⟨h6, e⟩
        unfold headE at h7
        split at h7
        · cases h7
        · omega
    · next hlk =>
      rw [if_neg hlk]
      split at he
      · next hc2 => exact absurd he hc2
      · next hc2 =>
        rw [if_neg hc2]
        have g := tkF_grew ho (by rw [e5]; exact h.r) (fnA A1)
        generalize (tkF (fnA A1) A1).2 = A8 at *
        obtain ⟨y, ys, hy⟩ : ∃ y ys, A.wt = y :: ys := by
          cases hq : A.wt with
          | nil => exact absurd hq hne
          | cons y ys => exact ⟨y, ys, rfl⟩
        have t1 : A1.wt.tail = ys := by rw [e2, hy]; rfl
        have t2 : A.wt.length = ys.length + 1 := by rw [hy]; rfl
        have n1 := h.n1
        have n2 := h.n2
        have n3 := h.n3
        have g1 := g.n
        have g2 := g.o
        rw [e3] at g1
        rw [e4] at g2
        have hsd : ByL (shutA A1 A8).sd := by
          show ByL (if A1.wt.tail = [] then [] else A8.sd)
          split
          · intro y hy; cases hy
          · exact g.sd
        have hsn : (shutA A1 A8).sd.length ≤ A8.sd.length := by
          show (if A1.wt.tail = [] then [] else A8.sd).length ≤ _
          split
          · exact Nat.zero_le _
          · exact Nat.le_refl _
        have g3 := g.z (100000 - 3000 * A.wt.length) (fun x hx => by rw [e4] at hx; have := n3 x hx; omega)
        have wl : 3000 * A.wt.length ≤ 100000 := by omega
        have hwt : (shutA A1 A8).wt = ys := t1
        have hz : ∀ x ∈ (shutA A1 A8).out, x.2.length + 3000 * (shutA A1 A8).wt.length ≤ 100000 := fun x hx => by
          have := g3 x hx
          rw [hwt]
          omega
        show Ok2 (shutA A1 A8)
        refine ⟨⟨hsd, (fun y hy => by cases hy), g.rt, g.hc, g.hs, by omega, Nat.zero_le _, g.nhc, g.nhs, ?_, ?_, ?_, ?_, fun x hx => by have := hz x hx; omega, ?_, ?_⟩, ?_, ?_, ?_, hz, by show 0 < lack []; decide, (fun h4 => absurd h4 (by show ¬ 4 ≤ ([] : List Int).length; decide)), ?_⟩
        · show 1 ≤ A8.pv ∧ A8.pv ≤ _; rw [g.pv]; exact ho.pv
        · show okTs A8.ss = true; rw [g.ss]; exact ho.nss
        · show A8.ps.length ≤ _; rw [g.ps]; exact ho.nps
        · show A8.out.length ≤ _; omega
        · show ByL A8.rs; rw [g.rs]; exact ho.rs
        · show ByL A8.ps; rw [g.ps]; exact ho.ps
        · show A8.rs.length = 32; rw [g.rs, e5]; exact h.r
        · rw [hwt]; omega
        · rw [hwt]; show A8.out.length + _ ≤ _; omega
        · rw [hwt]; exact fun x hx => h.fs x (by rw [hy]; exact List.mem_cons_of_mem _ hx)
end Go.Proofs.Ytekpepnonhbkcaa

/-
  What shake's takeBytes does: a contract that the statements' walks use.
-/
namespace Go.Proofs.Ytekpepnonhbkcaa
open Go.RowKit
set_option linter.unusedVariables false
set_option maxRecDepth 20000

/-- The kept bytes grow. -/
theorem Fu.keptUp {w : World} {B sb : Nat} {S : Sh} {Fs : List Fl} {A : Ab} {m : Sv} {ms : List Int} (h : Fu w B sb S Fs A) (hm : Seg w m.a ms) (hl : ms.length = m.n) (hn : S.kept.n + m.n ≤ 1000000) :
    ∃ (x : Sv) (w1 : World), (Builtin.append_ #[24, 24] 24 #[.slice S.kept.a S.kept.n S.kept.c, .slice m.a m.n m.c]).run Try.prog w = .ok (.slice x.a x.n x.c) w1 ∧ w1.cell? ⟨sb, 37, none⟩ = some (.slice S.kept.a S.kept.n S.kept.c) ∧ w1.frozen? ⟨sb, 37, none⟩ = false ∧
      Bft w B sb S Fs { A with kp := A.kp ++ ms } (w1.setCell ⟨sb, 37, none⟩ (.slice x.a x.n x.c)) { S with kept := x } Fs := by
  obtain ⟨x, w1, hr, hrow, hk, hb⟩ := row_append (ty := 24) h.kr (src_seg (c := m.c) hm hl) hn
  have hlt := h.sd.at_.lt
  have hB := h.sd.hB
  have a1 : ShAt w1 sb S := h.sd.at_.keep hk (fun e => (h.kb sb e).2 (.inl rfl))
  have k2 : Keep (fun b => b = sb) w1 (w1.setCell ⟨sb, 37, none⟩ (.slice x.a x.n x.c)) := (Keep.refl _ _).setCell _ _ _ (.inl rfl)
  have s1 : Sd w1 B sb S A.sd Fs := h.sd.keep hk (fun b m e => (h.kb b e).2 m)
  have hxb : ∀ b, blk x.a = some b → blk S.kept.a = some b ∨ b = w.heap.size := by
    intro b e
    rcases hb with h1 | h1
    · exact .inl (by rw [← h1]; exact e)
    · rw [h1] at e
      simp only [Option.some.injEq] at e
      exact .inr e.symm
  have hM : ∀ b, Mut sb { S with kept := x } Fs b → Mut sb S Fs b ∨ w.heap.size ≤ b := by
    intro b m
    rcases m with m | m
    · exact .inl (.inl m)
    · rcases hxb b m with e | e
      · exact .inl (.inr e)
      · exact .inr (by omega)
  have r1 := h.re.keep hk (fun b e => .inr e) (M' := Mut sb { S with kept := x } Fs) hM
  have r2 := r1.keep k2 mut_sb (M' := Mut sb { S with kept := x } Fs) (fun b m => .inl m)
  refine ⟨x, w1, hr, a1.kept, a1.free 37, ⟨⟨s1.cells (a1.setKept x) k2 rfl rfl, h.fl, Sub.keep hrow k2 (fun b e e2 => ?_), fun b e => ?_, ⟨r2.own, r2.wt, r2.fd, r2.rt, r2.hc, r2.hs, r2.ac, r2.as_, r2.pr, r2.pe⟩⟩, ?_, hM⟩⟩
  · rcases hxb b e with e1 | e1
    · exact (h.kb b e1).2 (.inl e2)
    · omega
  · rcases hxb b e with e1 | e1
    · exact h.kb b e1
    · exact ⟨by omega, fun m => by have := (h.sd.mine (S := S) m).2; omega⟩
  · exact (hk.mono (G := Mut sb S Fs) (fun i _ e => .inr e)).trans' k2 (fun i _ e => mut_sb i e)
theorem slice_take (a : Option Addr) (n c m : Nat) (hm : m ≤ c) (u : World) :
    (Instr.slice 24 (.slice a n c) none (some (.int .i64 (m : Int))) none).run Try.prog u = .ok (.slice (if c = 0 then a else a.map (·.add 0)) m c) u := by
  have h := run_slice_h (P := Try.prog) u 24 a n c Try.underlying24 .i64 (m : Int) (by omega) (by omega)
  rw [h]
  obtain ⟨i0, hi, hz0, hz1, hz2⟩ := info_parts info5
  have e : Try.prog.elem 24 = 5 := by kernel_rfl
  simp [sizeOf, typeInfo, e, hi, hz1, sliced, Result.andThen]
theorem slice_drop (a : Option Addr) (n c m : Nat) (hm : m ≤ n) (u : World) :
    (Instr.slice 24 (.slice a n c) (some (.int .i64 (m : Int))) none none).run Try.prog u = .ok (.slice (if c = m then a else a.map (·.add m)) (n - m) (c - m)) u := by
  have h := run_slice_l (P := Try.prog) u 24 a n c Try.underlying24 .i64 (m : Int) (by omega) (by omega)
  rw [h]
  obtain ⟨i0, hi, hz0, hz1, hz2⟩ := info_parts info5
  have e : Try.prog.elem 24 = 5 := by kernel_rfl
  simp [sizeOf, typeInfo, e, hi, hz1, sliced, Result.andThen]
theorem seg_zero {w : World} {a : Option Addr} {c : Nat} {zs : List Int} (h : Seg w a zs) : Seg w (if c = 0 then a else a.map (·.add 0)) zs := by
  split
  · exact h
  · intro hne
    obtain ⟨b, o, rfl, hc⟩ := h hne
    exact ⟨b, o, by rw [Option.map_some, addr_add, Nat.add_zero], hc⟩
theorem seg_from {w : World} {a : Option Addr} {c m : Nat} {zs : List Int} (h : Seg w a zs) (hl : zs.length ≤ c) : Seg w (if c = m then a else a.map (·.add m)) (zs.drop m) := by
  split
  · next e => rw [List.drop_of_length_le (by omega)]; exact seg_nil _ _
  · intro hne
    obtain ⟨b, o, rfl, hc⟩ := h (by intro e; rw [e] at hne; simp at hne)
    rw [Option.map_some, addr_add]
    exact seg_drop4 h m hne
theorem blk_from {a : Option Addr} {c m b : Nat} (h : blk (if c = m then a else a.map (·.add m)) = some b) : blk a = some b := by
  split at h
  · exact h
  · cases a with
    | none => exact h
    | some x =>
      rw [Option.map_some] at h
      rw [← h]
      simp only [blk, Option.map_some, Addr.add]
      split <;> rfl
def lvA (A : Ab) : Int := (A.wt.headD (0, 0, 0)).2.1
def mA (A : Ab) (ds : List Int) : Nat := min ds.length (lack A.kp).toNat
def tkB : Nat → Int → Ab → List Int → Int × Ab
  | 0, _, A, _ => (0, A)
  | n + 1, lv, A, ds => if ds = [] then (0, A) else if A.wt = [] then (104, A) else if lv ≠ lvA A then (101, A) else if (tkK { A with kp := A.kp ++ ds.take (mA A ds) }).1 ≠ 0 then tkK { A with kp := A.kp ++ ds.take (mA A ds) } else tkB n lv (tkK { A with kp := A.kp ++ ds.take (mA A ds) }).2 (ds.drop (mA A ds))
def slN : Value → Nat
  | .slice _ n _ => n
  | _ => 0
/-- The loop of takeBytes. -/
structure TB (w : World) (B sb : Nat) (S : Sh) (Fs : List Fl) (lv : Int) (R : Int × Ab) (wr : World) (d : Sv) (n : Nat) (zs : List Int) (A' : Ab) (S' : Sh) (F' : List Fl) : Prop where
  s : Seg wr d.a zs
  l : zs.length = d.n
  c : d.n ≤ d.c
  f : d.n ≤ n
  z : ByL zs
  b : ∀ b, blk d.a = some b → ¬ Mut sb S Fs b ∧ b < w.heap.size
  a : Bft w B sb S Fs A' wr S' F'
  o : Ok2 A'
  e : tkB n lv A' zs = R
  x : d.n ≤ 140737488355328
theorem Bft.q {w w' : World} {B sb : Nat} {S : Sh} {Fs : List Fl} {A : Ab} (h : Fu w B sb S Fs A) (q : Q w w') : Bft w B sb S Fs A w' S Fs := (Aft.q h q).b
set_option maxHeartbeats 16000000 in
theorem takeBytes_any (B sb : Nat) (S : Sh) (Fs : List Fl) (A : Ab) (lv : Int) (d : Sv) (ds : List Int) (w : World) (h : Fu w B sb S Fs A) (ok : Ok2 A) (hd : Seg w d.a ds) (hl : ds.length = d.n) (hdc : d.n ≤ d.c) (hz : ByL ds) (hnn : d.n ≤ 140737488355328) (hb : ∀ b, blk d.a = some b → ¬ Mut sb S Fs b ∧ b < w.heap.size) :
    Calls Try.prog 28 #[.pointer (some ⟨sb, 0, none⟩), .int .i64 lv, .slice d.a d.n d.c] w fun e w' => e = .returned (.int .i64 (tkB ds.length lv A ds).1) ∧ (∃ S' F', Bft w B sb S Fs (tkB ds.length lv A ds).2 w' S' F') ∧ ((tkB ds.length lv A ds).1 = 0 → Ok2 (tkB ds.length lv A ds).2) := by
  have T0 := hid (show TB w B sb S Fs lv (tkB ds.length lv A ds) w d ds.length ds A S Fs from ⟨hd, hl, hdc, by omega, hz, hb, Bft.q h (Q.refl w), ok, rfl, hnn⟩)
  generalize tkB ds.length lv A ds = R at *
  generalize hN : ds.length = N0 at *
  clear h ok hd hl hdc hz hnn hb hN
  obtain ⟨da, dn, dc⟩ := d
  dsimp only
  go_enter Try.func28, Try.ntmps28
  go_wp2_with fail
  go_loopw [2] (fun iv wr => ∃ (d' : Sv) (n : Nat) (zs : List Int) (A' : Ab) (S' : Sh) (F' : List Fl), iv = .slice d'.a d'.n d'.c ∧ TB w B sb S Fs lv R wr d' n zs A' S' F') (fun iv _ => slN iv)
  case atStart => exact ⟨⟨da, dn, dc⟩, N0, ds, A, S, Fs, rfl, T0.out⟩
  case round =>
    obtain ⟨d1, n, zs, A1, S1, F1, rfl, T⟩ := hrel
    have HT := hid T
    clear T
    have HEN := hid (show zs.length = d1.n from HT.out.l)
    by_cases h0 : d1.n = 0
    · have hz0 : zs = [] := List.length_eq_zero_iff.1 (by rw [HEN.out]; exact h0)
      have HR := hid (show R = (0, A1) from by
        rw [← HT.out.e, hz0]
        cases n with
        | zero => rfl
        | succ n => rw [tkB, if_pos rfl])
      have hni : ¬ (0 : Int) < (d1.n : Int) := by omega
      clear hz0
      go_wp2_with fail
      go_ret
      exact ⟨by rw [HR.out]; rfl, ⟨S1, F1, by rw [HR.out]; exact HT.out.a⟩, fun _ => by rw [HR.out]; exact HT.out.o⟩
    · have hne : zs ≠ [] := by intro e; have := HEN.out; rw [e] at this; exact h0 this.symm
      obtain ⟨n1, rfl⟩ : ∃ n1, n = n1 + 1 := ⟨n - 1, by have := HT.out.f; omega⟩
      have hpi : (0 : Int) < (d1.n : Int) := by omega
      have hpn : 0 < d1.n := by omega
      have DN := hid (done_any sb S1 wr HT.out.a.f.sd.at_)
      have hwn := HT.out.a.f.re.wt.n
      cases hwt : A1.wt with
      | nil =>
        have HR := hid (show R = (104, A1) from by rw [← HT.out.e, tkB, if_neg hne, if_pos hwt])
        rw [show decide (S1.waits.n = 0) = true from by rw [← hwn, hwt]; rfl] at DN
        clear hne hwn hwt
        go_wp2_with (go_at_call 11; refine DN.out.mono ?_; rintro e w1 ⟨rfl, rfl⟩)
        go_ret
        exact ⟨by rw [HR.out]; rfl, ⟨S1, F1, by rw [HR.out]; exact HT.out.a⟩, fun e => by rw [HR.out] at e; cases e⟩
      | cons y rest =>
        obtain ⟨kd, l, f⟩ := y
        rw [show decide (S1.waits.n = 0) = false from by rw [← hwn, hwt]; simp] at DN
        have hwt1 := HT.out.a.f.re.wt
        rw [hwt] at hwt1
        obtain ⟨wb, wo, ha, -, c1, -, -, hn⟩ := hwt1.head
        clear hwt1 hwn
        have c36 := HT.out.a.f.sd.at_.waits
        rw [ha] at c36
        have hin : (0 : Int) < (S1.waits.n : Int) := by omega
        have HWT := hid hwt
        clear ha
        have HNE := hid hne
        clear hne
        by_cases hlv : lv = l
        · subst hlv
          have HR := hid (show R = if (tkK { A1 with kp := A1.kp ++ zs.take (mA A1 zs) }).1 ≠ 0 then tkK { A1 with kp := A1.kp ++ zs.take (mA A1 zs) } else tkB n1 lv (tkK { A1 with kp := A1.kp ++ zs.take (mA A1 zs) }).2 (zs.drop (mA A1 zs)) from by
            rw [← HT.out.e, tkB, if_neg HNE.out, if_neg (by rw [HWT.out]; simp), if_neg (by unfold lvA; rw [HWT.out]; simp)])
          have hnl : (lv != lv) = false := by simp
          have MI := hid (missing_any sb S1 A1.kp wr HT.out.a.f.sd.at_ (Row.len HT.out.a.f.kr) (by have h1 : A1.kp.length = S1.kept.n := Row.len HT.out.a.f.kr; have := HT.out.o.ok.nkp; omega) HT.out.o.ok.kp (Row.seg HT.out.a.f.kr))
          have HLK := hid HT.out.o.lk
          go_upto_region 7 with (first
            | (go_at_call 11; refine DN.out.mono ?_; rintro e w1 ⟨rfl, rfl⟩)
            | (go_at_call 38; refine MI.out.mono ?_; rintro e w2 ⟨rfl, k2, rfl⟩))
          have hmin : min (d1.n : Int) (lack A1.kp) = ((mA A1 zs : Nat) : Int) := by have := HLK.out; unfold mA; rw [HEN.out]; omega
          have HM1 := hid (show 1 ≤ mA A1 zs ∧ mA A1 zs ≤ d1.n ∧ ((mA A1 zs : Nat) : Int) ≤ lack A1.kp from by have := HLK.out; unfold mA; rw [HEN.out]; omega)
          rw [hmin]
          clear hmin
          generalize mA A1 zs = m at *
          have hln : (zs.take m).length = m := by rw [List.length_take, HEN.out]; have := HM1.out; omega
          have hec := HT.out.c
          have hk5 := HT.out.o.ok.nkp
          have hkl1 : A1.kp.length = S1.kept.n := Row.len HT.out.a.f.kr
          have OK5 := hid (HT.out.o.up (xs := zs.take m) (fun y hy => HT.out.z y (List.mem_of_mem_take hy)) (by rw [hln]; exact HM1.out.2.2))
          have hnk5 := OK5.out.nkp
          dsimp only at hnk5
          rw [List.length_append, hln] at hnk5
          have F4 := HT.out.a.f.q (((Q.refl wr).drewN k2).drew)
          obtain ⟨y, hys, hyn, hsy⟩ : ∃ y : Sv, Seg (wr.drewN k2).drew y.a (zs.take m) ∧ y.n = m ∧ ∀ u, (Instr.slice 24 (.slice d1.a d1.n d1.c) none (some (.int .i64 (m : Int))) none).run Try.prog u = .ok (.slice y.a y.n y.c) u :=
            ⟨⟨if d1.c = 0 then d1.a else d1.a.map (·.add 0), m, d1.c⟩, seg_zero (seg_take (HT.out.s.q (((Q.refl wr).drewN k2).drew)) m), rfl, slice_take d1.a d1.n d1.c m (by have := HM1.out; omega)⟩
          obtain ⟨x, w5, hap, d37, f37, b5⟩ := F4.keptUp (m := y) (ms := zs.take m) hys (hln.trans hyn.symm) (by rw [hyn]; omega)
          generalize hR : Code.region 7 _ true = CC
          have eR : CC = Code.region 7 (RofN Try.f28 7) true := hR.symm.trans (by kernel_rfl)
          clear hR
          subst eR
          refine wp_region_noPanic ?_
          refine tb7 sb m S1.kept d1 y x w5 _ _ (fun c a d v w h => h) F4.sd.at_.kept hsy hap d37 f37 trivial ?_
          refine NoPanic.normal ?_
          refine ‹∀ a w, Code.wp Try.prog _ _ a w → _› _ _ ?_
          have C5 := hid ((Bft.q HT.out.a.f (((Q.refl wr).drewN k2).drew)).trans b5)
          have TK := hid (takeKept_any B sb { S1 with kept := x } F1 { A1 with kp := A1.kp ++ zs.take m } _ b5.f OK5.out kd lv f rest HWT.out)
          have hdr := slice_drop d1.a d1.n d1.c m HM1.out.2.1
          have HSF := hid (fun (u : World) (h : Seg u d1.a zs) => seg_from (c := d1.c) (m := m) h (by rw [HEN.out]; exact hec))
          have HBF := hid (fun (b : Nat) (h : blk (if d1.c = m then d1.a else d1.a.map (·.add m)) = some b) => blk_from h)
          have ST := hid (HT.out.o.step (xs := zs.take m) (fun y hy => HT.out.z y (List.mem_of_mem_take hy)) (by rw [hln]; exact HM1.out.2.2) (by rw [HWT.out]; simp))
          have HEC := hid hec
          clear hap d37 f37 b5 F4 hys hyn hsy hk5 hkl1 hnk5 OK5 hln hwt c36 c1 hec
          generalize w5.setCell ⟨sb, 37, none⟩ (.slice x.a x.n x.c) = w6 at *
          generalize (if d1.c = m then d1.a else d1.a.map (·.add m)) = fa at *
          generalize tkK { A1 with kp := A1.kp ++ zs.take m } = r at *
          obtain ⟨er, A7⟩ := r
          dsimp only at *
          by_cases her : er = 0
          · subst her
            rw [if_neg (by simp)] at HR
            go_wp2_with (go_at_call 39; refine TK.out.mono ?_; rintro e w7 ⟨rfl, S7, F7, b7⟩; have B7 := hid b7; clear b7)
            go_roundw
            case rel =>
              have c7 := C5.out.trans B7.out
              refine ⟨⟨fa, d1.n - m, d1.c - m⟩, n1, zs.drop m, A7, S7, F7, rfl, HSF.out _ (HT.out.s.keep c7.k (fun b e mm => ?_)), ?_, ?_, ?_, (fun y hy => HT.out.z y (List.mem_of_mem_drop hy)), (fun b e => HT.out.b b (HBF.out b e)), HT.out.a.trans c7, ST.out trivial, HR.out.symm, ?_⟩
              · rcases HT.out.a.m b mm with h1 | h1
                · exact (HT.out.b b e).1 h1
                · have := (HT.out.b b e).2; omega
              · show (zs.drop m).length = d1.n - m
                rw [List.length_drop, HEN.out]
              · show d1.n - m ≤ d1.c - m
                have := HEC.out; omega
              · show d1.n - m ≤ n1
                have h1 : d1.n ≤ n1 + 1 := HT.out.f
                have := HM1.out; omega
              · show d1.n - m ≤ _
                have h1 : d1.n ≤ 140737488355328 := HT.out.x
                omega
            case measure => have := HM1.out; show d1.n - m < d1.n; omega
          · rw [if_pos her] at HR
            have heb : (er != 0) = true := by simpa using her
            have HER := hid her
            clear her
            go_wp2_with (go_at_call 39; refine TK.out.mono ?_; rintro e w7 ⟨rfl, S7, F7, b7⟩; have B7 := hid b7; clear b7)
            go_ret
            exact ⟨by rw [HR.out]; rfl, ⟨S7, F7, by rw [HR.out]; exact HT.out.a.trans (C5.out.trans B7.out)⟩, fun e => by rw [HR.out] at e; exact absurd e HER.out⟩
        · have HR := hid (show R = (101, A1) from by rw [← HT.out.e, tkB, if_neg HNE.out, if_neg (by rw [HWT.out]; simp), if_pos (by unfold lvA; rw [HWT.out]; exact hlv)])
          have hnl : (lv != l) = true := by simpa using hlv
          clear hlv hwt
          go_wp2_with (go_at_call 11; refine DN.out.mono ?_; rintro e w1 ⟨rfl, rfl⟩)
          go_ret
          exact ⟨by rw [HR.out]; rfl, ⟨S1, F1, by rw [HR.out]; exact HT.out.a⟩, fun e => by rw [HR.out] at e; cases e⟩
end Go.Proofs.Ytekpepnonhbkcaa

/-
  What shake's Feed does: a contract that the statements' walks use.
-/
namespace Go.Proofs.Ytekpepnonhbkcaa
open Go.RowKit
set_option linter.unusedVariables false
set_option maxRecDepth 20000

def fdE (lv : Int) (A : Ab) (ds : List Int) : Int × Ab := if lv ≠ 0 ∧ lv ≠ 1 then (101, A) else if A.fd = true then (104, A) else if (tkB ds.length lv A ds).1 ≠ 0 then ((tkB ds.length lv A ds).1, { (tkB ds.length lv A ds).2 with fd := true, kp := [] }) else tkB ds.length lv A ds
set_option maxHeartbeats 16000000 in
theorem feed_any (B sb : Nat) (S : Sh) (Fs : List Fl) (A : Ab) (lv : Int) (d : Sv) (ds : List Int) (w : World) (h : Fu w B sb S Fs A) (ok : A.fd = false → Ok2 A) (hd : Seg w d.a ds) (hl : ds.length = d.n) (hdc : d.n ≤ d.c) (hz : ByL ds) (hnn : d.n ≤ 140737488355328) (hb : ∀ b, blk d.a = some b → ¬ Mut sb S Fs b ∧ b < w.heap.size) :
    Calls Try.prog 17 #[.pointer (some ⟨sb, 0, none⟩), .int .i64 lv, .slice d.a d.n d.c] w fun e w' => e = .returned (.int .i64 (fdE lv A ds).1) ∧ (∃ S' F', Bft w B sb S Fs (fdE lv A ds).2 w' S' F') ∧ ((fdE lv A ds).2.fd = false → Ok2 (fdE lv A ds).2) := by
  have HF := hid h
  have HT := hid (show fdE lv A ds = _ from rfl)
  unfold fdE at HT
  by_cases h01 : lv ≠ 0 ∧ lv ≠ 1
  · have HE := hid (show fdE lv A ds = (101, A) from if_pos h01)
    have HK := hid ok
    have hn0 : (lv != 0) = true := by simpa using h01.1
    have hn1 : (lv != 1) = true := by simpa using h01.2
    clear HT h ok hd hl hdc hz hnn hb h01
    go_enter Try.func17, Try.ntmps17
    go_wp2_with fail
    go_ret
    exact ⟨by rw [HE.out]; rfl, ⟨S, Fs, by rw [HE.out]; exact Bft.q HF.out (Q.refl w)⟩, by rw [HE.out]; exact HK.out⟩
  · have c38 := h.sd.at_.failed
    rw [h.re.fd] at c38
    by_cases hf : A.fd = true
    · have HE := hid (show fdE lv A ds = (104, A) from by unfold fdE; rw [if_neg h01, if_pos hf])
      have HK := hid ok
      rw [hf] at c38
      clear HT h ok hd hl hdc hz hnn hb hf
      rcases (show lv = 0 ∨ lv = 1 by omega) with rfl | rfl
      · clear h01
        go_enter Try.func17, Try.ntmps17
        go_wp2_with fail
        go_ret
        exact ⟨by rw [HE.out]; rfl, ⟨S, Fs, by rw [HE.out]; exact Bft.q HF.out (Q.refl w)⟩, by rw [HE.out]; exact HK.out⟩
      · clear h01
        go_enter Try.func17, Try.ntmps17
        go_wp2_with fail
        go_ret
        exact ⟨by rw [HE.out]; rfl, ⟨S, Fs, by rw [HE.out]; exact Bft.q HF.out (Q.refl w)⟩, by rw [HE.out]; exact HK.out⟩
    · have hff : A.fd = false := by simpa using hf
      have HE := hid (show fdE lv A ds = if (tkB ds.length lv A ds).1 ≠ 0 then ((tkB ds.length lv A ds).1, { (tkB ds.length lv A ds).2 with fd := true, kp := [] }) else tkB ds.length lv A ds from by unfold fdE; rw [if_neg h01, if_neg hf])
      rw [hff] at c38
      have TB := hid (takeBytes_any B sb S Fs A lv d ds w h (ok hff) hd hl hdc hz hnn hb)
      clear HT h ok hd hl hdc hz hnn hb hf hff
      generalize fdE lv A ds = E at *
      generalize tkB ds.length lv A ds = r at *
      obtain ⟨er, A1⟩ := r
      dsimp only at *
      by_cases her : er = 0
      · subst her
        rw [if_neg (by simp)] at HE
        rcases (show lv = 0 ∨ lv = 1 by omega) with rfl | rfl
        · clear h01
          go_enter Try.func17, Try.ntmps17
          go_wp2_with (go_at_call 28; refine TB.out.mono ?_; rintro e w1 ⟨rfl, ⟨S1, F1, b1⟩, o1⟩; have B1 := hid b1; have O1 := hid o1; clear b1 o1)
          go_ret
          exact ⟨by rw [HE.out]; rfl, ⟨S1, F1, by rw [HE.out]; exact B1.out⟩, fun _ => by rw [HE.out]; exact O1.out trivial⟩
        · clear h01
          go_enter Try.func17, Try.ntmps17
          go_wp2_with (go_at_call 28; refine TB.out.mono ?_; rintro e w1 ⟨rfl, ⟨S1, F1, b1⟩, o1⟩; have B1 := hid b1; have O1 := hid o1; clear b1 o1)
          go_ret
          exact ⟨by rw [HE.out]; rfl, ⟨S1, F1, by rw [HE.out]; exact B1.out⟩, fun _ => by rw [HE.out]; exact O1.out trivial⟩
      · rw [if_pos her] at HE
        have heb : (er != 0) = true := by simpa using her
        clear her
        have FIN := hid (fun (w1 : World) (S1 : Sh) (F1 : List Fl) (b1 : Bft w B sb S Fs A1 w1 S1 F1) => show Bft w B sb S Fs { A1 with fd := true, kp := [] } ((w1.setCell ⟨sb, 38, none⟩ (.bool true)).setCell ⟨sb, 37, none⟩ (.slice none 0 0)) { S1 with failed := true, kept := nilS } F1 from by
          have k9 : Keep (fun b => b = sb) w1 ((w1.setCell ⟨sb, 38, none⟩ (.bool true)).setCell ⟨sb, 37, none⟩ (.slice none 0 0)) := ((Keep.refl (fun b => b = sb) w1).setCell sb 38 _ (.inl rfl)).setCell sb 37 _ (.inl rfl)
          refine b1.trans (Fu.drop b1.f ((b1.f.sd.at_.setFailed true).setKept nilS) k9 (.inl ⟨rfl, rfl⟩) rfl (.inr ⟨rfl, rfl⟩) rfl (fun M' hM => ?_))
          have r := b1.f.re.keep k9 mut_sb (M' := M') (fun b m => .inl (hM b m))
          exact ⟨r.own, r.wt, rfl, r.rt, r.hc, r.hs, r.ac, r.as_, r.pr, r.pe⟩)
        rcases (show lv = 0 ∨ lv = 1 by omega) with rfl | rfl
        · clear h01
          go_enter Try.func17, Try.ntmps17
          go_wp2_with (go_at_call 28; refine TB.out.mono ?_; rintro e w1 ⟨rfl, ⟨S1, F1, b1⟩, -⟩; have B1 := hid b1; have c38b := b1.f.sd.at_.failed; have f38 := b1.f.sd.at_.free 38; have c37b := b1.f.sd.at_.kept; have f37 := b1.f.sd.at_.free 37; clear b1)
          go_ret
          exact ⟨by rw [HE.out]; rfl, ⟨_, F1, by rw [HE.out]; exact FIN.out w1 S1 F1 B1.out⟩, fun e => by rw [HE.out] at e; cases e⟩
        · clear h01
          go_enter Try.func17, Try.ntmps17
          go_wp2_with (go_at_call 28; refine TB.out.mono ?_; rintro e w1 ⟨rfl, ⟨S1, F1, b1⟩, -⟩; have B1 := hid b1; have c38b := b1.f.sd.at_.failed; have f38 := b1.f.sd.at_.free 38; have c37b := b1.f.sd.at_.kept; have f37 := b1.f.sd.at_.free 37; clear b1)
          go_ret
          exact ⟨by rw [HE.out]; rfl, ⟨_, F1, by rw [HE.out]; exact FIN.out w1 S1 F1 B1.out⟩, fun e => by rw [HE.out] at e; cases e⟩
end Go.Proofs.Ytekpepnonhbkcaa

/-
  The drawn regions of the law ShakeShut, gone through by hand, a lemma a state.
-/
namespace Go.Proofs.Ytekpepnonhbkcaa
open Go.RowKit
set_option linter.unusedVariables false
set_option maxRecDepth 20000

/-- A Said in a box of its own. -/
def SBx (ob : Nat) (l : Int) (d : Sv) (u : World) : Prop := u.cell? ⟨ob, 0, none⟩ = some (.int .i64 l) ∧ u.cell? ⟨ob, 1, none⟩ = some (.slice d.a d.n d.c)
def KV (ob : Nat) (l : Int) (d : Sv) (u v : World) : Prop := SBx ob l d u → SBx ob l d v
theorem SBx_q {ob : Nat} {l : Int} {d : Sv} {u v : World} (h : SBx ob l d u) (q : KV ob l d u v) : SBx ob l d v := q h
def sl8g0z (sb ob : Nat) (l er : Int) (d : Sv)  : List (Nat × Value) := [(0, .pointer (some ⟨sb, 0, none⟩)), (1, .pointer (some ⟨ob, 0, none⟩)), (3, .pointer (some ⟨ob, 1, none⟩)), (2, .int .i64 l), (4, .slice d.a d.n d.c)]
set_option maxHeartbeats 8000000 in
theorem sl8g0 (sb ob : Nat) (l er : Int) (d : Sv)  {x0 x1 x2 x3 x4 x5 x6 x8 x9 x10 x12 x13 x14 x15 x16 x17 x18 x19 x20 x21 x22 x23 x24 x25 x26 x27 x28 x29 x30 x31 x32 x33 x34 x35 x36 x37 x38 x39 x40 x41 x42 x43 x44 x45 x46 x47 x48 x49 x50 x51 x52 x53 x54 x55 x56 x57 x58 x59 x60 x61 x62 x63 x64 x65 x66 x67 x68 x69 x70 x71 x72 x73 x74 x75 x76 x77 x78 x79 x80 x81 x82 x83 x84 x85 x86 x87 x88 x89 x90 x91 x92 x93 x94 x95 x96 x97 x98 x99 x100 x101 x102 x103 x104 x105 x106 x107 x108 x109 x110 : Value} (w : World) (Y : Sv → World → Prop) (Z : World → Prop)
    (H18 : ∀ u, u = w.drew → Calls Try.prog 18 #[.slice d.a d.n d.c] u fun e v => ∃ m : Sv, e = .returned (.slice m.a m.n m.c) ∧ Y m v ∧ KV ob l d u v) (H17 : ∀ u m, Y m u → Calls Try.prog 17 #[.pointer (some ⟨sb, 0, none⟩), .int .i64 l, .slice m.a m.n m.c] u fun e v => e = .returned (.int .i64 er) ∧ Z v ∧ KV ob l d u v) : Chn Try.prog (RofN Try.f5 8) (SBx ob l d) (sl8g0z sb ob l er d ) (#[false, false, false, false, false, false, false, false] : Array Bool) (⟨#[x0, x1, x2, x3, x4, x5, x6, .pointer (some ⟨sb, 0, none⟩), x8, x9, x10, .pointer (some ⟨ob, 0, none⟩), x12, x13, x14, x15, x16, x17, x18, x19, x20, x21, x22, x23, x24, x25, x26, x27, x28, x29, x30, x31, x32, x33, x34, x35, x36, x37, x38, x39, x40, x41, x42, x43, x44, x45, x46, x47, x48, x49, x50, x51, x52, x53, x54, x55, x56, x57, x58, x59, x60, x61, x62, x63, x64, x65, x66, x67, x68, x69, x70, x71, x72, x73, x74, x75, x76, x77, x78, x79, x80, x81, x82, x83, x84, x85, x86, x87, x88, x89, x90, x91, x92, x93, x94, x95, x96, x97, x98, x99, x100, x101, x102, x103, x104, x105, x106, x107, x108, x109, x110], []⟩ : Act) :=
  ⟨⟨by kernel_rfl, by kernel_rfl, by kernel_rfl, by kernel_rfl, fun u h => by kernel_rfl⟩,
    ⟨by kernel_rfl, by kernel_rfl, by kernel_rfl, by kernel_rfl, fun u h => by kernel_rfl⟩,
    ⟨by kernel_rfl, by kernel_rfl, by kernel_rfl, by kernel_rfl, fun u h => by kernel_rfl⟩,
    ⟨by kernel_rfl, by kernel_rfl, by kernel_rfl, by kernel_rfl, fun u h => ld_t 3 (.tmp 38) ob 0 (by kernel_rfl) (by kernel_rfl) (ld3' h.1)⟩,
    ⟨by kernel_rfl, by kernel_rfl, by kernel_rfl, by kernel_rfl, fun u h => ld_t 24 (.tmp 40) ob 1 (by kernel_rfl) (by kernel_rfl) (ld24' h.2)⟩,
    trivial⟩
def sl8g1z (sb ob : Nat) (l er : Int) (d : Sv) (ma : Option Addr) (mn mc : Nat)  : List (Nat × Value) := [(7, .int .i64 er)]
set_option maxHeartbeats 8000000 in
theorem sl8g1 (sb ob : Nat) (l er : Int) (d : Sv) (ma : Option Addr) (mn mc : Nat)  {x0 x1 x2 x3 x4 x5 x6 x8 x9 x10 x12 x13 x14 x15 x16 x17 x18 x19 x20 x21 x22 x23 x24 x25 x26 x27 x28 x29 x30 x31 x32 x33 x34 x35 x36 x44 x45 x46 x47 x48 x49 x50 x51 x52 x53 x54 x55 x56 x57 x58 x59 x60 x61 x62 x63 x64 x65 x66 x67 x68 x69 x70 x71 x72 x73 x74 x75 x76 x77 x78 x79 x80 x81 x82 x83 x84 x85 x86 x87 x88 x89 x90 x91 x92 x93 x94 x95 x96 x97 x98 x99 x100 x101 x102 x103 x104 x105 x106 x107 x108 x109 x110 : Value} (w : World) (Y : Sv → World → Prop) (Z : World → Prop)
    (H18 : ∀ u, u = w.drew → Calls Try.prog 18 #[.slice d.a d.n d.c] u fun e v => ∃ m : Sv, e = .returned (.slice m.a m.n m.c) ∧ Y m v ∧ KV ob l d u v) (H17 : ∀ u m, Y m u → Calls Try.prog 17 #[.pointer (some ⟨sb, 0, none⟩), .int .i64 l, .slice m.a m.n m.c] u fun e v => e = .returned (.int .i64 er) ∧ Z v ∧ KV ob l d u v) : Chn Try.prog (RofN Try.f5 8) (SBx ob l d) (sl8g1z sb ob l er d ma mn mc) (#[true, true, true, true, true, true, true, false] : Array Bool) (⟨#[x0, x1, x2, x3, x4, x5, x6, .pointer (some ⟨sb, 0, none⟩), x8, x9, x10, .pointer (some ⟨ob, 0, none⟩), x12, x13, x14, x15, x16, x17, x18, x19, x20, x21, x22, x23, x24, x25, x26, x27, x28, x29, x30, x31, x32, x33, x34, x35, x36, .pointer (some ⟨sb, 0, none⟩), .pointer (some ⟨ob, 0, none⟩), .int .i64 l, .pointer (some ⟨ob, 1, none⟩), .slice d.a d.n d.c, .slice ma mn mc, .int .i64 er, x44, x45, x46, x47, x48, x49, x50, x51, x52, x53, x54, x55, x56, x57, x58, x59, x60, x61, x62, x63, x64, x65, x66, x67, x68, x69, x70, x71, x72, x73, x74, x75, x76, x77, x78, x79, x80, x81, x82, x83, x84, x85, x86, x87, x88, x89, x90, x91, x92, x93, x94, x95, x96, x97, x98, x99, x100, x101, x102, x103, x104, x105, x106, x107, x108, x109, x110], []⟩ : Act) :=
  ⟨⟨by kernel_rfl, by kernel_rfl, by kernel_rfl, by kernel_rfl, fun u h => by kernel_rfl⟩,
    trivial⟩
set_option maxHeartbeats 16000000 in
theorem sl8_5_6 (sb ob : Nat) (l er : Int) (d : Sv) (ma : Option Addr) (mn mc : Nat)  {x0 x1 x2 x3 x4 x5 x6 x8 x9 x10 x13 x14 x15 x16 x17 x18 x19 x20 x21 x22 x23 x24 x25 x26 x27 x28 x29 x30 x31 x32 x33 x34 x35 x36 x44 x45 x46 x47 x48 x49 x50 x51 x52 x53 x54 x55 x56 x57 x58 x59 x60 x61 x62 x63 x64 x65 x66 x67 x68 x69 x70 x71 x72 x73 x74 x75 x76 x77 x78 x79 x80 x81 x82 x83 x84 x85 x86 x87 x88 x89 x90 x91 x92 x93 x94 x95 x96 x97 x98 x99 x100 x101 x102 x103 x104 x105 x106 x107 x108 x109 x110 : Value} (w : World) (R : Exit → Act → World → Prop) (hQ : ∀ c a d v w, R (.panic c) (a.put d v) w → R (.panic c) a w) (Y : Sv → World → Prop) (Z : World → Prop)
    (H18 : ∀ u, u = w.drew → Calls Try.prog 18 #[.slice d.a d.n d.c] u fun e v => ∃ m : Sv, e = .returned (.slice m.a m.n m.c) ∧ Y m v ∧ KV ob l d u v) (H17 : ∀ u m, Y m u → Calls Try.prog 17 #[.pointer (some ⟨sb, 0, none⟩), .int .i64 l, .slice m.a m.n m.c] u fun e v => e = .returned (.int .i64 er) ∧ Z v ∧ KV ob l d u v)
    (h : ∀ (ma : Option Addr) (mn mc : Nat) (u : World), Z u → SBx ob l d u → R .normal (⟨#[x0, x1, x2, x3, x4, x5, x6, .pointer (some ⟨sb, 0, none⟩), x8, x9, x10, .pointer (some ⟨ob, 0, none⟩), .int .i64 er, x13, x14, x15, x16, x17, x18, x19, x20, x21, x22, x23, x24, x25, x26, x27, x28, x29, x30, x31, x32, x33, x34, x35, x36, .pointer (some ⟨sb, 0, none⟩), .pointer (some ⟨ob, 0, none⟩), .int .i64 l, .pointer (some ⟨ob, 1, none⟩), .slice d.a d.n d.c, .slice ma mn mc, .int .i64 er, x44, x45, x46, x47, x48, x49, x50, x51, x52, x53, x54, x55, x56, x57, x58, x59, x60, x61, x62, x63, x64, x65, x66, x67, x68, x69, x70, x71, x72, x73, x74, x75, x76, x77, x78, x79, x80, x81, x82, x83, x84, x85, x86, x87, x88, x89, x90, x91, x92, x93, x94, x95, x96, x97, x98, x99, x100, x101, x102, x103, x104, x105, x106, x107, x108, x109, x110], []⟩ : Act) u) (u : World) (hS : (SBx ob l d) u) (z6 : Z u) :
    wpAnyH Try.prog .any (RofN Try.f5 8) R (SBx ob l d) 0 (#[true, true, true, true, true, true, true, true] : Array Bool) (⟨#[x0, x1, x2, x3, x4, x5, x6, .pointer (some ⟨sb, 0, none⟩), x8, x9, x10, .pointer (some ⟨ob, 0, none⟩), .int .i64 er, x13, x14, x15, x16, x17, x18, x19, x20, x21, x22, x23, x24, x25, x26, x27, x28, x29, x30, x31, x32, x33, x34, x35, x36, .pointer (some ⟨sb, 0, none⟩), .pointer (some ⟨ob, 0, none⟩), .int .i64 l, .pointer (some ⟨ob, 1, none⟩), .slice d.a d.n d.c, .slice ma mn mc, .int .i64 er, x44, x45, x46, x47, x48, x49, x50, x51, x52, x53, x54, x55, x56, x57, x58, x59, x60, x61, x62, x63, x64, x65, x66, x67, x68, x69, x70, x71, x72, x73, x74, x75, x76, x77, x78, x79, x80, x81, x82, x83, x84, x85, x86, x87, x88, x89, x90, x91, x92, x93, x94, x95, x96, x97, x98, x99, x100, x101, x102, x103, x104, x105, x106, x107, x108, x109, x110], []⟩ : Act) u := by
  refine wpAnyH_done (by kernel_rfl) ?_ _
  exact h ma mn mc u z6 hS
set_option maxHeartbeats 16000000 in
theorem sl8_5 (sb ob : Nat) (l er : Int) (d : Sv) (ma : Option Addr) (mn mc : Nat) {x0 x1 x2 x3 x4 x5 x6 x8 x9 x10 x12 x13 x14 x15 x16 x17 x18 x19 x20 x21 x22 x23 x24 x25 x26 x27 x28 x29 x30 x31 x32 x33 x34 x35 x36 x43 x44 x45 x46 x47 x48 x49 x50 x51 x52 x53 x54 x55 x56 x57 x58 x59 x60 x61 x62 x63 x64 x65 x66 x67 x68 x69 x70 x71 x72 x73 x74 x75 x76 x77 x78 x79 x80 x81 x82 x83 x84 x85 x86 x87 x88 x89 x90 x91 x92 x93 x94 x95 x96 x97 x98 x99 x100 x101 x102 x103 x104 x105 x106 x107 x108 x109 x110 : Value} (w : World) (R : Exit → Act → World → Prop) (hQ : ∀ c a d v w, R (.panic c) (a.put d v) w → R (.panic c) a w) (Y : Sv → World → Prop) (Z : World → Prop)
    (H18 : ∀ u, u = w.drew → Calls Try.prog 18 #[.slice d.a d.n d.c] u fun e v => ∃ m : Sv, e = .returned (.slice m.a m.n m.c) ∧ Y m v ∧ KV ob l d u v) (H17 : ∀ u m, Y m u → Calls Try.prog 17 #[.pointer (some ⟨sb, 0, none⟩), .int .i64 l, .slice m.a m.n m.c] u fun e v => e = .returned (.int .i64 er) ∧ Z v ∧ KV ob l d u v)
    (h : ∀ (ma : Option Addr) (mn mc : Nat) (u : World), Z u → SBx ob l d u → R .normal (⟨#[x0, x1, x2, x3, x4, x5, x6, .pointer (some ⟨sb, 0, none⟩), x8, x9, x10, .pointer (some ⟨ob, 0, none⟩), .int .i64 er, x13, x14, x15, x16, x17, x18, x19, x20, x21, x22, x23, x24, x25, x26, x27, x28, x29, x30, x31, x32, x33, x34, x35, x36, .pointer (some ⟨sb, 0, none⟩), .pointer (some ⟨ob, 0, none⟩), .int .i64 l, .pointer (some ⟨ob, 1, none⟩), .slice d.a d.n d.c, .slice ma mn mc, .int .i64 er, x44, x45, x46, x47, x48, x49, x50, x51, x52, x53, x54, x55, x56, x57, x58, x59, x60, x61, x62, x63, x64, x65, x66, x67, x68, x69, x70, x71, x72, x73, x74, x75, x76, x77, x78, x79, x80, x81, x82, x83, x84, x85, x86, x87, x88, x89, x90, x91, x92, x93, x94, x95, x96, x97, x98, x99, x100, x101, x102, x103, x104, x105, x106, x107, x108, x109, x110], []⟩ : Act) u) (u : World) (hS : (SBx ob l d) u) (y5 : Y ⟨ma, mn, mc⟩ u) :
    wpAnyH Try.prog .any (RofN Try.f5 8) R (SBx ob l d) 2 (#[true, true, true, true, true, true, false, false] : Array Bool) (⟨#[x0, x1, x2, x3, x4, x5, x6, .pointer (some ⟨sb, 0, none⟩), x8, x9, x10, .pointer (some ⟨ob, 0, none⟩), x12, x13, x14, x15, x16, x17, x18, x19, x20, x21, x22, x23, x24, x25, x26, x27, x28, x29, x30, x31, x32, x33, x34, x35, x36, .pointer (some ⟨sb, 0, none⟩), .pointer (some ⟨ob, 0, none⟩), .int .i64 l, .pointer (some ⟨ob, 1, none⟩), .slice d.a d.n d.c, .slice ma mn mc, x43, x44, x45, x46, x47, x48, x49, x50, x51, x52, x53, x54, x55, x56, x57, x58, x59, x60, x61, x62, x63, x64, x65, x66, x67, x68, x69, x70, x71, x72, x73, x74, x75, x76, x77, x78, x79, x80, x81, x82, x83, x84, x85, x86, x87, x88, x89, x90, x91, x92, x93, x94, x95, x96, x97, x98, x99, x100, x101, x102, x103, x104, x105, x106, x107, x108, x109, x110], []⟩ : Act) u := by
  refine wpAnyH_one (i := 6) (by kernel_rfl) ?_
  refine wpOp_callx (some 43) (by kernel_rfl) (by kernel_rfl) (by kernel_rfl) 17 #[.pointer (some ⟨sb, 0, none⟩), .int .i64 l, .slice ma mn mc] (by kernel_rfl) (H17 u ⟨ma, mn, mc⟩ y5) ?_
  rintro e v ⟨rfl, z6, q0⟩
  have q0 : KV ob l d u v := q0
  have hS1 : (SBx ob l d) v := SBx_q hS q0
  refine ⟨_, rfl, hS1, ?_⟩
  have e1 : (⟨#[x0, x1, x2, x3, x4, x5, x6, .pointer (some ⟨sb, 0, none⟩), x8, x9, x10, .pointer (some ⟨ob, 0, none⟩), x12, x13, x14, x15, x16, x17, x18, x19, x20, x21, x22, x23, x24, x25, x26, x27, x28, x29, x30, x31, x32, x33, x34, x35, x36, .pointer (some ⟨sb, 0, none⟩), .pointer (some ⟨ob, 0, none⟩), .int .i64 l, .pointer (some ⟨ob, 1, none⟩), .slice d.a d.n d.c, .slice ma mn mc, x43, x44, x45, x46, x47, x48, x49, x50, x51, x52, x53, x54, x55, x56, x57, x58, x59, x60, x61, x62, x63, x64, x65, x66, x67, x68, x69, x70, x71, x72, x73, x74, x75, x76, x77, x78, x79, x80, x81, x82, x83, x84, x85, x86, x87, x88, x89, x90, x91, x92, x93, x94, x95, x96, x97, x98, x99, x100, x101, x102, x103, x104, x105, x106, x107, x108, x109, x110], []⟩ : Act).put (some 43) (.int .i64 er) = (⟨#[x0, x1, x2, x3, x4, x5, x6, .pointer (some ⟨sb, 0, none⟩), x8, x9, x10, .pointer (some ⟨ob, 0, none⟩), x12, x13, x14, x15, x16, x17, x18, x19, x20, x21, x22, x23, x24, x25, x26, x27, x28, x29, x30, x31, x32, x33, x34, x35, x36, .pointer (some ⟨sb, 0, none⟩), .pointer (some ⟨ob, 0, none⟩), .int .i64 l, .pointer (some ⟨ob, 1, none⟩), .slice d.a d.n d.c, .slice ma mn mc, .int .i64 er, x44, x45, x46, x47, x48, x49, x50, x51, x52, x53, x54, x55, x56, x57, x58, x59, x60, x61, x62, x63, x64, x65, x66, x67, x68, x69, x70, x71, x72, x73, x74, x75, x76, x77, x78, x79, x80, x81, x82, x83, x84, x85, x86, x87, x88, x89, x90, x91, x92, x93, x94, x95, x96, x97, x98, x99, x100, x101, x102, x103, x104, x105, x106, x107, x108, x109, x110], []⟩ : Act) := by kernel_rfl
  have l1 : (#[true, true, true, true, true, true, false, false] : Array Bool).setIfInBounds 6 true = (#[true, true, true, true, true, true, true, false] : Array Bool) := by kernel_rfl
  rw [e1, l1]
  clear e1 l1
  refine chn_take (by kernel_rfl) hQ hS1 0 (sl8g1z sb ob l er d ma mn mc) _ _ (sl8g1 sb ob l er d ma mn mc w Y Z H18 H17) ?_
  have e0 : putL (RofN Try.f5 8) (sl8g1z sb ob l er d ma mn mc) (⟨#[x0, x1, x2, x3, x4, x5, x6, .pointer (some ⟨sb, 0, none⟩), x8, x9, x10, .pointer (some ⟨ob, 0, none⟩), x12, x13, x14, x15, x16, x17, x18, x19, x20, x21, x22, x23, x24, x25, x26, x27, x28, x29, x30, x31, x32, x33, x34, x35, x36, .pointer (some ⟨sb, 0, none⟩), .pointer (some ⟨ob, 0, none⟩), .int .i64 l, .pointer (some ⟨ob, 1, none⟩), .slice d.a d.n d.c, .slice ma mn mc, .int .i64 er, x44, x45, x46, x47, x48, x49, x50, x51, x52, x53, x54, x55, x56, x57, x58, x59, x60, x61, x62, x63, x64, x65, x66, x67, x68, x69, x70, x71, x72, x73, x74, x75, x76, x77, x78, x79, x80, x81, x82, x83, x84, x85, x86, x87, x88, x89, x90, x91, x92, x93, x94, x95, x96, x97, x98, x99, x100, x101, x102, x103, x104, x105, x106, x107, x108, x109, x110], []⟩ : Act) = (⟨#[x0, x1, x2, x3, x4, x5, x6, .pointer (some ⟨sb, 0, none⟩), x8, x9, x10, .pointer (some ⟨ob, 0, none⟩), .int .i64 er, x13, x14, x15, x16, x17, x18, x19, x20, x21, x22, x23, x24, x25, x26, x27, x28, x29, x30, x31, x32, x33, x34, x35, x36, .pointer (some ⟨sb, 0, none⟩), .pointer (some ⟨ob, 0, none⟩), .int .i64 l, .pointer (some ⟨ob, 1, none⟩), .slice d.a d.n d.c, .slice ma mn mc, .int .i64 er, x44, x45, x46, x47, x48, x49, x50, x51, x52, x53, x54, x55, x56, x57, x58, x59, x60, x61, x62, x63, x64, x65, x66, x67, x68, x69, x70, x71, x72, x73, x74, x75, x76, x77, x78, x79, x80, x81, x82, x83, x84, x85, x86, x87, x88, x89, x90, x91, x92, x93, x94, x95, x96, x97, x98, x99, x100, x101, x102, x103, x104, x105, x106, x107, x108, x109, x110], []⟩ : Act) := by kernel_rfl
  have l0 : setL (sl8g1z sb ob l er d ma mn mc) (#[true, true, true, true, true, true, true, false] : Array Bool) = (#[true, true, true, true, true, true, true, true] : Array Bool) := by kernel_rfl
  rw [e0, l0]
  clear e0 l0
  exact sl8_5_6 sb ob l er d ma mn mc w R hQ Y Z H18 H17 h v hS1 (z6)
set_option maxHeartbeats 16000000 in
theorem sl8_o (sb ob : Nat) (l er : Int) (d : Sv)  {x0 x1 x2 x3 x4 x5 x6 x8 x9 x10 x12 x13 x14 x15 x16 x17 x18 x19 x20 x21 x22 x23 x24 x25 x26 x27 x28 x29 x30 x31 x32 x33 x34 x35 x36 x42 x43 x44 x45 x46 x47 x48 x49 x50 x51 x52 x53 x54 x55 x56 x57 x58 x59 x60 x61 x62 x63 x64 x65 x66 x67 x68 x69 x70 x71 x72 x73 x74 x75 x76 x77 x78 x79 x80 x81 x82 x83 x84 x85 x86 x87 x88 x89 x90 x91 x92 x93 x94 x95 x96 x97 x98 x99 x100 x101 x102 x103 x104 x105 x106 x107 x108 x109 x110 : Value} (w : World) (R : Exit → Act → World → Prop) (hQ : ∀ c a d v w, R (.panic c) (a.put d v) w → R (.panic c) a w) (Y : Sv → World → Prop) (Z : World → Prop)
    (H18 : ∀ u, u = w.drew → Calls Try.prog 18 #[.slice d.a d.n d.c] u fun e v => ∃ m : Sv, e = .returned (.slice m.a m.n m.c) ∧ Y m v ∧ KV ob l d u v) (H17 : ∀ u m, Y m u → Calls Try.prog 17 #[.pointer (some ⟨sb, 0, none⟩), .int .i64 l, .slice m.a m.n m.c] u fun e v => e = .returned (.int .i64 er) ∧ Z v ∧ KV ob l d u v)
    (h : ∀ (ma : Option Addr) (mn mc : Nat) (u : World), Z u → SBx ob l d u → R .normal (⟨#[x0, x1, x2, x3, x4, x5, x6, .pointer (some ⟨sb, 0, none⟩), x8, x9, x10, .pointer (some ⟨ob, 0, none⟩), .int .i64 er, x13, x14, x15, x16, x17, x18, x19, x20, x21, x22, x23, x24, x25, x26, x27, x28, x29, x30, x31, x32, x33, x34, x35, x36, .pointer (some ⟨sb, 0, none⟩), .pointer (some ⟨ob, 0, none⟩), .int .i64 l, .pointer (some ⟨ob, 1, none⟩), .slice d.a d.n d.c, .slice ma mn mc, .int .i64 er, x44, x45, x46, x47, x48, x49, x50, x51, x52, x53, x54, x55, x56, x57, x58, x59, x60, x61, x62, x63, x64, x65, x66, x67, x68, x69, x70, x71, x72, x73, x74, x75, x76, x77, x78, x79, x80, x81, x82, x83, x84, x85, x86, x87, x88, x89, x90, x91, x92, x93, x94, x95, x96, x97, x98, x99, x100, x101, x102, x103, x104, x105, x106, x107, x108, x109, x110], []⟩ : Act) u) (u : World) (hS : (SBx ob l d) u) (hu : u = w.drew) :
    wpAnyH Try.prog .any (RofN Try.f5 8) R (SBx ob l d) 3 (#[true, true, true, true, true, false, false, false] : Array Bool) (⟨#[x0, x1, x2, x3, x4, x5, x6, .pointer (some ⟨sb, 0, none⟩), x8, x9, x10, .pointer (some ⟨ob, 0, none⟩), x12, x13, x14, x15, x16, x17, x18, x19, x20, x21, x22, x23, x24, x25, x26, x27, x28, x29, x30, x31, x32, x33, x34, x35, x36, .pointer (some ⟨sb, 0, none⟩), .pointer (some ⟨ob, 0, none⟩), .int .i64 l, .pointer (some ⟨ob, 1, none⟩), .slice d.a d.n d.c, x42, x43, x44, x45, x46, x47, x48, x49, x50, x51, x52, x53, x54, x55, x56, x57, x58, x59, x60, x61, x62, x63, x64, x65, x66, x67, x68, x69, x70, x71, x72, x73, x74, x75, x76, x77, x78, x79, x80, x81, x82, x83, x84, x85, x86, x87, x88, x89, x90, x91, x92, x93, x94, x95, x96, x97, x98, x99, x100, x101, x102, x103, x104, x105, x106, x107, x108, x109, x110], []⟩ : Act) u := by
  refine wpAnyH_one (i := 5) (by kernel_rfl) ?_
  refine wpOp_callx (some 42) (by kernel_rfl) (by kernel_rfl) (by kernel_rfl) 18 #[.slice d.a d.n d.c] (by kernel_rfl) (H18 u hu) ?_
  rintro e v ⟨⟨ma, mn, mc⟩, rfl, y5, q0⟩
  have q0 : KV ob l d u v := q0
  have hS1 : (SBx ob l d) v := SBx_q hS q0
  refine ⟨_, rfl, hS1, ?_⟩
  have e1 : (⟨#[x0, x1, x2, x3, x4, x5, x6, .pointer (some ⟨sb, 0, none⟩), x8, x9, x10, .pointer (some ⟨ob, 0, none⟩), x12, x13, x14, x15, x16, x17, x18, x19, x20, x21, x22, x23, x24, x25, x26, x27, x28, x29, x30, x31, x32, x33, x34, x35, x36, .pointer (some ⟨sb, 0, none⟩), .pointer (some ⟨ob, 0, none⟩), .int .i64 l, .pointer (some ⟨ob, 1, none⟩), .slice d.a d.n d.c, x42, x43, x44, x45, x46, x47, x48, x49, x50, x51, x52, x53, x54, x55, x56, x57, x58, x59, x60, x61, x62, x63, x64, x65, x66, x67, x68, x69, x70, x71, x72, x73, x74, x75, x76, x77, x78, x79, x80, x81, x82, x83, x84, x85, x86, x87, x88, x89, x90, x91, x92, x93, x94, x95, x96, x97, x98, x99, x100, x101, x102, x103, x104, x105, x106, x107, x108, x109, x110], []⟩ : Act).put (some 42) (.slice ma mn mc) = (⟨#[x0, x1, x2, x3, x4, x5, x6, .pointer (some ⟨sb, 0, none⟩), x8, x9, x10, .pointer (some ⟨ob, 0, none⟩), x12, x13, x14, x15, x16, x17, x18, x19, x20, x21, x22, x23, x24, x25, x26, x27, x28, x29, x30, x31, x32, x33, x34, x35, x36, .pointer (some ⟨sb, 0, none⟩), .pointer (some ⟨ob, 0, none⟩), .int .i64 l, .pointer (some ⟨ob, 1, none⟩), .slice d.a d.n d.c, .slice ma mn mc, x43, x44, x45, x46, x47, x48, x49, x50, x51, x52, x53, x54, x55, x56, x57, x58, x59, x60, x61, x62, x63, x64, x65, x66, x67, x68, x69, x70, x71, x72, x73, x74, x75, x76, x77, x78, x79, x80, x81, x82, x83, x84, x85, x86, x87, x88, x89, x90, x91, x92, x93, x94, x95, x96, x97, x98, x99, x100, x101, x102, x103, x104, x105, x106, x107, x108, x109, x110], []⟩ : Act) := by kernel_rfl
  have l1 : (#[true, true, true, true, true, false, false, false] : Array Bool).setIfInBounds 5 true = (#[true, true, true, true, true, true, false, false] : Array Bool) := by kernel_rfl
  rw [e1, l1]
  clear e1 l1
  exact sl8_5 sb ob l er d ma mn mc w R hQ Y Z H18 H17 h v hS1 (y5)
set_option maxHeartbeats 16000000 in
theorem sl8 (sb ob : Nat) (l er : Int) (d : Sv) {x0 x1 x2 x3 x4 x5 x6 x8 x9 x10 x12 x13 x14 x15 x16 x17 x18 x19 x20 x21 x22 x23 x24 x25 x26 x27 x28 x29 x30 x31 x32 x33 x34 x35 x36 x37 x38 x39 x40 x41 x42 x43 x44 x45 x46 x47 x48 x49 x50 x51 x52 x53 x54 x55 x56 x57 x58 x59 x60 x61 x62 x63 x64 x65 x66 x67 x68 x69 x70 x71 x72 x73 x74 x75 x76 x77 x78 x79 x80 x81 x82 x83 x84 x85 x86 x87 x88 x89 x90 x91 x92 x93 x94 x95 x96 x97 x98 x99 x100 x101 x102 x103 x104 x105 x106 x107 x108 x109 x110 : Value} (w : World) (R : Exit → Act → World → Prop) (hQ : ∀ c a d v w, R (.panic c) (a.put d v) w → R (.panic c) a w) (Y : Sv → World → Prop) (Z : World → Prop)
    (H18 : ∀ u, u = w.drew → Calls Try.prog 18 #[.slice d.a d.n d.c] u fun e v => ∃ m : Sv, e = .returned (.slice m.a m.n m.c) ∧ Y m v ∧ KV ob l d u v) (H17 : ∀ u m, Y m u → Calls Try.prog 17 #[.pointer (some ⟨sb, 0, none⟩), .int .i64 l, .slice m.a m.n m.c] u fun e v => e = .returned (.int .i64 er) ∧ Z v ∧ KV ob l d u v) (hS : (SBx ob l d) w)
    (h : ∀ (ma : Option Addr) (mn mc : Nat) (u : World), Z u → SBx ob l d u → R .normal (⟨#[x0, x1, x2, x3, x4, x5, x6, .pointer (some ⟨sb, 0, none⟩), x8, x9, x10, .pointer (some ⟨ob, 0, none⟩), .int .i64 er, x13, x14, x15, x16, x17, x18, x19, x20, x21, x22, x23, x24, x25, x26, x27, x28, x29, x30, x31, x32, x33, x34, x35, x36, .pointer (some ⟨sb, 0, none⟩), .pointer (some ⟨ob, 0, none⟩), .int .i64 l, .pointer (some ⟨ob, 1, none⟩), .slice d.a d.n d.c, .slice ma mn mc, .int .i64 er, x44, x45, x46, x47, x48, x49, x50, x51, x52, x53, x54, x55, x56, x57, x58, x59, x60, x61, x62, x63, x64, x65, x66, x67, x68, x69, x70, x71, x72, x73, x74, x75, x76, x77, x78, x79, x80, x81, x82, x83, x84, x85, x86, x87, x88, x89, x90, x91, x92, x93, x94, x95, x96, x97, x98, x99, x100, x101, x102, x103, x104, x105, x106, x107, x108, x109, x110], []⟩ : Act) u) :
    (Code.region 8 (RofN Try.f5 8) true).wp Try.prog R (⟨#[x0, x1, x2, x3, x4, x5, x6, .pointer (some ⟨sb, 0, none⟩), x8, x9, x10, .pointer (some ⟨ob, 0, none⟩), x12, x13, x14, x15, x16, x17, x18, x19, x20, x21, x22, x23, x24, x25, x26, x27, x28, x29, x30, x31, x32, x33, x34, x35, x36, x37, x38, x39, x40, x41, x42, x43, x44, x45, x46, x47, x48, x49, x50, x51, x52, x53, x54, x55, x56, x57, x58, x59, x60, x61, x62, x63, x64, x65, x66, x67, x68, x69, x70, x71, x72, x73, x74, x75, x76, x77, x78, x79, x80, x81, x82, x83, x84, x85, x86, x87, x88, x89, x90, x91, x92, x93, x94, x95, x96, x97, x98, x99, x100, x101, x102, x103, x104, x105, x106, x107, x108, x109, x110], []⟩ : Act) w := by
  refine wp_region_held (S := (SBx ob l d)) (by kernel_rfl) ?_
  have hsz : (RofN Try.f5 8).size = 8 := by kernel_rfl
  rw [hsz]
  have hS0 : (SBx ob l d) w.drew := SBx_q hS (show KV ob l d w w.drew from fun h => h)
  refine chn_take (by kernel_rfl) hQ hS0 3 (sl8g0z sb ob l er d ) _ _ (sl8g0 sb ob l er d  w Y Z H18 H17) ?_
  have e0 : putL (RofN Try.f5 8) (sl8g0z sb ob l er d ) (⟨#[x0, x1, x2, x3, x4, x5, x6, .pointer (some ⟨sb, 0, none⟩), x8, x9, x10, .pointer (some ⟨ob, 0, none⟩), x12, x13, x14, x15, x16, x17, x18, x19, x20, x21, x22, x23, x24, x25, x26, x27, x28, x29, x30, x31, x32, x33, x34, x35, x36, x37, x38, x39, x40, x41, x42, x43, x44, x45, x46, x47, x48, x49, x50, x51, x52, x53, x54, x55, x56, x57, x58, x59, x60, x61, x62, x63, x64, x65, x66, x67, x68, x69, x70, x71, x72, x73, x74, x75, x76, x77, x78, x79, x80, x81, x82, x83, x84, x85, x86, x87, x88, x89, x90, x91, x92, x93, x94, x95, x96, x97, x98, x99, x100, x101, x102, x103, x104, x105, x106, x107, x108, x109, x110], []⟩ : Act) = (⟨#[x0, x1, x2, x3, x4, x5, x6, .pointer (some ⟨sb, 0, none⟩), x8, x9, x10, .pointer (some ⟨ob, 0, none⟩), x12, x13, x14, x15, x16, x17, x18, x19, x20, x21, x22, x23, x24, x25, x26, x27, x28, x29, x30, x31, x32, x33, x34, x35, x36, .pointer (some ⟨sb, 0, none⟩), .pointer (some ⟨ob, 0, none⟩), .int .i64 l, .pointer (some ⟨ob, 1, none⟩), .slice d.a d.n d.c, x42, x43, x44, x45, x46, x47, x48, x49, x50, x51, x52, x53, x54, x55, x56, x57, x58, x59, x60, x61, x62, x63, x64, x65, x66, x67, x68, x69, x70, x71, x72, x73, x74, x75, x76, x77, x78, x79, x80, x81, x82, x83, x84, x85, x86, x87, x88, x89, x90, x91, x92, x93, x94, x95, x96, x97, x98, x99, x100, x101, x102, x103, x104, x105, x106, x107, x108, x109, x110], []⟩ : Act) := by kernel_rfl
  have l0 : setL (sl8g0z sb ob l er d ) (Array.replicate 8 false) = (#[true, true, true, true, true, false, false, false] : Array Bool) := by kernel_rfl
  rw [e0, l0]
  clear e0 l0
  exact sl8_o sb ob l er d w R hQ Y Z H18 H17 h _ hS0 (rfl)
def sl19g0z (sb ob : Nat) (l er : Int) (d : Sv)  : List (Nat × Value) := [(0, .pointer (some ⟨sb, 0, none⟩)), (1, .pointer (some ⟨ob, 0, none⟩)), (3, .pointer (some ⟨ob, 1, none⟩)), (2, .int .i64 l), (4, .slice d.a d.n d.c)]
set_option maxHeartbeats 8000000 in
theorem sl19g0 (sb ob : Nat) (l er : Int) (d : Sv)  {x0 x1 x2 x3 x4 x5 x6 x8 x9 x10 x11 x12 x13 x14 x15 x17 x18 x19 x20 x21 x22 x23 x24 x25 x26 x27 x28 x29 x30 x31 x32 x33 x34 x35 x36 x37 x38 x39 x40 x41 x42 x43 x44 x45 x46 x47 x48 x49 x50 x51 x52 x53 x54 x55 x56 x57 x58 x59 x60 x61 x62 x63 x64 x65 x66 x67 x68 x69 x70 x71 x72 x73 x74 x75 x76 x77 x78 x79 x80 x81 x82 x83 x84 x85 x86 x87 x88 x89 x90 x91 x92 x93 x94 x95 x96 x97 x98 x99 x100 x101 x102 x103 x104 x105 x106 x107 x108 x109 x110 : Value} (w : World) (Y : Sv → World → Prop) (Z : World → Prop)
    (H18 : ∀ u, u = w.drew → Calls Try.prog 18 #[.slice d.a d.n d.c] u fun e v => ∃ m : Sv, e = .returned (.slice m.a m.n m.c) ∧ Y m v ∧ KV ob l d u v) (H17 : ∀ u m, Y m u → Calls Try.prog 17 #[.pointer (some ⟨sb, 0, none⟩), .int .i64 l, .slice m.a m.n m.c] u fun e v => e = .returned (.int .i64 er) ∧ Z v ∧ KV ob l d u v) : Chn Try.prog (RofN Try.f5 19) (SBx ob l d) (sl19g0z sb ob l er d ) (#[false, false, false, false, false, false, false, false] : Array Bool) (⟨#[x0, x1, x2, x3, x4, x5, x6, .pointer (some ⟨sb, 0, none⟩), x8, x9, x10, x11, x12, x13, x14, x15, .pointer (some ⟨ob, 0, none⟩), x17, x18, x19, x20, x21, x22, x23, x24, x25, x26, x27, x28, x29, x30, x31, x32, x33, x34, x35, x36, x37, x38, x39, x40, x41, x42, x43, x44, x45, x46, x47, x48, x49, x50, x51, x52, x53, x54, x55, x56, x57, x58, x59, x60, x61, x62, x63, x64, x65, x66, x67, x68, x69, x70, x71, x72, x73, x74, x75, x76, x77, x78, x79, x80, x81, x82, x83, x84, x85, x86, x87, x88, x89, x90, x91, x92, x93, x94, x95, x96, x97, x98, x99, x100, x101, x102, x103, x104, x105, x106, x107, x108, x109, x110], []⟩ : Act) :=
  ⟨⟨by kernel_rfl, by kernel_rfl, by kernel_rfl, by kernel_rfl, fun u h => by kernel_rfl⟩,
    ⟨by kernel_rfl, by kernel_rfl, by kernel_rfl, by kernel_rfl, fun u h => by kernel_rfl⟩,
    ⟨by kernel_rfl, by kernel_rfl, by kernel_rfl, by kernel_rfl, fun u h => by kernel_rfl⟩,
    ⟨by kernel_rfl, by kernel_rfl, by kernel_rfl, by kernel_rfl, fun u h => ld_t 3 (.tmp 73) ob 0 (by kernel_rfl) (by kernel_rfl) (ld3' h.1)⟩,
    ⟨by kernel_rfl, by kernel_rfl, by kernel_rfl, by kernel_rfl, fun u h => ld_t 24 (.tmp 75) ob 1 (by kernel_rfl) (by kernel_rfl) (ld24' h.2)⟩,
    trivial⟩
def sl19g1z (sb ob : Nat) (l er : Int) (d : Sv) (ma : Option Addr) (mn mc : Nat)  : List (Nat × Value) := [(7, .int .i64 er)]
set_option maxHeartbeats 8000000 in
theorem sl19g1 (sb ob : Nat) (l er : Int) (d : Sv) (ma : Option Addr) (mn mc : Nat)  {x0 x1 x2 x3 x4 x5 x6 x8 x9 x10 x11 x12 x13 x14 x15 x17 x18 x19 x20 x21 x22 x23 x24 x25 x26 x27 x28 x29 x30 x31 x32 x33 x34 x35 x36 x37 x38 x39 x40 x41 x42 x43 x44 x45 x46 x47 x48 x49 x50 x51 x52 x53 x54 x55 x56 x57 x58 x59 x60 x61 x62 x63 x64 x65 x66 x67 x68 x69 x70 x71 x79 x80 x81 x82 x83 x84 x85 x86 x87 x88 x89 x90 x91 x92 x93 x94 x95 x96 x97 x98 x99 x100 x101 x102 x103 x104 x105 x106 x107 x108 x109 x110 : Value} (w : World) (Y : Sv → World → Prop) (Z : World → Prop)
    (H18 : ∀ u, u = w.drew → Calls Try.prog 18 #[.slice d.a d.n d.c] u fun e v => ∃ m : Sv, e = .returned (.slice m.a m.n m.c) ∧ Y m v ∧ KV ob l d u v) (H17 : ∀ u m, Y m u → Calls Try.prog 17 #[.pointer (some ⟨sb, 0, none⟩), .int .i64 l, .slice m.a m.n m.c] u fun e v => e = .returned (.int .i64 er) ∧ Z v ∧ KV ob l d u v) : Chn Try.prog (RofN Try.f5 19) (SBx ob l d) (sl19g1z sb ob l er d ma mn mc) (#[true, true, true, true, true, true, true, false] : Array Bool) (⟨#[x0, x1, x2, x3, x4, x5, x6, .pointer (some ⟨sb, 0, none⟩), x8, x9, x10, x11, x12, x13, x14, x15, .pointer (some ⟨ob, 0, none⟩), x17, x18, x19, x20, x21, x22, x23, x24, x25, x26, x27, x28, x29, x30, x31, x32, x33, x34, x35, x36, x37, x38, x39, x40, x41, x42, x43, x44, x45, x46, x47, x48, x49, x50, x51, x52, x53, x54, x55, x56, x57, x58, x59, x60, x61, x62, x63, x64, x65, x66, x67, x68, x69, x70, x71, .pointer (some ⟨sb, 0, none⟩), .pointer (some ⟨ob, 0, none⟩), .int .i64 l, .pointer (some ⟨ob, 1, none⟩), .slice d.a d.n d.c, .slice ma mn mc, .int .i64 er, x79, x80, x81, x82, x83, x84, x85, x86, x87, x88, x89, x90, x91, x92, x93, x94, x95, x96, x97, x98, x99, x100, x101, x102, x103, x104, x105, x106, x107, x108, x109, x110], []⟩ : Act) :=
  ⟨⟨by kernel_rfl, by kernel_rfl, by kernel_rfl, by kernel_rfl, fun u h => by kernel_rfl⟩,
    trivial⟩
set_option maxHeartbeats 16000000 in
theorem sl19_5_6 (sb ob : Nat) (l er : Int) (d : Sv) (ma : Option Addr) (mn mc : Nat)  {x0 x1 x2 x3 x4 x5 x6 x8 x9 x10 x11 x12 x13 x14 x15 x18 x19 x20 x21 x22 x23 x24 x25 x26 x27 x28 x29 x30 x31 x32 x33 x34 x35 x36 x37 x38 x39 x40 x41 x42 x43 x44 x45 x46 x47 x48 x49 x50 x51 x52 x53 x54 x55 x56 x57 x58 x59 x60 x61 x62 x63 x64 x65 x66 x67 x68 x69 x70 x71 x79 x80 x81 x82 x83 x84 x85 x86 x87 x88 x89 x90 x91 x92 x93 x94 x95 x96 x97 x98 x99 x100 x101 x102 x103 x104 x105 x106 x107 x108 x109 x110 : Value} (w : World) (R : Exit → Act → World → Prop) (hQ : ∀ c a d v w, R (.panic c) (a.put d v) w → R (.panic c) a w) (Y : Sv → World → Prop) (Z : World → Prop)
    (H18 : ∀ u, u = w.drew → Calls Try.prog 18 #[.slice d.a d.n d.c] u fun e v => ∃ m : Sv, e = .returned (.slice m.a m.n m.c) ∧ Y m v ∧ KV ob l d u v) (H17 : ∀ u m, Y m u → Calls Try.prog 17 #[.pointer (some ⟨sb, 0, none⟩), .int .i64 l, .slice m.a m.n m.c] u fun e v => e = .returned (.int .i64 er) ∧ Z v ∧ KV ob l d u v)
    (h : ∀ (ma : Option Addr) (mn mc : Nat) (u : World), Z u → SBx ob l d u → R .normal (⟨#[x0, x1, x2, x3, x4, x5, x6, .pointer (some ⟨sb, 0, none⟩), x8, x9, x10, x11, x12, x13, x14, x15, .pointer (some ⟨ob, 0, none⟩), .int .i64 er, x18, x19, x20, x21, x22, x23, x24, x25, x26, x27, x28, x29, x30, x31, x32, x33, x34, x35, x36, x37, x38, x39, x40, x41, x42, x43, x44, x45, x46, x47, x48, x49, x50, x51, x52, x53, x54, x55, x56, x57, x58, x59, x60, x61, x62, x63, x64, x65, x66, x67, x68, x69, x70, x71, .pointer (some ⟨sb, 0, none⟩), .pointer (some ⟨ob, 0, none⟩), .int .i64 l, .pointer (some ⟨ob, 1, none⟩), .slice d.a d.n d.c, .slice ma mn mc, .int .i64 er, x79, x80, x81, x82, x83, x84, x85, x86, x87, x88, x89, x90, x91, x92, x93, x94, x95, x96, x97, x98, x99, x100, x101, x102, x103, x104, x105, x106, x107, x108, x109, x110], []⟩ : Act) u) (u : World) (hS : (SBx ob l d) u) (z6 : Z u) :
    wpAnyH Try.prog .any (RofN Try.f5 19) R (SBx ob l d) 0 (#[true, true, true, true, true, true, true, true] : Array Bool) (⟨#[x0, x1, x2, x3, x4, x5, x6, .pointer (some ⟨sb, 0, none⟩), x8, x9, x10, x11, x12, x13, x14, x15, .pointer (some ⟨ob, 0, none⟩), .int .i64 er, x18, x19, x20, x21, x22, x23, x24, x25, x26, x27, x28, x29, x30, x31, x32, x33, x34, x35, x36, x37, x38, x39, x40, x41, x42, x43, x44, x45, x46, x47, x48, x49, x50, x51, x52, x53, x54, x55, x56, x57, x58, x59, x60, x61, x62, x63, x64, x65, x66, x67, x68, x69, x70, x71, .pointer (some ⟨sb, 0, none⟩), .pointer (some ⟨ob, 0, none⟩), .int .i64 l, .pointer (some ⟨ob, 1, none⟩), .slice d.a d.n d.c, .slice ma mn mc, .int .i64 er, x79, x80, x81, x82, x83, x84, x85, x86, x87, x88, x89, x90, x91, x92, x93, x94, x95, x96, x97, x98, x99, x100, x101, x102, x103, x104, x105, x106, x107, x108, x109, x110], []⟩ : Act) u := by
  refine wpAnyH_done (by kernel_rfl) ?_ _
  exact h ma mn mc u z6 hS
set_option maxHeartbeats 16000000 in
theorem sl19_5 (sb ob : Nat) (l er : Int) (d : Sv) (ma : Option Addr) (mn mc : Nat) {x0 x1 x2 x3 x4 x5 x6 x8 x9 x10 x11 x12 x13 x14 x15 x17 x18 x19 x20 x21 x22 x23 x24 x25 x26 x27 x28 x29 x30 x31 x32 x33 x34 x35 x36 x37 x38 x39 x40 x41 x42 x43 x44 x45 x46 x47 x48 x49 x50 x51 x52 x53 x54 x55 x56 x57 x58 x59 x60 x61 x62 x63 x64 x65 x66 x67 x68 x69 x70 x71 x78 x79 x80 x81 x82 x83 x84 x85 x86 x87 x88 x89 x90 x91 x92 x93 x94 x95 x96 x97 x98 x99 x100 x101 x102 x103 x104 x105 x106 x107 x108 x109 x110 : Value} (w : World) (R : Exit → Act → World → Prop) (hQ : ∀ c a d v w, R (.panic c) (a.put d v) w → R (.panic c) a w) (Y : Sv → World → Prop) (Z : World → Prop)
    (H18 : ∀ u, u = w.drew → Calls Try.prog 18 #[.slice d.a d.n d.c] u fun e v => ∃ m : Sv, e = .returned (.slice m.a m.n m.c) ∧ Y m v ∧ KV ob l d u v) (H17 : ∀ u m, Y m u → Calls Try.prog 17 #[.pointer (some ⟨sb, 0, none⟩), .int .i64 l, .slice m.a m.n m.c] u fun e v => e = .returned (.int .i64 er) ∧ Z v ∧ KV ob l d u v)
    (h : ∀ (ma : Option Addr) (mn mc : Nat) (u : World), Z u → SBx ob l d u → R .normal (⟨#[x0, x1, x2, x3, x4, x5, x6, .pointer (some ⟨sb, 0, none⟩), x8, x9, x10, x11, x12, x13, x14, x15, .pointer (some ⟨ob, 0, none⟩), .int .i64 er, x18, x19, x20, x21, x22, x23, x24, x25, x26, x27, x28, x29, x30, x31, x32, x33, x34, x35, x36, x37, x38, x39, x40, x41, x42, x43, x44, x45, x46, x47, x48, x49, x50, x51, x52, x53, x54, x55, x56, x57, x58, x59, x60, x61, x62, x63, x64, x65, x66, x67, x68, x69, x70, x71, .pointer (some ⟨sb, 0, none⟩), .pointer (some ⟨ob, 0, none⟩), .int .i64 l, .pointer (some ⟨ob, 1, none⟩), .slice d.a d.n d.c, .slice ma mn mc, .int .i64 er, x79, x80, x81, x82, x83, x84, x85, x86, x87, x88, x89, x90, x91, x92, x93, x94, x95, x96, x97, x98, x99, x100, x101, x102, x103, x104, x105, x106, x107, x108, x109, x110], []⟩ : Act) u) (u : World) (hS : (SBx ob l d) u) (y5 : Y ⟨ma, mn, mc⟩ u) :
    wpAnyH Try.prog .any (RofN Try.f5 19) R (SBx ob l d) 2 (#[true, true, true, true, true, true, false, false] : Array Bool) (⟨#[x0, x1, x2, x3, x4, x5, x6, .pointer (some ⟨sb, 0, none⟩), x8, x9, x10, x11, x12, x13, x14, x15, .pointer (some ⟨ob, 0, none⟩), x17, x18, x19, x20, x21, x22, x23, x24, x25, x26, x27, x28, x29, x30, x31, x32, x33, x34, x35, x36, x37, x38, x39, x40, x41, x42, x43, x44, x45, x46, x47, x48, x49, x50, x51, x52, x53, x54, x55, x56, x57, x58, x59, x60, x61, x62, x63, x64, x65, x66, x67, x68, x69, x70, x71, .pointer (some ⟨sb, 0, none⟩), .pointer (some ⟨ob, 0, none⟩), .int .i64 l, .pointer (some ⟨ob, 1, none⟩), .slice d.a d.n d.c, .slice ma mn mc, x78, x79, x80, x81, x82, x83, x84, x85, x86, x87, x88, x89, x90, x91, x92, x93, x94, x95, x96, x97, x98, x99, x100, x101, x102, x103, x104, x105, x106, x107, x108, x109, x110], []⟩ : Act) u := by
  refine wpAnyH_one (i := 6) (by kernel_rfl) ?_
  refine wpOp_callx (some 78) (by kernel_rfl) (by kernel_rfl) (by kernel_rfl) 17 #[.pointer (some ⟨sb, 0, none⟩), .int .i64 l, .slice ma mn mc] (by kernel_rfl) (H17 u ⟨ma, mn, mc⟩ y5) ?_
  rintro e v ⟨rfl, z6, q0⟩
  have q0 : KV ob l d u v := q0
  have hS1 : (SBx ob l d) v := SBx_q hS q0
  refine ⟨_, rfl, hS1, ?_⟩
  have e1 : (⟨#[x0, x1, x2, x3, x4, x5, x6, .pointer (some ⟨sb, 0, none⟩), x8, x9, x10, x11, x12, x13, x14, x15, .pointer (some ⟨ob, 0, none⟩), x17, x18, x19, x20, x21, x22, x23, x24, x25, x26, x27, x28, x29, x30, x31, x32, x33, x34, x35, x36, x37, x38, x39, x40, x41, x42, x43, x44, x45, x46, x47, x48, x49, x50, x51, x52, x53, x54, x55, x56, x57, x58, x59, x60, x61, x62, x63, x64, x65, x66, x67, x68, x69, x70, x71, .pointer (some ⟨sb, 0, none⟩), .pointer (some ⟨ob, 0, none⟩), .int .i64 l, .pointer (some ⟨ob, 1, none⟩), .slice d.a d.n d.c, .slice ma mn mc, x78, x79, x80, x81, x82, x83, x84, x85, x86, x87, x88, x89, x90, x91, x92, x93, x94, x95, x96, x97, x98, x99, x100, x101, x102, x103, x104, x105, x106, x107, x108, x109, x110], []⟩ : Act).put (some 78) (.int .i64 er) = (⟨#[x0, x1, x2, x3, x4, x5, x6, .pointer (some ⟨sb, 0, none⟩), x8, x9, x10, x11, x12, x13, x14, x15, .pointer (some ⟨ob, 0, none⟩), x17, x18, x19, x20, x21, x22, x23, x24, x25, x26, x27, x28, x29, x30, x31, x32, x33, x34, x35, x36, x37, x38, x39, x40, x41, x42, x43, x44, x45, x46, x47, x48, x49, x50, x51, x52, x53, x54, x55, x56, x57, x58, x59, x60, x61, x62, x63, x64, x65, x66, x67, x68, x69, x70, x71, .pointer (some ⟨sb, 0, none⟩), .pointer (some ⟨ob, 0, none⟩), .int .i64 l, .pointer (some ⟨ob, 1, none⟩), .slice d.a d.n d.c, .slice ma mn mc, .int .i64 er, x79, x80, x81, x82, x83, x84, x85, x86, x87, x88, x89, x90, x91, x92, x93, x94, x95, x96, x97, x98, x99, x100, x101, x102, x103, x104, x105, x106, x107, x108, x109, x110], []⟩ : Act) := by kernel_rfl
  have l1 : (#[true, true, true, true, true, true, false, false] : Array Bool).setIfInBounds 6 true = (#[true, true, true, true, true, true, true, false] : Array Bool) := by kernel_rfl
  rw [e1, l1]
  clear e1 l1
  refine chn_take (by kernel_rfl) hQ hS1 0 (sl19g1z sb ob l er d ma mn mc) _ _ (sl19g1 sb ob l er d ma mn mc w Y Z H18 H17) ?_
  have e0 : putL (RofN Try.f5 19) (sl19g1z sb ob l er d ma mn mc) (⟨#[x0, x1, x2, x3, x4, x5, x6, .pointer (some ⟨sb, 0, none⟩), x8, x9, x10, x11, x12, x13, x14, x15, .pointer (some ⟨ob, 0, none⟩), x17, x18, x19, x20, x21, x22, x23, x24, x25, x26, x27, x28, x29, x30, x31, x32, x33, x34, x35, x36, x37, x38, x39, x40, x41, x42, x43, x44, x45, x46, x47, x48, x49, x50, x51, x52, x53, x54, x55, x56, x57, x58, x59, x60, x61, x62, x63, x64, x65, x66, x67, x68, x69, x70, x71, .pointer (some ⟨sb, 0, none⟩), .pointer (some ⟨ob, 0, none⟩), .int .i64 l, .pointer (some ⟨ob, 1, none⟩), .slice d.a d.n d.c, .slice ma mn mc, .int .i64 er, x79, x80, x81, x82, x83, x84, x85, x86, x87, x88, x89, x90, x91, x92, x93, x94, x95, x96, x97, x98, x99, x100, x101, x102, x103, x104, x105, x106, x107, x108, x109, x110], []⟩ : Act) = (⟨#[x0, x1, x2, x3, x4, x5, x6, .pointer (some ⟨sb, 0, none⟩), x8, x9, x10, x11, x12, x13, x14, x15, .pointer (some ⟨ob, 0, none⟩), .int .i64 er, x18, x19, x20, x21, x22, x23, x24, x25, x26, x27, x28, x29, x30, x31, x32, x33, x34, x35, x36, x37, x38, x39, x40, x41, x42, x43, x44, x45, x46, x47, x48, x49, x50, x51, x52, x53, x54, x55, x56, x57, x58, x59, x60, x61, x62, x63, x64, x65, x66, x67, x68, x69, x70, x71, .pointer (some ⟨sb, 0, none⟩), .pointer (some ⟨ob, 0, none⟩), .int .i64 l, .pointer (some ⟨ob, 1, none⟩), .slice d.a d.n d.c, .slice ma mn mc, .int .i64 er, x79, x80, x81, x82, x83, x84, x85, x86, x87, x88, x89, x90, x91, x92, x93, x94, x95, x96, x97, x98, x99, x100, x101, x102, x103, x104, x105, x106, x107, x108, x109, x110], []⟩ : Act) := by kernel_rfl
  have l0 : setL (sl19g1z sb ob l er d ma mn mc) (#[true, true, true, true, true, true, true, false] : Array Bool) = (#[true, true, true, true, true, true, true, true] : Array Bool) := by kernel_rfl
  rw [e0, l0]
  clear e0 l0
  exact sl19_5_6 sb ob l er d ma mn mc w R hQ Y Z H18 H17 h v hS1 (z6)
set_option maxHeartbeats 16000000 in
theorem sl19_o (sb ob : Nat) (l er : Int) (d : Sv)  {x0 x1 x2 x3 x4 x5 x6 x8 x9 x10 x11 x12 x13 x14 x15 x17 x18 x19 x20 x21 x22 x23 x24 x25 x26 x27 x28 x29 x30 x31 x32 x33 x34 x35 x36 x37 x38 x39 x40 x41 x42 x43 x44 x45 x46 x47 x48 x49 x50 x51 x52 x53 x54 x55 x56 x57 x58 x59 x60 x61 x62 x63 x64 x65 x66 x67 x68 x69 x70 x71 x77 x78 x79 x80 x81 x82 x83 x84 x85 x86 x87 x88 x89 x90 x91 x92 x93 x94 x95 x96 x97 x98 x99 x100 x101 x102 x103 x104 x105 x106 x107 x108 x109 x110 : Value} (w : World) (R : Exit → Act → World → Prop) (hQ : ∀ c a d v w, R (.panic c) (a.put d v) w → R (.panic c) a w) (Y : Sv → World → Prop) (Z : World → Prop)
    (H18 : ∀ u, u = w.drew → Calls Try.prog 18 #[.slice d.a d.n d.c] u fun e v => ∃ m : Sv, e = .returned (.slice m.a m.n m.c) ∧ Y m v ∧ KV ob l d u v) (H17 : ∀ u m, Y m u → Calls Try.prog 17 #[.pointer (some ⟨sb, 0, none⟩), .int .i64 l, .slice m.a m.n m.c] u fun e v => e = .returned (.int .i64 er) ∧ Z v ∧ KV ob l d u v)
    (h : ∀ (ma : Option Addr) (mn mc : Nat) (u : World), Z u → SBx ob l d u → R .normal (⟨#[x0, x1, x2, x3, x4, x5, x6, .pointer (some ⟨sb, 0, none⟩), x8, x9, x10, x11, x12, x13, x14, x15, .pointer (some ⟨ob, 0, none⟩), .int .i64 er, x18, x19, x20, x21, x22, x23, x24, x25, x26, x27, x28, x29, x30, x31, x32, x33, x34, x35, x36, x37, x38, x39, x40, x41, x42, x43, x44, x45, x46, x47, x48, x49, x50, x51, x52, x53, x54, x55, x56, x57, x58, x59, x60, x61, x62, x63, x64, x65, x66, x67, x68, x69, x70, x71, .pointer (some ⟨sb, 0, none⟩), .pointer (some ⟨ob, 0, none⟩), .int .i64 l, .pointer (some ⟨ob, 1, none⟩), .slice d.a d.n d.c, .slice ma mn mc, .int .i64 er, x79, x80, x81, x82, x83, x84, x85, x86, x87, x88, x89, x90, x91, x92, x93, x94, x95, x96, x97, x98, x99, x100, x101, x102, x103, x104, x105, x106, x107, x108, x109, x110], []⟩ : Act) u) (u : World) (hS : (SBx ob l d) u) (hu : u = w.drew) :
    wpAnyH Try.prog .any (RofN Try.f5 19) R (SBx ob l d) 3 (#[true, true, true, true, true, false, false, false] : Array Bool) (⟨#[x0, x1, x2, x3, x4, x5, x6, .pointer (some ⟨sb, 0, none⟩), x8, x9, x10, x11, x12, x13, x14, x15, .pointer (some ⟨ob, 0, none⟩), x17, x18, x19, x20, x21, x22, x23, x24, x25, x26, x27, x28, x29, x30, x31, x32, x33, x34, x35, x36, x37, x38, x39, x40, x41, x42, x43, x44, x45, x46, x47, x48, x49, x50, x51, x52, x53, x54, x55, x56, x57, x58, x59, x60, x61, x62, x63, x64, x65, x66, x67, x68, x69, x70, x71, .pointer (some ⟨sb, 0, none⟩), .pointer (some ⟨ob, 0, none⟩), .int .i64 l, .pointer (some ⟨ob, 1, none⟩), .slice d.a d.n d.c, x77, x78, x79, x80, x81, x82, x83, x84, x85, x86, x87, x88, x89, x90, x91, x92, x93, x94, x95, x96, x97, x98, x99, x100, x101, x102, x103, x104, x105, x106, x107, x108, x109, x110], []⟩ : Act) u := by
  refine wpAnyH_one (i := 5) (by kernel_rfl) ?_
  refine wpOp_callx (some 77) (by kernel_rfl) (by kernel_rfl) (by kernel_rfl) 18 #[.slice d.a d.n d.c] (by kernel_rfl) (H18 u hu) ?_
  rintro e v ⟨⟨ma, mn, mc⟩, rfl, y5, q0⟩
  have q0 : KV ob l d u v := q0
  have hS1 : (SBx ob l d) v := SBx_q hS q0
  refine ⟨_, rfl, hS1, ?_⟩
  have e1 : (⟨#[x0, x1, x2, x3, x4, x5, x6, .pointer (some ⟨sb, 0, none⟩), x8, x9, x10, x11, x12, x13, x14, x15, .pointer (some ⟨ob, 0, none⟩), x17, x18, x19, x20, x21, x22, x23, x24, x25, x26, x27, x28, x29, x30, x31, x32, x33, x34, x35, x36, x37, x38, x39, x40, x41, x42, x43, x44, x45, x46, x47, x48, x49, x50, x51, x52, x53, x54, x55, x56, x57, x58, x59, x60, x61, x62, x63, x64, x65, x66, x67, x68, x69, x70, x71, .pointer (some ⟨sb, 0, none⟩), .pointer (some ⟨ob, 0, none⟩), .int .i64 l, .pointer (some ⟨ob, 1, none⟩), .slice d.a d.n d.c, x77, x78, x79, x80, x81, x82, x83, x84, x85, x86, x87, x88, x89, x90, x91, x92, x93, x94, x95, x96, x97, x98, x99, x100, x101, x102, x103, x104, x105, x106, x107, x108, x109, x110], []⟩ : Act).put (some 77) (.slice ma mn mc) = (⟨#[x0, x1, x2, x3, x4, x5, x6, .pointer (some ⟨sb, 0, none⟩), x8, x9, x10, x11, x12, x13, x14, x15, .pointer (some ⟨ob, 0, none⟩), x17, x18, x19, x20, x21, x22, x23, x24, x25, x26, x27, x28, x29, x30, x31, x32, x33, x34, x35, x36, x37, x38, x39, x40, x41, x42, x43, x44, x45, x46, x47, x48, x49, x50, x51, x52, x53, x54, x55, x56, x57, x58, x59, x60, x61, x62, x63, x64, x65, x66, x67, x68, x69, x70, x71, .pointer (some ⟨sb, 0, none⟩), .pointer (some ⟨ob, 0, none⟩), .int .i64 l, .pointer (some ⟨ob, 1, none⟩), .slice d.a d.n d.c, .slice ma mn mc, x78, x79, x80, x81, x82, x83, x84, x85, x86, x87, x88, x89, x90, x91, x92, x93, x94, x95, x96, x97, x98, x99, x100, x101, x102, x103, x104, x105, x106, x107, x108, x109, x110], []⟩ : Act) := by kernel_rfl
  have l1 : (#[true, true, true, true, true, false, false, false] : Array Bool).setIfInBounds 5 true = (#[true, true, true, true, true, true, false, false] : Array Bool) := by kernel_rfl
  rw [e1, l1]
  clear e1 l1
  exact sl19_5 sb ob l er d ma mn mc w R hQ Y Z H18 H17 h v hS1 (y5)
set_option maxHeartbeats 16000000 in
theorem sl19 (sb ob : Nat) (l er : Int) (d : Sv) {x0 x1 x2 x3 x4 x5 x6 x8 x9 x10 x11 x12 x13 x14 x15 x17 x18 x19 x20 x21 x22 x23 x24 x25 x26 x27 x28 x29 x30 x31 x32 x33 x34 x35 x36 x37 x38 x39 x40 x41 x42 x43 x44 x45 x46 x47 x48 x49 x50 x51 x52 x53 x54 x55 x56 x57 x58 x59 x60 x61 x62 x63 x64 x65 x66 x67 x68 x69 x70 x71 x72 x73 x74 x75 x76 x77 x78 x79 x80 x81 x82 x83 x84 x85 x86 x87 x88 x89 x90 x91 x92 x93 x94 x95 x96 x97 x98 x99 x100 x101 x102 x103 x104 x105 x106 x107 x108 x109 x110 : Value} (w : World) (R : Exit → Act → World → Prop) (hQ : ∀ c a d v w, R (.panic c) (a.put d v) w → R (.panic c) a w) (Y : Sv → World → Prop) (Z : World → Prop)
    (H18 : ∀ u, u = w.drew → Calls Try.prog 18 #[.slice d.a d.n d.c] u fun e v => ∃ m : Sv, e = .returned (.slice m.a m.n m.c) ∧ Y m v ∧ KV ob l d u v) (H17 : ∀ u m, Y m u → Calls Try.prog 17 #[.pointer (some ⟨sb, 0, none⟩), .int .i64 l, .slice m.a m.n m.c] u fun e v => e = .returned (.int .i64 er) ∧ Z v ∧ KV ob l d u v) (hS : (SBx ob l d) w)
    (h : ∀ (ma : Option Addr) (mn mc : Nat) (u : World), Z u → SBx ob l d u → R .normal (⟨#[x0, x1, x2, x3, x4, x5, x6, .pointer (some ⟨sb, 0, none⟩), x8, x9, x10, x11, x12, x13, x14, x15, .pointer (some ⟨ob, 0, none⟩), .int .i64 er, x18, x19, x20, x21, x22, x23, x24, x25, x26, x27, x28, x29, x30, x31, x32, x33, x34, x35, x36, x37, x38, x39, x40, x41, x42, x43, x44, x45, x46, x47, x48, x49, x50, x51, x52, x53, x54, x55, x56, x57, x58, x59, x60, x61, x62, x63, x64, x65, x66, x67, x68, x69, x70, x71, .pointer (some ⟨sb, 0, none⟩), .pointer (some ⟨ob, 0, none⟩), .int .i64 l, .pointer (some ⟨ob, 1, none⟩), .slice d.a d.n d.c, .slice ma mn mc, .int .i64 er, x79, x80, x81, x82, x83, x84, x85, x86, x87, x88, x89, x90, x91, x92, x93, x94, x95, x96, x97, x98, x99, x100, x101, x102, x103, x104, x105, x106, x107, x108, x109, x110], []⟩ : Act) u) :
    (Code.region 19 (RofN Try.f5 19) true).wp Try.prog R (⟨#[x0, x1, x2, x3, x4, x5, x6, .pointer (some ⟨sb, 0, none⟩), x8, x9, x10, x11, x12, x13, x14, x15, .pointer (some ⟨ob, 0, none⟩), x17, x18, x19, x20, x21, x22, x23, x24, x25, x26, x27, x28, x29, x30, x31, x32, x33, x34, x35, x36, x37, x38, x39, x40, x41, x42, x43, x44, x45, x46, x47, x48, x49, x50, x51, x52, x53, x54, x55, x56, x57, x58, x59, x60, x61, x62, x63, x64, x65, x66, x67, x68, x69, x70, x71, x72, x73, x74, x75, x76, x77, x78, x79, x80, x81, x82, x83, x84, x85, x86, x87, x88, x89, x90, x91, x92, x93, x94, x95, x96, x97, x98, x99, x100, x101, x102, x103, x104, x105, x106, x107, x108, x109, x110], []⟩ : Act) w := by
  refine wp_region_held (S := (SBx ob l d)) (by kernel_rfl) ?_
  have hsz : (RofN Try.f5 19).size = 8 := by kernel_rfl
  rw [hsz]
  have hS0 : (SBx ob l d) w.drew := SBx_q hS (show KV ob l d w w.drew from fun h => h)
  refine chn_take (by kernel_rfl) hQ hS0 3 (sl19g0z sb ob l er d ) _ _ (sl19g0 sb ob l er d  w Y Z H18 H17) ?_
  have e0 : putL (RofN Try.f5 19) (sl19g0z sb ob l er d ) (⟨#[x0, x1, x2, x3, x4, x5, x6, .pointer (some ⟨sb, 0, none⟩), x8, x9, x10, x11, x12, x13, x14, x15, .pointer (some ⟨ob, 0, none⟩), x17, x18, x19, x20, x21, x22, x23, x24, x25, x26, x27, x28, x29, x30, x31, x32, x33, x34, x35, x36, x37, x38, x39, x40, x41, x42, x43, x44, x45, x46, x47, x48, x49, x50, x51, x52, x53, x54, x55, x56, x57, x58, x59, x60, x61, x62, x63, x64, x65, x66, x67, x68, x69, x70, x71, x72, x73, x74, x75, x76, x77, x78, x79, x80, x81, x82, x83, x84, x85, x86, x87, x88, x89, x90, x91, x92, x93, x94, x95, x96, x97, x98, x99, x100, x101, x102, x103, x104, x105, x106, x107, x108, x109, x110], []⟩ : Act) = (⟨#[x0, x1, x2, x3, x4, x5, x6, .pointer (some ⟨sb, 0, none⟩), x8, x9, x10, x11, x12, x13, x14, x15, .pointer (some ⟨ob, 0, none⟩), x17, x18, x19, x20, x21, x22, x23, x24, x25, x26, x27, x28, x29, x30, x31, x32, x33, x34, x35, x36, x37, x38, x39, x40, x41, x42, x43, x44, x45, x46, x47, x48, x49, x50, x51, x52, x53, x54, x55, x56, x57, x58, x59, x60, x61, x62, x63, x64, x65, x66, x67, x68, x69, x70, x71, .pointer (some ⟨sb, 0, none⟩), .pointer (some ⟨ob, 0, none⟩), .int .i64 l, .pointer (some ⟨ob, 1, none⟩), .slice d.a d.n d.c, x77, x78, x79, x80, x81, x82, x83, x84, x85, x86, x87, x88, x89, x90, x91, x92, x93, x94, x95, x96, x97, x98, x99, x100, x101, x102, x103, x104, x105, x106, x107, x108, x109, x110], []⟩ : Act) := by kernel_rfl
  have l0 : setL (sl19g0z sb ob l er d ) (Array.replicate 8 false) = (#[true, true, true, true, true, false, false, false] : Array Bool) := by kernel_rfl
  rw [e0, l0]
  clear e0 l0
  exact sl19_o sb ob l er d w R hQ Y Z H18 H17 h _ hS0 (rfl)
end Go.Proofs.Ytekpepnonhbkcaa

/-
  What shake's New does, said once more: what the side only reads lies ahead of the side.
-/
namespace Go.Proofs.Ytekpepnonhbkcaa
open Go.RowKit
set_option linter.unusedVariables false
set_option maxRecDepth 20000

/-- A side that New made. -/
structure MadeB (w w' : World) (sb : Nat) (sv : Bool) (rs : List Int) (pv : Int) (ss : List ByteArray) (ps : List Int) (t p x o : Sv) (wb : Nat) (Fs : List Fl) : Prop where
  q : Q w w'
  sd : Sd w' sb sb { S0 (ccells sv rs pv t p) ⟨some ⟨wb, 0, none⟩, (waitsL sv).length, (waitsL sv).length⟩ with said := x, out := o } (if sv = true then [] else chL rs pv ss ps) Fs
  fl : Fs.map con = if sv = true then [] else [(0, chL rs pv ss ps)]
  tr : RowT w' t ss
  pr : Row w' p ps
  wr : w'.heap[wb]? = some (.cells (waitsC (waitsL sv)).toArray 72 (0, 0))
  tn : New w.heap.size t
  pn : New w.heap.size p
  wn : w.heap.size ≤ wb
  tl : ∀ b, blk t.a = some b → b < sb
  pl : ∀ b, blk p.a = some b → b < sb
  wl : wb < sb
set_option maxHeartbeats 16000000 in
theorem newB_any (sv : Bool) (rs : List Int) (pv : Int) (t p : Sv) (ss : List ByteArray) (ps : List Int) (w : World) (hl : rs.length = 32) (ht : SegT w t.a ss) (htl : ss.length = t.n) (hp : Seg w p.a ps) (hpl : ps.length = p.n) :
    Calls Try.prog 6 #[.agg (ccells sv rs pv t p).toArray] w fun e w' => (okC pv ss p.n = false ∧ e = .returned (.tuple #[.pointer none, .int .i64 100]) ∧ Q w w') ∨ (okC pv ss p.n = true ∧ ∃ sb t' p' x o wb Fs, e = .returned (.tuple #[.pointer (some ⟨sb, 0, none⟩), .int .i64 0]) ∧ MadeB w w' sb sv rs pv ss ps t' p' x o wb Fs) := by
  obtain ⟨ta, tn, tc⟩ := t
  obtain ⟨pa, pn, pc⟩ := p
  dsimp only at htl hpl ht hp ⊢
  have HL := hid hl
  have HT := hid ht
  have HP := hid hp
  have LT := hid htl
  have LP := hid hpl
  clear hl ht htl hp hpl
  by_cases h1 : pv < 1
  · have b1 : decide (pv < 1) = true := by simpa using h1
    have HX := hid (show okC pv ss pn = false by simp [okC]; intro h; omega)
    go_enter Try.func6, Try.ntmps6
    go_upto_region 1 with fail
    generalize hw1 : World.alloc w _ = v1
    have Q1 := hid (show Q w v1 by rw [← hw1]; exact (Q.refl w).alloc _)
    have c33 := CB.c33 (show CB v1 w.heap.size sv rs pv ⟨ta, tn, tc⟩ ⟨pa, pn, pc⟩ by rw [← hw1]; exact heap_alloc_new w _) HL.out
    clear hw1
    generalize w.heap.size = cb at *
    go_wp2
    go_ret2
    exact .inl ⟨HX.out, rfl, Q1.out⟩
  by_cases h2 : pv > 4611686018427387903
  · have b1 : decide (pv < 1) = false := by simpa using h1
    have b2 : decide (pv > 4611686018427387903) = true := by simpa using h2
    have HX := hid (show okC pv ss pn = false by simp [okC]; intro _ h; omega)
    go_enter Try.func6, Try.ntmps6
    go_upto_region 1 with fail
    generalize hw1 : World.alloc w _ = v1
    have Q1 := hid (show Q w v1 by rw [← hw1]; exact (Q.refl w).alloc _)
    have B1 := hid (show CB v1 w.heap.size sv rs pv ⟨ta, tn, tc⟩ ⟨pa, pn, pc⟩ by rw [← hw1]; exact heap_alloc_new w _)
    clear hw1
    generalize hcb : w.heap.size = cb at *
    have HCB := hid hcb
    clear hcb
    have c33 := B1.out.c33 HL.out
    have c34 := B1.out.c34 HL.out
    have c35 := B1.out.c35 HL.out
    dsimp only at c34 c35
    go_wp2
    go_ret2
    exact .inl ⟨HX.out, rfl, Q1.out⟩
  have b1 : decide (pv < 1) = false := by simpa using h1
  have b2 : decide (pv > 4611686018427387903) = false := by simpa using h2
  cases h3 : okTs ss with
  | false =>
    have HX := hid (show okC pv ss pn = false by simp [okC, h3])
    have H3 := hid h3
    clear h3
    go_enter Try.func6, Try.ntmps6
    go_upto_region 1 with fail
    generalize hw1 : World.alloc w _ = v1
    have Q1 := hid (show Q w v1 by rw [← hw1]; exact (Q.refl w).alloc _)
    have B1 := hid (show CB v1 w.heap.size sv rs pv ⟨ta, tn, tc⟩ ⟨pa, pn, pc⟩ by rw [← hw1]; exact heap_alloc_new w _)
    clear hw1
    generalize hcb : w.heap.size = cb at *
    have HCB := hid hcb
    clear hcb
    have c33 := B1.out.c33 HL.out
    have c34 := B1.out.c34 HL.out
    have c35 := B1.out.c35 HL.out
    dsimp only at c34 c35
    go_wp2_with fail
    refine (rightProtos_any ta tn tc ss v1 LT.out (HT.out.q Q1.out)).mono ?_
    rintro e w2 ⟨rfl, rfl⟩
    rw [H3.out]
    go_wp2
    go_ret2
    exact .inl ⟨HX.out, rfl, Q1.out⟩
  | true =>
    have H3 := hid h3
    clear h3
    by_cases h4 : pn ≤ 1024
    · have HX := hid (show okC pv ss pn = true by simp [okC, H3.out]; omega)
      have H4 := hid (show decide (pn ≤ 1024) = true by simpa using h4)
      have HP4 := hid h4
      have HPV := hid (show pv ≤ 9223372036854775807 by omega)
      clear h4
      go_enter Try.func6, Try.ntmps6
      go_upto_region 1 with fail
      generalize hw1 : World.alloc w _ = v1
      have Q1 := hid (show Q w v1 by rw [← hw1]; exact (Q.refl w).alloc _)
      have B1 := hid (show CB v1 w.heap.size sv rs pv ⟨ta, tn, tc⟩ ⟨pa, pn, pc⟩ by rw [← hw1]; exact heap_alloc_new w _)
      clear hw1
      generalize hcb : w.heap.size = cb at *
      have HCB := hid hcb
      clear hcb
      have c33 := B1.out.c33 HL.out
      have c34 := B1.out.c34 HL.out
      have c35 := B1.out.c35 HL.out
      dsimp only at c34 c35
      go_wp2_with fail
      refine (rightProtos_any ta tn tc ss v1 LT.out (HT.out.q Q1.out)).mono ?_
      rintro e w2 ⟨rfl, rfl⟩
      rw [H3.out]
      go_wp2_with fail
      refine (rightParams_any pa pn pc v1).mono ?_
      rintro e w2 ⟨rfl, rfl⟩
      rw [H4.out]
      have HS1 := hid (show cb < v1.heap.size from lt_of_cell c33)
      have NW : Nw v1 cb ⟨ta, tn, tc⟩ ⟨pa, pn, pc⟩ ss ps := ⟨c34, c35, fun u j q => frozen_of_row u cb j _ 26 (B1.out.q q), fun u q => clones_any ⟨ta, tn, tc⟩ ss u ((HT.out.q Q1.out).q q) LT.out (by have h := (okTs_iff H3.out).2.1; have h2 := LT.out; show tn ≤ _; omega), fun u q => clone_any ⟨pa, pn, pc⟩ ps u ((HP.out.q Q1.out).q q) LP.out (by have := HP4.out; show pn ≤ _; omega)⟩
      have HNW := hid NW
      clear NW c33 c34 c35
      go_upto_region 3 with fail
      generalize hR : Code.region 3 _ true = C
      have eR : C = Code.region 3 (RofN Try.f6 3) true := hR.symm.trans (by kernel_rfl)
      clear hR
      subst eR
      refine wp_region_noPanic ?_
      refine nw3 HNW.out (fun c a d v w h => h) (fun y z W qW ry rz ny nz => ?_)
      refine NoPanic.normal ?_
      rename_i Kc hKc
      refine hKc _ _ ?_
      clear hKc
      have B2 := hid (CB.set2 (y := y) (z := z) (B1.out.q qW) HL.out)
      have kW : Keep (fun b => b = cb) W ((W.setCell ⟨cb, 34, none⟩ (.slice y.a y.n y.c)).setCell ⟨cb, 35, none⟩ (.slice z.a z.n z.c)) := ((Keep.refl (fun b => b = cb) W).setCell cb 34 _ (.inl rfl)).setCell cb 35 _ (.inl rfl)
      have Q2 := hid (show Q w ((W.setCell ⟨cb, 34, none⟩ (.slice y.a y.n y.c)).setCell ⟨cb, 35, none⟩ (.slice z.a z.n z.c)) from kW.below (Q1.out.trans qW) (Q1.out.trans qW).size (fun i e => by rw [e, ← HCB.out]; exact Nat.le_refl _))
      have RY := hid (Sub.keep ry kW (fun b e e2 => by have h := ny b e; have := HS1.out; rw [e2] at h; omega))
      have RZ := hid (Sub.keep rz kW (fun b e e2 => by have h := nz b e; have := HS1.out; rw [e2] at h; omega))
      have NY := hid (show New w.heap.size y from ny.up Q1.out.size)
      have NZ := hid (show New w.heap.size z from nz.up Q1.out.size)
      generalize (W.setCell ⟨cb, 34, none⟩ (.slice y.a y.n y.c)).setCell ⟨cb, 35, none⟩ (.slice z.a z.n z.c) = u2 at *
      clear kW ry rz ny nz qW
      have HSN := hid (show SN u2 cb (ccells sv rs pv y z) sv u2 from ⟨Q.refl _, B2.out, ccells_len HL.out, B2.out.c0⟩)
      go_upto_region 4 with fail
      generalize hR : Code.region 4 _ true = C
      have eR : C = Code.region 4 (RofN Try.f6 4) true := hR.symm.trans (by kernel_rfl)
      clear hR
      subst eR
      refine wp_region_noPanic ?_
      refine nw4 HSN.out (fun c a d v w h => h) (fun wb sb W3 q3 hs hw hle hlt => ?_)
      refine NoPanic.normal ?_
      rename_i Kc hKc
      refine hKc _ _ ?_
      clear hKc
      have B3 := hid (B2.out.q q3)
      have Q3 := hid (Q2.out.trans q3)
      have RY3 := hid (Sub.q RY.out q3)
      have RZ3 := hid (Sub.q RZ.out q3)
      have HS := hid hs
      have HW := hid hw
      have HLE := hid (show w.heap.size ≤ wb from Nat.le_trans Q2.out.size hle)
      have HSB := hid (show w.heap.size ≤ sb from Nat.le_of_lt (Nat.lt_of_le_of_lt (Nat.le_trans Q2.out.size hle) hlt))
      have HLT := hid hlt
      have HYL := hid (show ∀ b, blk y.a = some b → b < sb from fun b e => by have := Sub.lt RY.out b e; omega)
      have HZL := hid (show ∀ b, blk z.a = some b → b < sb from fun b e => by have := Sub.lt RZ.out b e; omega)
      clear q3 hs hw hle hlt
      have c0 := B3.out.c0
      cases sv with
      | true =>
        go_wp2
        go_ret2
        exact .inr ⟨HX.out, sb, y, z, nilS, nilS, wb, [], rfl, ⟨Q3.out, Sd.zero HS.out (Nat.le_refl _), rfl, RY3.out, RZ3.out, HW.out, NY.out, NZ.out, HLE.out, HYL.out, HZL.out, HLT.out⟩⟩
      | false =>
        have hIN : (Try.prog.info? 26).map (·.size) = some (ccells false rs pv y z).toArray.size := by
          rw [show (ccells false rs pv y z).toArray.size = 36 from by rw [List.size_toArray]; exact ccells_len HL.out]
          kernel_rfl
        have CH := hid (clientHello_any false rs pv y z ss ps W3 HL.out HPV.out (RowT.seg RY3.out) (RowT.len RY3.out) (Row.seg RZ3.out) (Row.len RZ3.out) H3.out (by have h1 := Row.len RZ3.out; have h2 := LP.out; have h3 := HP4.out; omega))
        have hBL : W3.heap[cb]? = some (.cells (ccells false rs pv y z).toArray 26 (0, 0)) := B3.out
        generalize hXX : (ccells false rs pv y z).toArray = X at hIN CH hBL
        have HBL := hid hBL
        have HIN := hid hIN
        clear hBL hIN hXX
        go_wp2_with (refine wpList_load_row rfl 26 _ rfl cb rfl 26 X (0, 0) _ HBL.out Try.underlying26 rfl HIN.out ?_)
        refine CH.out.mono ?_
        rintro e W4 ⟨⟨xa, xn, xc⟩, rfl, q4, r4⟩
        have HR4 := hid r4
        have Q4 := hid q4
        have hsh4 : ShAt W4 sb (S0 (ccells false rs pv y z) ⟨some ⟨wb, 0, none⟩, (waitsL false).length, (waitsL false).length⟩) := HS.out.keep (Keep.ofQ (F := fun _ => False) q4) id
        have hxl : xn ≤ 2000 := by
          have h1 := chL_len (pv := pv) HL.out H3.out (show ps.length ≤ 1024 by have h2 := LP.out; have h3 := HP4.out; omega)
          have h2 := Row.len r4
          dsimp only at h2
          omega
        have SY := say_any sb sb _ [] [] 0 ⟨xa, xn, xc⟩ (chL rs pv ss ps) W4 (Sd.zero hsh4 (Nat.le_refl _)) r4.seg (Row.len r4) (fun b e => ⟨Sub.lt r4 b e, fun m => by
          rcases m with m | m | m | ⟨F, hF, m⟩
          · exact sub_ne_sh r4 (by decide) hsh4 b e m
          · cases m
          · cases m
          · cases hF⟩) (by show 0 + xn ≤ _; omega) (Nat.zero_le _) (fun F hF => by cases hF)
        have HSY := hid SY
        have HSH := hid hsh4
        clear SY q4 r4 hsh4 hxl
        dsimp only at HSY
        go_wp2_with fail
        refine HSY.out.mono ?_
        rintro e W5 ⟨rfl, x, o, Gs, hsd, hcon, hkp, hmi⟩
        have hm1 : ∀ b, Mine sb (S0 (ccells false rs pv y z) ⟨some ⟨wb, 0, none⟩, (waitsL false).length, (waitsL false).length⟩) [] b → b = sb := by
          rintro b (m | m | m | ⟨F, hF, m⟩)
          · exact m
          · cases m
          · cases m
          · cases hF
        have k5 : Keep (fun b => b = sb) W4 W5 := hkp.mono (fun i _ m => hm1 i m)
        have HM := hid (show MadeB w W5 sb false rs pv ss ps y z x o wb Gs from ⟨k5.below (Q3.out.trans Q4.out) (Q3.out.trans Q4.out).size (fun i e => by rw [e]; exact HSB.out), hsd, hcon, Sub.keep (Sub.q RY3.out Q4.out) k5 (sub_ne_sh (Sub.q RY3.out Q4.out) (by decide) HSH.out), Sub.keep (Sub.q RZ3.out Q4.out) k5 (sub_ne_sh (Sub.q RZ3.out Q4.out) (by decide) HSH.out), (k5.block wb (Nat.lt_of_lt_of_le (lt_of_block HW.out) Q4.out.size) (fun e => by have := HLT.out; omega)).trans ((Below.block Q4.out _ (lt_of_block HW.out)).trans HW.out), NY.out, NZ.out, HLE.out, HYL.out, HZL.out, HLT.out⟩)
        clear hm1 k5
        clear hsd hcon hkp hmi
        go_wp2
        go_ret2
        exact .inr ⟨HX.out, sb, y, z, x, o, wb, Gs, rfl, HM.out⟩
    · have HX := hid (show okC pv ss pn = false by simp [okC]; intro _ _ _; omega)
      have H4 := hid (show decide (pn ≤ 1024) = false by simpa using h4)
      clear h4
      go_enter Try.func6, Try.ntmps6
      go_upto_region 1 with fail
      generalize hw1 : World.alloc w _ = v1
      have Q1 := hid (show Q w v1 by rw [← hw1]; exact (Q.refl w).alloc _)
      have B1 := hid (show CB v1 w.heap.size sv rs pv ⟨ta, tn, tc⟩ ⟨pa, pn, pc⟩ by rw [← hw1]; exact heap_alloc_new w _)
      clear hw1
      generalize hcb : w.heap.size = cb at *
      have HCB := hid hcb
      clear hcb
      have c33 := B1.out.c33 HL.out
      have c34 := B1.out.c34 HL.out
      have c35 := B1.out.c35 HL.out
      dsimp only at c34 c35
      go_wp2_with fail
      refine (rightProtos_any ta tn tc ss v1 LT.out (HT.out.q Q1.out)).mono ?_
      rintro e w2 ⟨rfl, rfl⟩
      rw [H3.out]
      go_wp2_with fail
      refine (rightParams_any pa pn pc v1).mono ?_
      rintro e w2 ⟨rfl, rfl⟩
      rw [H4.out]
      go_wp2
      go_ret2
      exact .inl ⟨HX.out, rfl, Q1.out⟩
end Go.Proofs.Ytekpepnonhbkcaa

/-
  A side from New on: whole, within its bounds; Out; what a failed side does.
-/
namespace Go.Proofs.Ytekpepnonhbkcaa
open Go.RowKit
set_option linter.unusedVariables false
set_option maxRecDepth 20000

def A0 (sv : Bool) (rs : List Int) (pv : Int) (ss : List ByteArray) (ps : List Int) : Ab :=
  ⟨sv, rs, pv, ss, ps, waitsL sv, [], false, if sv = true then [] else chL rs pv ss ps, List.replicate 16 0, [], [], [], [], ByteArray.empty, [], if sv = true then [] else [(0, chL rs pv ss ps)]⟩
theorem RO.nil (w : World) (M : Nat → Prop) : RO w M nilS [] := ⟨seg_nil _ _, rfl, fun b e => by cases e⟩
theorem MadeB.fu {w w' : World} {sb : Nat} {sv : Bool} {rs : List Int} {pv : Int} {ss : List ByteArray} {ps : List Int} {t p x o : Sv} {wb : Nat} {Fs : List Fl} (h : MadeB w w' sb sv rs pv ss ps t p x o wb Fs) (hl : rs.length = 32) :
    Fu w' sb sb { S0 (ccells sv rs pv t p) ⟨some ⟨wb, 0, none⟩, (waitsL sv).length, (waitsL sv).length⟩ with said := x, out := o } Fs (A0 sv rs pv ss ps) := by
  have hm : ∀ b, Mut sb { S0 (ccells sv rs pv t p) ⟨some ⟨wb, 0, none⟩, (waitsL sv).length, (waitsL sv).length⟩ with said := x, out := o } Fs b → sb ≤ b := by
    intro b m
    rcases m with m | m
    · exact (h.sd.mine m).1
    · cases m
  refine ⟨h.sd, h.fl, sub_nil _ _ _, (fun b e => by cases e), ⟨⟨t, p, rfl, hl, ⟨h.tr.seg, h.tr.len, fun b e => ⟨fun m => ?_, Sub.lt h.tr b e⟩⟩, ⟨h.pr.seg, h.pr.len, fun b e => ⟨fun m => ?_, Sub.lt h.pr b e⟩⟩⟩, ⟨rfl, Nat.le_refl _, wb, 0, rfl, h.wr, fun m => ?_, fun _ => rfl⟩, rfl, ?_, RO.nil _ _, RO.nil _ _, RO.nil _ _, RO.nil _ _, rfl, RO.nil _ _⟩⟩
  · have := hm b m; have := h.tl b e; omega
  · have := hm b m; have := h.pl b e; omega
  · have := hm wb m; have := h.wl; omega
  · show List.replicate 16 (Value.int .u8 0) = u8s (List.replicate 16 0)
    rfl
theorem chL_by {rs : List Int} {pv : Int} {ss : List ByteArray} {ps : List Int} (h : ByL rs) (hp : ByL ps) (hs : ss.length ≤ 8) : ByL (chL rs pv ss ps) := by
  unfold chL
  refine msgL_by ((grL_by h).app (ByL.app ?_ ((be_by _ _).app hp))) (by decide) (by decide)
  unfold ptL
  refine ByL.app (fun y hy => by rw [List.mem_singleton.1 hy]; omega) ?_
  unfold ptB
  intro y hy
  obtain ⟨s, _, hy⟩ := List.mem_flatMap.1 hy
  exact ((be_by 1 _).app (sb_lt s)) y hy
theorem A0_ok {sv : Bool} {rs : List Int} {pv : Int} {ss : List ByteArray} {ps : List Int} (hl : rs.length = 32) (hr : ByL rs) (hp : ByL ps) (h : okC pv ss ps.length = true) : Ok2 (A0 sv rs pv ss ps) := by
  unfold okC at h
  simp only [Bool.and_eq_true, decide_eq_true_eq] at h
  obtain ⟨⟨⟨h1, h2⟩, h3⟩, h4⟩ := h
  have h8 : ss.length ≤ 8 := by have := h3; unfold okTs at this; simp at this; omega
  have hc := chL_len (pv := pv) hl h3 h4
  have hcb := chL_by (pv := pv) (ss := ss) hr hp h8
  have hw : (waitsL sv).length ≤ 3 := by cases sv <;> decide
  have n0 : (A0 sv rs pv ss ps).sd.length ≤ 2000 := by
    show (if sv = true then [] else chL rs pv ss ps).length ≤ 2000
    split
    · exact Nat.zero_le _
    · exact hc
  have o0 : (A0 sv rs pv ss ps).out.length ≤ 1 := by
    show (if sv = true then [] else [(0, chL rs pv ss ps)]).length ≤ 1
    split
    · exact Nat.zero_le _
    · exact Nat.le_refl _
  have z0 : ∀ x ∈ (A0 sv rs pv ss ps).out, x.2.length ≤ 2000 := by
    show ∀ x ∈ (if sv = true then [] else [((0 : Int), chL rs pv ss ps)]), x.2.length ≤ 2000
    split
    · intro x hx; cases hx
    · intro x hx; rw [List.mem_singleton.1 hx]; exact hc
  refine ⟨⟨?_, (fun y hy => by cases hy), ?_, (fun y hy => by cases hy), (fun y hy => by cases hy), by omega, Nat.zero_le _, Nat.zero_le _, Nat.zero_le _, ⟨h1, h2⟩, h3, h4, by omega, fun x hx => by have := z0 x hx; omega, hr, hp⟩, hl, ?_, ?_, ?_, by show 0 < lack []; decide, (fun h4 => absurd h4 (by show ¬ 4 ≤ ([] : List Int).length; decide)), ?_⟩
  · show ByL (if sv = true then [] else chL rs pv ss ps)
    split
    · intro y hy; cases hy
    · exact hcb
  · intro y hy
    rw [List.eq_of_mem_replicate hy]
    omega
  · show _ + 8000 * (waitsL sv).length ≤ _; omega
  · show _ + 3 * (waitsL sv).length ≤ _; omega
  · intro x hx; have := z0 x hx; show _ + 3000 * (waitsL sv).length ≤ _; omega
  · show ∀ x ∈ waitsL sv, _
    cases sv <;> decide
theorem Only.keepB {sb : Nat} {w w' : World} (h : Only sb w w') : Keep (fun b => b = sb) w w' := ⟨h.os, h.tape, h.output, h.size, fun i hi hn => h.block hi hn⟩
theorem Fu.outNil {w w' : World} {B sb : Nat} {S : Sh} {Fs : List Fl} {A : Ab} (h : Fu w B sb S Fs A) (ha : ShAt w' sb { S with out := nilS }) (k : Keep (fun b => b = sb) w w') : Bft w B sb S Fs { A with out := [] } w' { S with out := nilS } [] := by
  have hmi : ∀ b, Mine sb { S with out := nilS } [] b → Mine sb S Fs b := by
    rintro b (m | m | m | ⟨F, hF, m⟩)
    · exact .inl m
    · exact .inr (.inl m)
    · cases m
    · cases hF
  have hmu : ∀ b, Mut sb { S with out := nilS } [] b → Mut sb S Fs b := fun b m => m.elim (fun m => .inl (hmi b m)) .inr
  have r := h.re.keep k mut_sb (M' := Mut sb { S with out := nilS } []) (fun b m => .inl (hmu b m))
  exact ⟨⟨⟨ha, h.sd.hB, Sub.keep h.sd.sr k (fun b e => (h.sd.bs b e).2), sub_nil _ _ _, fun F hF => (by cases hF), h.sd.bs, fun b e => (by cases e), fun F hF => (by cases hF), List.Pairwise.nil⟩, rfl, Sub.keep h.kr k (fun b e f => (h.kb b e).2 (.inl f)), fun b e => ⟨(h.kb b e).1, fun m => (h.kb b e).2 (hmi b m)⟩, ⟨r.own, r.wt, r.fd, r.rt, r.hc, r.hs, r.ac, r.as_, r.pr, r.pe⟩⟩, k.mono (fun i _ e => mut_sb i e), fun b m => .inl (hmu b m)⟩
theorem Fu.outLen {w : World} {B sb : Nat} {S : Sh} {Fs : List Fl} {A : Ab} (h : Fu w B sb S Fs A) : S.out.n = A.out.length := by
  rw [← h.fl, List.length_map]
  exact (RowF.len h.sd.fr).symm
theorem outF (B sb : Nat) (S : Sh) (Fs : List Fl) (A : Ab) (w : World) (h : Fu w B sb S Fs A) :
    Calls Try.prog 19 #[.pointer (some ⟨sb, 0, none⟩)] w fun e w' => ∃ o : Sv, e = .returned (.slice o.a o.n o.c) ∧ o.n = A.out.length ∧ ∃ S', Bft w B sb S Fs { A with out := [] } w' S' [] :=
  (out_any sb S w h.sd.at_).mono (fun e w' ⟨he, ha, ho⟩ => ⟨S.out, he, h.outLen, _, h.outNil ha ho.keepB⟩)
theorem fdE_shut {lv : Int} {A : Ab} {ds : List Int} (h : A.fd = true) : fdE lv A ds = (if lv ≠ 0 ∧ lv ≠ 1 then 101 else 104, A) := by
  unfold fdE
  rw [if_pos h]
  split <;> rfl
theorem fdE_fd {lv : Int} {A : Ab} {ds : List Int} (h : (fdE lv A ds).1 ≠ 0) (hl : lv = 0 ∨ lv = 1) : (fdE lv A ds).2.fd = true := by
  unfold fdE at h ⊢
  rw [if_neg (by omega)] at h ⊢
  split at h
  · next hf => rw [if_pos hf]; exact hf
  · next hf =>
    rw [if_neg hf]
    split at h
    · next he => rw [if_pos he]
    · next he => exact absurd h he
end Go.Proofs.Ytekpepnonhbkcaa

/-
  The law ShakeShut.
-/
namespace Go.Proofs.Ytekpepnonhbkcaa
open Go.RowKit
set_option linter.unusedVariables false
set_option maxRecDepth 20000

structure Sa where
  l : Int
  d : Sv
  z : List Int
/-- A row of Saids. -/
def SegS (w : World) (a : Option Addr) (xs : List Sa) : Prop := xs ≠ [] → ∃ b off, a = some ⟨b, off, none⟩ ∧ ∀ i x, xs[i]? = some x → w.rangeAt b (off + i * 2) [.int .i64 x.l, .slice x.d.a x.d.n x.d.c] ∧ Seg w x.d.a x.z ∧ x.z.length = x.d.n ∧ ByL x.z ∧ x.d.n ≤ 140737488355328
theorem SegS.q {w w' : World} {a : Option Addr} {xs : List Sa} (h : SegS w a xs) (q : Q w w') : SegS w' a xs := by
  intro hne
  obtain ⟨b, off, e, hc⟩ := h hne
  refine ⟨b, off, e, fun i x hx => ?_⟩
  obtain ⟨h1, h2, h3, h4⟩ := hc i x hx
  exact ⟨fun j v hj => Keep.cell (Keep.ofQ (F := fun _ => False) q) (h1 j v hj) id, h2.q q, h3, h4⟩
theorem Ok2.outNil {A : Ab} (h : Ok2 A) : Ok2 { A with out := [] } :=
  ⟨⟨h.ok.sd, h.ok.kp, h.ok.rt, h.ok.hc, h.ok.hs, h.ok.nsd, h.ok.nkp, h.ok.nhc, h.ok.nhs, h.ok.pv, h.ok.nss, h.ok.nps, Nat.zero_le _, (fun x hx => by cases hx), h.ok.rs, h.ok.ps⟩, h.r, h.n1, (by have := h.n2; show 0 + 3 * A.wt.length ≤ 100; omega), (fun x hx => by cases hx), h.lk, h.hd, h.fs⟩
/-- The side in the law's loops. -/
structure LW (w0 w : World) (sb : Nat) (S : Sh) (Fs : List Fl) (A : Ab) : Prop where
  q : Q w0 w
  f : Fu w sb sb S Fs A
  s : w0.heap.size ≤ sb
  o : A.fd = false → Ok2 A
theorem LW.bft {w0 w w' : World} {sb : Nat} {S S' : Sh} {Fs Fs' : List Fl} {A A' : Ab} (h : LW w0 w sb S Fs A) (b : Bft w sb sb S Fs A' w' S' Fs') (o : A'.fd = false → Ok2 A') : LW w0 w' sb S' Fs' A' :=
  ⟨b.k.below h.q h.q.size (fun i m => Nat.le_trans h.s (h.f.mut m).1), b.f, h.s, o⟩
theorem LW.bq {w0 w w' : World} {sb : Nat} {S : Sh} {Fs : List Fl} {A : Ab} (h : LW w0 w sb S Fs A) (q : Q w w') : LW w0 w' sb S Fs A := h.bft (Bft.q h.f q) h.o
set_option maxHeartbeats 16000000 in
theorem shut_any (sv : Bool) (rs : List Int) (pv : Int) (t p : Sv) (ss : List ByteArray) (ps : List Int) (c m : Sv) (xs ys : List Sa) (w : World) (hl : rs.length = 32) (hr : ByL rs) (ht : SegT w t.a ss) (htl : ss.length = t.n) (hp : Seg w p.a ps) (hpl : ps.length = p.n) (hpz : ByL ps) (hpn : p.n ≤ 140737488355328) (htn : t.n ≤ 8796093022208)
    (hx : SegS w c.a xs) (hxl : xs.length = c.n) (hxn : c.n ≤ 140737488355328) (hy : SegS w m.a ys) (hyl : ys.length = m.n) (hyn : m.n ≤ 140737488355328) :
    Calls Try.prog 5 #[.agg (ccells sv rs pv t p).toArray, .slice c.a c.n c.c, .slice m.a m.n m.c] w fun e w' => e = .returned (.bool true) ∧ Q w w' := by
  have HL := hid hl
  have HR := hid hr
  have HPZ := hid hpz
  have HX := hid hx
  have HXL := hid hxl
  have HY := hid hy
  have HYL := hid hyl
  have HIN := hid (ccells_info (sv := sv) (pv := pv) (t := t) (p := p) hl)
  have CO := hid (fun (u : World) (q : Q w u) => copied_any sv rs pv t p ss ps u hl (ht.q q) htl (hp.q q) hpl hpn htn)
  clear hl hr ht htl hp hpl hpz hpn htn hx hxl hy hyl
  generalize hXX : (ccells sv rs pv t p).toArray = X at *
  clear hXX
  go_enter Try.func5, Try.ntmps5
  go_upto_region 1 with fail
  have q1 : Q w (w.alloc (.cells X 26)) := (Q.refl w).alloc _
  have hbl := heap_alloc_new w (.cells X 26)
  generalize w.alloc (.cells X 26) = w1 at *
  have Q1 := hid q1
  have HBL := hid (show w1.heap[w.heap.size]? = some (.cells X 26 (0, 0)) from hbl)
  clear q1 hbl
  generalize hcb : w.heap.size = cb at *
  have HCB := hid hcb
  clear hcb
  go_wp2_with (first
    | (refine wpList_load_row rfl 26 _ rfl cb rfl 26 X (0, 0) _ HBL.out Try.underlying26 rfl HIN.out ?_)
    | (go_at_call 7; refine (CO.out w1 Q1.out).mono ?_; rintro e w2 ⟨⟨ta, tn, tc⟩, ⟨pa, pn, pc⟩, rfl, q2, rt2, rp2, -, -⟩; have Q2 := hid (Q1.out.trans q2); have RT := hid rt2; have RP := hid rp2; clear q2 rt2 rp2))
  refine (newB_any sv rs pv ⟨ta, tn, tc⟩ ⟨pa, pn, pc⟩ ss ps w2 HL.out (RowT.seg RT.out) (RowT.len RT.out) (Row.seg RP.out) (Row.len RP.out)).mono ?_
  rintro e w3 (⟨-, rfl, q3⟩ | ⟨hok, sb, t', p', x, o, wb, Fs, rfl, hm⟩)
  · have Q3 := hid (Q2.out.trans q3)
    clear q3
    go_wp2_with (go_at_call 8; refine (awake_any w3).mono ?_; rintro e w4 ⟨rfl, q4⟩; have Q4 := hid (Q3.out.trans q4); clear q4)
    go_ret
    exact ⟨rfl, Q4.out⟩
  · have L3 := hid (show LW w w3 sb _ Fs (A0 sv rs pv ss ps) from ⟨Q2.out.trans hm.q, hm.fu HL.out, Nat.le_trans Q2.out.size (Nat.le_trans hm.wn (Nat.le_of_lt hm.wl)), fun _ => A0_ok HL.out HR.out HPZ.out (by rw [show ps.length = pn from Row.len RP.out]; exact hok)⟩)
    generalize ({ S0 (ccells sv rs pv t' p') ⟨some ⟨wb, 0, none⟩, (waitsL sv).length, (waitsL sv).length⟩ with said := x, out := o } : Sh) = S0' at *
    generalize A0 sv rs pv ss ps = A0' at *
    clear hm hok
    go_wp2_with fail
    go_loopw [9, 33] (fun fv iv wr => ∃ (k : Nat) (b : Bool) (A : Ab) (S : Sh) (F : List Fl), iv = .int .i64 k ∧ k ≤ c.n ∧ fv = .bool b ∧ (b = true → A.fd = true) ∧ LW w wr sb S F A) (fun _ i _ => ((c.n : Int) - intOf i).toNat)
    case atStart => exact ⟨0, false, A0', S0', Fs, rfl, Nat.zero_le _, rfl, (fun e => by cases e), L3.out⟩
    case round =>
      obtain ⟨k, bf, A1, S1, F1, rfl, hk, rfl, hbf, l1⟩ := hrel
      have L1 := hid l1
      have HBF := hid hbf
      clear l1 hbf L3
      by_cases hkn : k < c.n
      · have hki : (k : Int) < (c.n : Int) := by omega
        obtain ⟨b, off, hca, hc⟩ := HX.out.q L1.out.q (by intro e; have := HXL.out; rw [e] at this; simp at this; omega)
        obtain ⟨x1, hx1⟩ : ∃ x1, xs[k]? = some x1 := ⟨_, List.getElem?_eq_getElem (by rw [HXL.out]; exact hkn)⟩
        obtain ⟨rg, sg, zl, zb, zn⟩ := hc k x1 hx1
        have SG := hid sg
        have ZL := hid zl
        have ZB := hid zb
        have ZN := hid zn
        clear hc hx1 sg zl zb zn
        rw [hca]
        have hin : (Try.prog.info? 56).map (·.size) = some [Value.int .i64 x1.l, .slice x1.d.a x1.d.n x1.d.c].length := by kernel_rfl
        go_upto_region 8 with (refine wpList_load_mid rfl 56 _ rfl b (off + k * 2) rfl _ _ rg Try.underlying56 rfl hin ?_)
        have hob := heap_alloc_new wr (.cells #[.int .i64 x1.l, .slice x1.d.a x1.d.n x1.d.c] 56)
        have sb4 : SBx wr.heap.size x1.l x1.d (wr.alloc (.cells #[.int .i64 x1.l, .slice x1.d.a x1.d.n x1.d.c] 56)) := ⟨by rw [cell_of_row _ _ _ _ 56 (0, 0) hob]; rfl, by rw [cell_of_row _ _ _ _ 56 (0, 0) hob]; rfl⟩
        have l4 := L1.out.bq ((Q.refl wr).alloc (.cells #[.int .i64 x1.l, .slice x1.d.a x1.d.n x1.d.c] 56))
        have sg4 := SG.out.q ((Q.refl wr).alloc (.cells #[.int .i64 x1.l, .slice x1.d.a x1.d.n x1.d.c] 56))
        have HNM := hid (show ¬ Mut sb S1 F1 wr.heap.size from fun m => by have := (L1.out.f.mut m).2; omega)
        generalize wr.alloc (.cells #[.int .i64 x1.l, .slice x1.d.a x1.d.n x1.d.c] 56) = w4 at *
        generalize wr.heap.size = ob at *
        have L4 := hid l4
        have SG4 := hid sg4
        have SB4 := hid sb4
        clear l4 sg4 sb4 hob SG rg hin
        generalize hR : Code.region 8 _ true = CC
        have eR : CC = Code.region 8 (RofN Try.f5 8) true := hR.symm.trans (by kernel_rfl)
        clear hR
        subst eR
        refine wp_region_noPanic ?_
        refine sl8 sb ob x1.l (fdE x1.l A1 x1.z).1 x1.d w4 _ (fun c a d v w h => h) (fun mm v => Q w4 v ∧ Row v mm x1.z ∧ New w4.heap.size mm) (fun v => ∃ S' F', LW w v sb S' F' (fdE x1.l A1 x1.z).2) (fun u hu => by
          subst hu
          exact (rcopy_any x1.d.a x1.d.n x1.d.c x1.z w4.drew ZL.out ZN.out (SG4.out.q ((Q.refl w4).drew))).mono (fun e v ⟨g, he, q, ow, hg⟩ => ⟨⟨some ⟨g, 0, none⟩, x1.d.n, x1.d.n⟩, he, ⟨((Q.refl w4).drew).trans q, (Own.row2 ow).1, (Own.row2 ow).2⟩, fun s => ⟨Keep.cell (Keep.ofQ (F := fun _ => False) q) s.1 id, Keep.cell (Keep.ofQ (F := fun _ => False) q) s.2 id⟩⟩))
          (fun u mm hy => (feed_any sb sb S1 F1 A1 x1.l mm x1.z u (L4.out.f.q hy.1) L4.out.o (Row.seg hy.2.1) (Row.len hy.2.1) hy.2.1.capN ZB.out (by have h1 := Row.len hy.2.1; have h2 := ZL.out; have h3 := ZN.out; omega) (fun b e => ⟨fun mu => by have h1 := (L4.out.f.mut mu).2; have h2 := hy.2.2 b e; omega, Sub.lt hy.2.1 b e⟩)).mono (fun e v ⟨he, ⟨S', F', b'⟩, o'⟩ => ⟨he, ⟨S', F', (L4.out.bq hy.1).bft b' o'⟩, fun s => ⟨Keep.cell b'.k s.1 HNM.out, Keep.cell b'.k s.2 HNM.out⟩⟩)) SB4.out ?_
        rintro ma mn mc w5 ⟨S5, F5, l5⟩ sb5
        have L5 := hid l5
        have c0 := sb5.1
        have SB5 := hid sb5
        clear l5 sb5
        refine NoPanic.normal ?_
        refine ‹∀ a w, Code.wp Try.prog _ _ a w → _› _ _ ?_
        have HFD := hid (show A1.fd = true → (fdE x1.l A1 x1.z).2.fd = true from fun e => by rw [fdE_shut e]; exact e)
        have HFE := hid (fdE_fd (lv := x1.l) (A := A1) (ds := x1.z))
        generalize fdE x1.l A1 x1.z = r at *
        obtain ⟨er, A5⟩ := r
        dsimp only at *
        generalize hxl1 : x1.l = l at *
        by_cases her : er = 0
        · subst her
          go_wp2_with fail
          go_roundw
          case rel => exact ⟨k + 1, bf, A5, S5, F5, by go_num, by omega, rfl, fun e => HFD.out (HBF.out e), L5.out⟩
          case measure => simp [intOf]; omega
        · have heb : (er != 0) = true := by simpa using her
          have HER := hid her
          clear her
          by_cases h0 : l = 0
          · subst h0
            go_wp2_with fail
            go_roundw
            case rel => exact ⟨k + 1, true, A5, S5, F5, by go_num, by omega, rfl, fun _ => HFE.out HER.out (.inl rfl), L5.out⟩
            case measure => simp [intOf]; omega
          · have h0b : (l == 0) = false := by simpa using h0
            by_cases h1 : l = 1
            · subst h1
              go_wp2_with fail
              go_roundw
              case rel => exact ⟨k + 1, true, A5, S5, F5, by go_num, by omega, rfl, fun _ => HFE.out HER.out (.inr rfl), L5.out⟩
              case measure => simp [intOf]; omega
            · have h1b : (l == 1) = false := by simpa using h1
              go_wp2_with fail
              go_roundw
              case rel => exact ⟨k + 1, bf, A5, S5, F5, by go_num, by omega, rfl, fun e => HFD.out (HBF.out e), L5.out⟩
              case measure => simp [intOf]; omega
      · obtain rfl : k = c.n := by omega
        have hni : ¬ (c.n : Int) < (c.n : Int) := by omega
        have OU := hid (outF sb sb S1 F1 A1 wr L1.out.f)
        have HX2 := hid (show ∀ v S', Bft wr sb sb S1 F1 { A1 with out := [] } v S' [] → LW w v sb S' [] { A1 with out := [] } from fun v S' b => L1.out.bft b (fun e => (L1.out.o e).outNil))
        have HF2 := hid (show bf = true → ({ A1 with out := [] } : Ab).fd = true from HBF.out)
        have HO2 := hid (show ({ A1 with out := [] } : Ab).out = [] from rfl)
        clear HBF L1
        generalize ({ A1 with out := [] } : Ab) = A2 at *
        generalize A1.out.length = on at *
        cases bf with
        | false =>
          go_wp2_with (first
            | (go_at_call 19; refine OU.out.mono ?_; rintro e w6 ⟨⟨oa, on', oc⟩, rfl, -, S6, b6⟩; have L6 := hid (HX2.out w6 S6 b6); clear b6)
            | (go_at_call 11; refine (done_any sb S6 w6 L6.out.f.sd.at_).mono ?_; rintro e w7 ⟨rfl, rfl⟩)
            | (go_at_call 12; refine (proto_any sb S6 w6 L6.out.f.sd.at_).mono ?_; rintro e w7 ⟨rfl, rfl⟩)
            | (go_at_call 8; refine (awake_any w6).mono ?_; rintro e w8 ⟨rfl, q8⟩; have Q8 := hid (L6.out.q.trans q8); clear q8))
          go_ret
          exact ⟨rfl, Q8.out⟩
        | true =>
          have hfd : A2.fd = true := HF2.out rfl
          obtain ⟨dv, hdv⟩ : ∃ dv, decide (A2.wt.length = 0) = dv := ⟨_, rfl⟩
          have HDV := hid hdv
          clear hdv
          go_wp2_with (first
            | (go_at_call 19; refine OU.out.mono ?_; rintro e w6 ⟨⟨oa, on', oc⟩, rfl, -, S6, b6⟩; have L6 := hid (HX2.out w6 S6 b6); clear b6)
            | (go_at_call 11; refine (done_any sb S6 w6 L6.out.f.sd.at_).mono ?_; rintro e w7 ⟨rfl, rfl⟩; rw [show S6.waits.n = A2.wt.length from L6.out.f.re.wt.n.symm, HDV.out])
            | (go_at_call 12; refine (proto_any sb S6 w6 L6.out.f.sd.at_).mono ?_; rintro e w7 ⟨rfl, rfl⟩; rw [show S6.proto = A2.pr from L6.out.f.re.pr]))
          go_loopw [68] (fun iv wr => ∃ (k : Nat) (S : Sh) (F : List Fl), iv = .int .i64 k ∧ k ≤ m.n ∧ LW w wr sb S F A2) (fun i _ => ((m.n : Int) - intOf i).toNat)
          case atStart => exact ⟨0, S6, [], rfl, Nat.zero_le _, L6.out⟩
          case round =>
            obtain ⟨k, S1, F1, rfl, hk, l1⟩ := hrel
            have L1 := hid l1
            clear l1 L6
            by_cases hkn : k < m.n
            · have hki : (k : Int) < (m.n : Int) := by omega
              obtain ⟨b, off, hca, hc⟩ := HY.out.q L1.out.q (by intro e; have := HYL.out; rw [e] at this; simp at this; omega)
              obtain ⟨x1, hx1⟩ : ∃ x1, ys[k]? = some x1 := ⟨_, List.getElem?_eq_getElem (by rw [HYL.out]; exact hkn)⟩
              obtain ⟨rg, sg, zl, zb, zn⟩ := hc k x1 hx1
              have SG := hid sg
              have ZL := hid zl
              have ZB := hid zb
              have ZN := hid zn
              clear hc hx1 sg zl zb zn
              rw [hca]
              have hin : (Try.prog.info? 56).map (·.size) = some [Value.int .i64 x1.l, .slice x1.d.a x1.d.n x1.d.c].length := by kernel_rfl
              go_upto_region 19 with (refine wpList_load_mid rfl 56 _ rfl b (off + k * 2) rfl _ _ rg Try.underlying56 rfl hin ?_)
              have hob := heap_alloc_new wr (.cells #[.int .i64 x1.l, .slice x1.d.a x1.d.n x1.d.c] 56)
              have sb4 : SBx wr.heap.size x1.l x1.d (wr.alloc (.cells #[.int .i64 x1.l, .slice x1.d.a x1.d.n x1.d.c] 56)) := ⟨by rw [cell_of_row _ _ _ _ 56 (0, 0) hob]; rfl, by rw [cell_of_row _ _ _ _ 56 (0, 0) hob]; rfl⟩
              have l4 := L1.out.bq ((Q.refl wr).alloc (.cells #[.int .i64 x1.l, .slice x1.d.a x1.d.n x1.d.c] 56))
              have sg4 := SG.out.q ((Q.refl wr).alloc (.cells #[.int .i64 x1.l, .slice x1.d.a x1.d.n x1.d.c] 56))
              have HNM := hid (show ¬ Mut sb S1 F1 wr.heap.size from fun m => by have := (L1.out.f.mut m).2; omega)
              generalize wr.alloc (.cells #[.int .i64 x1.l, .slice x1.d.a x1.d.n x1.d.c] 56) = w4 at *
              generalize wr.heap.size = ob at *
              have L4 := hid l4
              have SG4 := hid sg4
              have SB4 := hid sb4
              clear l4 sg4 sb4 hob SG rg hin
              generalize hR : Code.region 19 _ true = CC
              have eR : CC = Code.region 19 (RofN Try.f5 19) true := hR.symm.trans (by kernel_rfl)
              clear hR
              subst eR
              refine wp_region_noPanic ?_
              refine sl19 sb ob x1.l (fdE x1.l A2 x1.z).1 x1.d w4 _ (fun c a d v w h => h) (fun mm v => Q w4 v ∧ Row v mm x1.z ∧ New w4.heap.size mm) (fun v => ∃ S' F', LW w v sb S' F' (fdE x1.l A2 x1.z).2) (fun u hu => by
                subst hu
                exact (rcopy_any x1.d.a x1.d.n x1.d.c x1.z w4.drew ZL.out ZN.out (SG4.out.q ((Q.refl w4).drew))).mono (fun e v ⟨g, he, q, ow, hg⟩ => ⟨⟨some ⟨g, 0, none⟩, x1.d.n, x1.d.n⟩, he, ⟨((Q.refl w4).drew).trans q, (Own.row2 ow).1, (Own.row2 ow).2⟩, fun s => ⟨Keep.cell (Keep.ofQ (F := fun _ => False) q) s.1 id, Keep.cell (Keep.ofQ (F := fun _ => False) q) s.2 id⟩⟩))
                (fun u mm hy => (feed_any sb sb S1 F1 A2 x1.l mm x1.z u (L4.out.f.q hy.1) L4.out.o (Row.seg hy.2.1) (Row.len hy.2.1) hy.2.1.capN ZB.out (by have h1 := Row.len hy.2.1; have h2 := ZL.out; have h3 := ZN.out; omega) (fun b e => ⟨fun mu => by have h1 := (L4.out.f.mut mu).2; have h2 := hy.2.2 b e; omega, Sub.lt hy.2.1 b e⟩)).mono (fun e v ⟨he, ⟨S', F', b'⟩, o'⟩ => ⟨he, ⟨S', F', (L4.out.bq hy.1).bft b' o'⟩, fun s => ⟨Keep.cell b'.k s.1 HNM.out, Keep.cell b'.k s.2 HNM.out⟩⟩)) SB4.out ?_
              rintro ma mn mc w5 ⟨S5, F5, l5⟩ sb5
              have L5 := hid l5
              have c0 := sb5.1
              have SB5 := hid sb5
              clear l5 sb5
              refine NoPanic.normal ?_
              refine ‹∀ a w, Code.wp Try.prog _ _ a w → _› _ _ ?_
              rw [fdE_shut hfd] at L5 ⊢
              dsimp only at L5 ⊢
              have OU := hid (outF sb sb S5 F5 A2 w5 L5.out.f)
              rw [HO2.out] at OU
              have HX3 := hid (show ∀ v S', Bft w5 sb sb S5 F5 { A2 with out := [] } v S' [] → LW w v sb S' [] A2 from fun v S' b => by
                have h1 := L5.out.bft b (fun e => absurd (show A2.fd = false from e) (by rw [hfd]; simp))
                rw [show ({ A2 with out := [] } : Ab) = A2 from by rw [← HO2.out]] at h1
                exact h1)
              clear L5
              generalize hxl1 : x1.l = l at *
              by_cases h0 : l = 0
              · subst h0
                rw [if_neg (by simp)]
                go_wp2_with (go_at_call 19; refine OU.out.mono ?_; rintro e w6 ⟨⟨oa, on', oc⟩, rfl, hon, S7, b7⟩; have L7 := hid (HX3.out w6 S7 b7); clear b7; dsimp only at hon; subst hon; dsimp only [List.length_nil])
                go_roundw
                case rel => exact ⟨k + 1, S7, [], by go_num, by omega, L7.out⟩
                case measure => simp [intOf]; omega
              · have h0b : (l == 0) = false := by simpa using h0
                by_cases h1 : l = 1
                · subst h1
                  rw [if_neg (by simp)]
                  go_wp2_with (go_at_call 19; refine OU.out.mono ?_; rintro e w6 ⟨⟨oa, on', oc⟩, rfl, hon, S7, b7⟩; have L7 := hid (HX3.out w6 S7 b7); clear b7; dsimp only at hon; subst hon; dsimp only [List.length_nil])
                  go_roundw
                  case rel => exact ⟨k + 1, S7, [], by go_num, by omega, L7.out⟩
                  case measure => simp [intOf]; omega
                · have h1b : (l == 1) = false := by simpa using h1
                  rw [if_pos ⟨h0, h1⟩]
                  go_wp2_with (go_at_call 19; refine OU.out.mono ?_; rintro e w6 ⟨⟨oa, on', oc⟩, rfl, hon, S7, b7⟩; have L7 := hid (HX3.out w6 S7 b7); clear b7; dsimp only at hon; subst hon; dsimp only [List.length_nil])
                  go_roundw
                  case rel => exact ⟨k + 1, S7, [], by go_num, by omega, L7.out⟩
                  case measure => simp [intOf]; omega
            · obtain rfl : k = m.n := by omega
              have hni2 : ¬ (m.n : Int) < (m.n : Int) := by omega
              have hdd : (dv == dv) = true := by simp
              go_wp2_with (first
                | (go_at_call 11; refine (done_any sb S1 wr L1.out.f.sd.at_).mono ?_; rintro e w7 ⟨rfl, rfl⟩; rw [show S1.waits.n = A2.wt.length from L1.out.f.re.wt.n.symm, HDV.out])
                | (go_at_call 12; refine (proto_any sb S1 wr L1.out.f.sd.at_).mono ?_; rintro e w7 ⟨rfl, rfl⟩; rw [show S1.proto = A2.pr from L1.out.f.re.pr])
                | (go_at_call 8; refine (awake_any wr).mono ?_; rintro e w8 ⟨rfl, q8⟩; have Q8 := hid (L1.out.q.trans q8); clear q8))
              go_ret
              exact ⟨rfl, Q8.out⟩
end Go.Proofs.Ytekpepnonhbkcaa

/-
  How arguments that are a side's Config or a slice of Saids are opened: what their words hold, and that they are not too long. Used by the statements' last steps.
-/
namespace Go.Proofs.Ytekpepnonhbkcaa
open Go.ChangeShapes Go.WideShapes Go.ChangeAt Go.RowKit Go.Deep
set_option linter.unusedVariables false
set_option linter.unusedSimpArgs false
set_option maxRecDepth 20000

theorem own_knob : ownKnob Try.prog.godebug = none := by kernel_rfl
theorem laid_out : laidOutB Try.prog = true := by kernel_rfl
theorem bytes5 : Try.prog.bytesOf 5 = 1 := by kernel_rfl
theorem bytes9 : Try.prog.bytesOf 9 = 16 := by kernel_rfl
theorem bytes56 : Try.prog.bytesOf 56 = 32 := by kernel_rfl
theorem cells3 : Try.prog.cellsOf 3 = 1 := by kernel_rfl
theorem cells4 : Try.prog.cellsOf 4 = 1 := by kernel_rfl
theorem cells5 : Try.prog.cellsOf 5 = 1 := by kernel_rfl
theorem cells9 : Try.prog.cellsOf 9 = 1 := by kernel_rfl
theorem cells23 : Try.prog.cellsOf 23 = 1 := by kernel_rfl
theorem cells24 : Try.prog.cellsOf 24 = 1 := by kernel_rfl
theorem cells22 : Try.prog.cellsOf 22 = 32 := by kernel_rfl
theorem cells26 : Try.prog.cellsOf 26 = 36 := by kernel_rfl
theorem cells56 : Try.prog.cellsOf 56 = 2 := by kernel_rfl

theorem wf_u8 {n : Int} (h : (Lit.int .u8 n).wf = true) : 0 ≤ n ∧ n < 256 := by
  have : 0 ≤ n ∧ n ≤ 255 := by simpa [Lit.wf, IntKind.min, IntKind.max, IntKind.signed, IntKind.bits] using h
  omega
theorem open_bytes {H : Type} {enc : TypeId × Value → H} {W : World} {a : Option Addr} {len cap : Nat} {d : DataW H} {p : List MemPlace}
    (h : DataW.Trod enc Try.prog W 0 (fun _ => true) true 24 (.slice a len cap) d p) :
    ∃ zs : List Int, zs.length = len ∧ Seg W a zs ∧ (∀ y ∈ zs, 0 ≤ y ∧ y < 256) ∧ len ≤ cap ∧ (a = none → len = 0 ∧ cap = 0) ∧ (len = 0 ∨ ∃ elems spare, d = .slice elems spare ∧ len ≤ elems.length + spare.length) := by
  obtain ⟨fuel, hf⟩ := h
  rcases open_ints Try.underlying24 Try.underlying5 cells5 hf with ⟨hcs, _⟩ | ⟨x, l, c, zs, hcs, _, hl, hm, hz, hx, hcell, hwz⟩
  · simp [Value.cells] at hcs
    obtain ⟨rfl, rfl, rfl⟩ := hcs
    exact ⟨[], rfl, seg_nil _ _, by simp, Nat.le_refl _, fun _ => ⟨rfl, rfl⟩, .inl rfl⟩
  · simp [Value.cells] at hcs
    obtain ⟨rfl, rfl, rfl⟩ := hcs
    simp only [Prod.mk.injEq] at hx
    obtain ⟨rfl, _⟩ := hx
    have hz' : zs.length = cap := by simpa using hz
    refine ⟨zs.take len, by simp; omega, ?_, fun y hy => wf_u8 (hwz y (List.mem_of_mem_take hy)), hl, (fun h => by cases h), .inr ⟨_, _, rfl, by simp [lits]; omega⟩⟩
    intro hne
    have hlen : 0 < len := by
      cases len with
      | zero => simp at hne
      | succ k => omega
    obtain ⟨b, off, spot⟩ := x
    have hc := hcell 0 (by omega)
    have hspot : spot = none := by simpa [Addr.add] using World.cell?_spot hc
    subst hspot
    refine ⟨b, off, rfl, fun i hi => ?_⟩
    have hi' : i < len := by have := List.length_take_le len zs; omega
    have := hcell i (by omega)
    rw [addr_add] at this
    rw [this]
    simp [hi']

/-- How long a slice is, by its data. -/
def LenOf {H : Type} (n : Nat) (d : DataW H) : Prop := n = 0 ∨ ∃ elems spare, d = .slice elems spare ∧ n ≤ elems.length + spare.length
theorem trod_bytes {H : Type} {enc : TypeId × Value → H} {W : World} {fuel : Nat} {cs : List Value} {x : DataW H × List MemPlace}
    (h : DataW.trod enc Try.prog W 0 (fun _ => true) true fuel 24 cs = some x) :
    ∃ (s : Sv) (zs : List Int), cs = [.slice s.a s.n s.c] ∧ Seg W s.a zs ∧ zs.length = s.n ∧ ByL zs ∧ LenOf s.n x.1 := by
  have hv : ∃ a2 l2 c2, cs = [.slice a2 l2 c2] := by
    rcases open_ints Try.underlying24 Try.underlying5 cells5 h with ⟨hcs, _⟩ | ⟨y, l, c, zs, hcs, _⟩
    · exact ⟨_, _, _, hcs⟩
    · exact ⟨_, _, _, hcs⟩
  obtain ⟨a, len, cap, rfl⟩ := hv
  have h2 : DataW.Trod enc Try.prog W 0 (fun _ => true) true 24 (.slice a len cap) x.1 x.2 := ⟨fuel, by simpa [Value.cells] using h⟩
  obtain ⟨zs, q1, q2, q3, q4, q5, q6⟩ := open_bytes h2
  exact ⟨⟨a, len, cap⟩, zs, rfl, q2, q1, q3, q6⟩
theorem trod_strings {H : Type} {enc : TypeId × Value → H} {W : World} {fuel : Nat} {cs : List Value} {x : DataW H × List MemPlace}
    (h : DataW.trod enc Try.prog W 0 (fun _ => true) true fuel 23 cs = some x) :
    ∃ (s : Sv) (ss : List ByteArray), cs = [.slice s.a s.n s.c] ∧ SegT W s.a ss ∧ ss.length = s.n ∧ LenOf s.n x.1 := by
  rcases open_strings Try.underlying23 Try.underlying9 cells9 h with ⟨rfl, _⟩ | ⟨a, len, cap, ss, rfl, _, hl, hm, hz, hx, hcell, hwz⟩
  · exact ⟨nilS, [], rfl, fun h => absurd rfl h, rfl, .inl rfl⟩
  · have hz' : ss.length = cap := by simpa using hz
    refine ⟨⟨some a, len, cap⟩, ss.take len, rfl, ?_, by simp; omega, ?_⟩
    · intro hne
      have hlen : 0 < len := by
        cases len with
        | zero => simp at hne
        | succ k => omega
      obtain ⟨b, off, spot⟩ := a
      have hc := hcell 0 (by omega)
      have hspot : spot = none := by simpa [Addr.add] using World.cell?_spot hc
      subst hspot
      refine ⟨b, off, rfl, fun i hi => ?_⟩
      have hi' : i < len := by have := List.length_take_le len ss; omega
      have := hcell i (by omega)
      rw [addr_add] at this
      rw [this]
      simp [hi', List.getD]
    · rw [hx]
      exact .inr ⟨_, _, rfl, by simp [strs]; omega⟩
theorem u8s_of {l : List Value} : ∀ {n : Nat}, l.length = n → (∀ i, i < n → ∃ y, (l.drop i).take 1 = [.int .u8 y] ∧ 0 ≤ y ∧ y < 256) → ∃ rs : List Int, rs.length = n ∧ ByL rs ∧ l = u8s rs := by
  induction l with
  | nil => intro n hn _; exact ⟨[], hn, (fun y hy => by cases hy), rfl⟩
  | cons v r ih =>
    intro n hn h
    obtain ⟨y, h1, h2⟩ := h 0 (by simp at hn; omega)
    simp only [List.drop_zero, List.take_succ_cons, List.take_zero, List.cons.injEq, and_true] at h1
    obtain ⟨rs, k1, k2, k3⟩ := ih (n := r.length) rfl (fun i hi => h (i + 1) (by simp at hn; omega))
    refine ⟨y :: rs, by simp at hn; simp [k1]; omega, ?_, ?_⟩
    · intro z hz
      rcases List.mem_cons.1 hz with rfl | hz
      · exact h2
      · exact k2 z hz
    · rw [h1, k3]; rfl
theorem parts36 {cs : List Value} (h : cs.length = 36) : cs = cs.take 1 ++ ((cs.drop 1).take 32 ++ ((cs.drop 33).take 1 ++ ((cs.drop 34).take 1 ++ (cs.drop 35).take 1))) := by
  have e0 := List.take_append_drop 1 cs
  have e1 := List.take_append_drop 32 (cs.drop 1)
  have e2 := List.take_append_drop 1 (cs.drop 33)
  have e3 := List.take_append_drop 1 (cs.drop 34)
  have e4 : (cs.drop 35).take 1 = cs.drop 35 := List.take_of_length_le (by simp [h])
  rw [List.drop_drop] at e1 e2 e3
  rw [e4, show cs.drop 35 = cs.drop (34 + 1) from rfl, e3, show cs.drop 34 = cs.drop (33 + 1) from rfl, e2, show cs.drop 33 = cs.drop (1 + 32) from rfl, e1, e0]
/-- A Config that came in. -/
structure CameC {H : Type} (W : World) (sv : Bool) (rs : List Int) (pv : Int) (t p : Sv) (ss : List ByteArray) (ps : List Int) (d : DataW H) : Prop where
  r : rs.length = 32
  rb : ByL rs
  ts : SegT W t.a ss
  tl : ss.length = t.n
  pg : Seg W p.a ps
  pl : ps.length = p.n
  pb : ByL ps
  l : ∃ d0 d1 d2 d3 d4, d = .agg [d0, d1, d2, d3, d4] ∧ LenOf t.n d3 ∧ LenOf p.n d4
theorem trod_config {H : Type} {enc : TypeId × Value → H} {W : World} {fuel : Nat} {cs : List Value} {x : DataW H × List MemPlace}
    (h : DataW.trod enc Try.prog W 0 (fun _ => true) true fuel 26 cs = some x) (hlen : cs.length = 36) :
    ∃ (sv : Bool) (rs : List Int) (pv : Int) (t p : Sv) (ss : List ByteArray) (ps : List Int), cs = ccells sv rs pv t p ∧ CameC W sv rs pv t p ss ps x.1 := by
  obtain ⟨xs, k, hk, hxy, _, hxl, hf⟩ := DataW.trod_struct Try.underlying26 h
  match xs, hxl with
  | [y0, y1, y2, y3, y4], _ =>
    have g0 : DataW.trod enc Try.prog W 0 (fun _ => true) true k 4 (cs.take 1) = some y0 := by have := hf 0 _ rfl; simpa [cells4] using this
    have g1 : DataW.trod enc Try.prog W 0 (fun _ => true) true k 22 ((cs.drop 1).take 32) = some y1 := by have := hf 1 _ rfl; simpa [cells22] using this
    have g2 : DataW.trod enc Try.prog W 0 (fun _ => true) true k 3 ((cs.drop 33).take 1) = some y2 := by have := hf 2 _ rfl; simpa [cells3] using this
    have g3 : DataW.trod enc Try.prog W 0 (fun _ => true) true k 23 ((cs.drop 34).take 1) = some y3 := by have := hf 3 _ rfl; simpa [cells23] using this
    have g4 : DataW.trod enc Try.prog W 0 (fun _ => true) true k 24 ((cs.drop 35).take 1) = some y4 := by have := hf 4 _ rfl; simpa [cells24] using this
    obtain ⟨sv, k0, _⟩ := DataW.trod_bool Try.underlying4 g0
    obtain ⟨ys, m, _, hy, _, hyl, hg⟩ := DataW.trod_array Try.underlying22 g1
    obtain ⟨n2, k2, _, w2⟩ := DataW.trod_int Try.underlying3 g2
    obtain ⟨t, ss, k3, ts, tl, e3⟩ := trod_strings g3
    obtain ⟨p, ps, k4, pz, pl, pb, e4⟩ := trod_bytes g4
    obtain ⟨rs, rl, rb, k1⟩ := u8s_of (l := (cs.drop 1).take 32) (n := 32) (by simp [hlen]) (fun i hi => by
      have h1 := hg i hi
      rw [cells5, Nat.mul_one, List.getElem?_eq_getElem (by omega)] at h1
      obtain ⟨n, e, _, wn⟩ := DataW.trod_int Try.underlying5 h1
      exact ⟨n, e, wf_u8 wn⟩)
    refine ⟨sv, rs, n2, t, p, ss, ps, ?_, rl, rb, ts, tl, pz, pl, pb, y0.1, y1.1, y2.1, y3.1, y4.1, ?_, e3, e4⟩
    · rw [parts36 hlen, k0, k1, k2, k3, k4]; rfl
    · rw [hxy]; rfl
theorem open_config {H : Type} {enc : TypeId × Value → H} {W : World} {cs : Array Value} {x : DataW H} {p : List MemPlace}
    (h : DataW.Trod enc Try.prog W 0 (fun _ => true) true 26 (.agg cs) x p) (hs : cs.size = Try.prog.cellsOf 26) : ∃ (sv : Bool) (rs : List Int) (pv : Int) (t p : Sv) (ss : List ByteArray) (ps : List Int), cs = (ccells sv rs pv t p).toArray ∧ CameC W sv rs pv t p ss ps x := by
  obtain ⟨fuel, hf⟩ := h
  rw [cells26] at hs
  obtain ⟨sv, rs, pv, t, p, ss, ps, hc, hm⟩ := trod_config (cs := cs.toList) (by simpa [Value.cells] using hf) (by simpa using hs)
  exact ⟨sv, rs, pv, t, p, ss, ps, by rw [← hc], hm⟩
theorem config_fit {H : Type} {ts : List TypeId} {es : List (DataW H)} {j : Nat} {W : World} {sv : Bool} {rs : List Int} {pv : Int} {t p : Sv} {ss : List ByteArray} {ps : List Int} {x : DataW H} (hsz : (DataW.weightsEach Try.prog ts es).all (· ≤ reachBytes) = true) (ht : ts[j]? = some 26) (hd : es[j]? = some x)
    (hc : CameC W sv rs pv t p ss ps x) : t.n ≤ 8796093022208 ∧ p.n ≤ 140737488351232 := by
  obtain ⟨d0, d1, d2, d3, d4, rfl, h3, h4⟩ := hc.l
  refine ⟨?_, ?_⟩
  · rcases h3 with h0 | ⟨e2, s2, rfl, hle⟩
    · omega
    · have hw : (e2.length + s2.length) * Try.prog.bytesOf 9 ∈ (DataW.agg [d0, d1, d2, DataW.slice e2 s2, d4]).weights Try.prog 26 := by
        simp [DataW.weights, DataW.weightsEach, Try.underlying26, Try.underlying23]
      have := List.all_eq_true.1 hsz _ (DataW.weights_mem_each ht hd _ hw)
      rw [bytes9] at this
      have h9 : (e2.length + s2.length) * 16 ≤ 0x7ffffffff000 := of_decide_eq_true this
      omega
  · rcases h4 with h0 | ⟨e2, s2, rfl, hle⟩
    · omega
    · have hw : (e2.length + s2.length) * Try.prog.bytesOf 5 ∈ (DataW.agg [d0, d1, d2, d3, DataW.slice e2 s2]).weights Try.prog 26 := by
        simp [DataW.weights, DataW.weightsEach, Try.underlying26, Try.underlying24]
      have := List.all_eq_true.1 hsz _ (DataW.weights_mem_each ht hd _ hw)
      rw [bytes5] at this
      simp [reachBytes] at this
      omega
theorem trod_said {H : Type} {enc : TypeId × Value → H} {W : World} {fuel : Nat} {cs : List Value} {x : DataW H × List MemPlace}
    (h : DataW.trod enc Try.prog W 0 (fun _ => true) true fuel 56 cs = some x) (hlen : cs.length = 2) :
    ∃ q : Sa, cs = [.int .i64 q.l, .slice q.d.a q.d.n q.d.c] ∧ Seg W q.d.a q.z ∧ q.z.length = q.d.n ∧ ByL q.z ∧ ∃ d0 d1, x.1 = .agg [d0, d1] ∧ LenOf q.d.n d1 := by
  obtain ⟨xs, k, hk, hxy, _, hxl, hf⟩ := DataW.trod_struct Try.underlying56 h
  match xs, hxl, cs, hlen with
  | [y0, y1], _, [v0, v1], _ =>
    have g0 := hf 0 _ rfl
    have g1 := hf 1 _ rfl
    simp [cells3, cells24] at g0 g1
    obtain ⟨n0, k0, _, w0⟩ := DataW.trod_int Try.underlying3 g0
    obtain ⟨s, z, k1, sz, sl, sb, e1⟩ := trod_bytes g1
    simp only [List.cons.injEq, and_true] at k0 k1
    subst k0 k1
    refine ⟨⟨n0, s, z⟩, rfl, sz, sl, sb, y0.1, y1.1, ?_, e1⟩
    rw [hxy]; rfl
theorem open_saids {H : Type} {enc : TypeId × Value → H} {W : World} {a : Option Addr} {len cap : Nat} {d : DataW H} {p : List MemPlace}
    (h : DataW.Trod enc Try.prog W 0 (fun _ => true) true 55 (.slice a len cap) d p) :
    ∃ z : Nat → Sa, (0 < len → ∃ b off, a = some ⟨b, off, none⟩ ∧ ∀ i, i < len → W.rangeAt b (off + i * 2) [.int .i64 (z i).l, .slice (z i).d.a (z i).d.n (z i).d.c]) ∧ (∀ i, i < len → Seg W (z i).d.a (z i).z ∧ (z i).z.length = (z i).d.n ∧ ByL (z i).z) ∧
      (len = 0 ∨ ∃ elems spare, d = .slice elems spare ∧ len ≤ elems.length + spare.length ∧ ∀ i, i < len → ∃ d0 d1, (DataW.agg [d0, d1]) ∈ elems ∧ LenOf (z i).d.n d1) := by
  have inh : Inhabited Sa := ⟨⟨0, nilS, []⟩⟩
  obtain ⟨fuel, hf⟩ := h
  rcases open_slice Try.underlying55 hf with ⟨hcs, _⟩ | ⟨x, l, c, m, n, D, Pl, hcs, hb, hl, hm, hmm, hx, hel⟩
  · simp [Value.cells] at hcs
    obtain ⟨rfl, rfl, rfl⟩ := hcs
    exact ⟨fun _ => default, fun h => absurd h (by omega), fun i hi => by omega, .inl rfl⟩
  · simp [Value.cells] at hcs
    obtain ⟨rfl, rfl, rfl⟩ := hcs
    simp only [Prod.mk.injEq] at hx
    obtain ⟨rfl, _⟩ := hx
    have hlm : len ≤ m := by rw [hmm]; split <;> omega
    have e : ∀ i, i < len → ∃ q : Sa, (∀ j v, [Value.int .i64 q.l, Value.slice q.d.a q.d.n q.d.c][j]? = some v → W.cell? (x.add (i * 2 + j)) = some v) ∧ (Seg W q.d.a q.z ∧ q.z.length = q.d.n ∧ ByL q.z) ∧ ∃ d0 d1, D i = DataW.agg [d0, d1] ∧ LenOf q.d.n d1 := by
      intro i hi
      obtain ⟨cs', h1, h2⟩ := hel i (by omega)
      rw [cells56] at h1
      obtain ⟨_, hlen, hcell⟩ := World.cells?_some h1
      obtain ⟨q, hc, q1, q2, q3, d0, d1, hd, l1⟩ := trod_said h2 hlen
      refine ⟨q, ?_, ⟨q1, q2, q3⟩, d0, d1, hd, l1⟩
      intro j v hv
      have hv' : cs'[j]? = some v := by rw [hc]; exact hv
      have hj : j < 2 := by
        rcases Nat.lt_or_ge j 2 with hh | hh
        · exact hh
        · rw [List.getElem?_eq_none (by omega)] at hv'; cases hv'
      have e0 := hcell j (by omega)
      rw [add_add] at e0
      rw [e0]
      first | exact hv' | (rw [← hv', List.getElem?_eq_getElem (by omega)]) | simpa using hv'
    obtain ⟨f, hf'⟩ := choose_lt e
    refine ⟨f, ?_, fun i hi => (hf' i hi).2.1, .inr ⟨_, _, rfl, by simp, fun i hi => ?_⟩⟩
    · intro hlen
      obtain ⟨b, off, spot⟩ := x
      have hc := (hf' 0 hlen).1 0 _ rfl
      have hspot : spot = none := by simpa [Addr.add] using World.cell?_spot hc
      subst hspot
      refine ⟨b, off, rfl, fun i hi => ?_⟩
      intro j v hv
      have h0 := (hf' i hi).1 j v hv
      rw [addr_add] at h0
      rw [Nat.add_assoc]
      exact h0
    · obtain ⟨_, _, d0, d1, hD, hr⟩ := hf' i hi
      exact ⟨d0, d1, by rw [← hD]; exact List.mem_map.2 ⟨i, List.mem_range.2 hi, rfl⟩, hr⟩
theorem weights_mem_all {H : Type} {P : Program} {e : TypeId} {d : DataW H} {l : List (DataW H)} (h : d ∈ l) {n : Nat} (hn : n ∈ d.weights P e) : n ∈ DataW.weightsAll P e l := by
  induction l with
  | nil => cases h
  | cons x r ih =>
    rw [DataW.weightsAll, List.mem_append]
    rcases List.mem_cons.1 h with rfl | h
    · exact .inl hn
    · exact .inr (ih h)
/-- A slice of Saids that came in, whole. -/
theorem saids_fit {H : Type} {enc : TypeId × Value → H} {W : World} {a : Option Addr} {len cap : Nat} {d : DataW H} {p : List MemPlace} {ts : List TypeId} {ds : List (DataW H)} {j : Nat}
    (h : DataW.Trod enc Try.prog W 0 (fun _ => true) true 55 (.slice a len cap) d p) (hsz : (DataW.weightsEach Try.prog ts ds).all (· ≤ reachBytes) = true) (ht : ts[j]? = some 55) (hd : ds[j]? = some d) :
    ∃ xs : List Sa, SegS W a xs ∧ xs.length = len ∧ len ≤ 140737488355328 := by
  obtain ⟨z, hr, hs, hl⟩ := open_saids h
  have hb : len ≤ 140737488355328 ∧ ∀ i, i < len → (z i).d.n ≤ 140737488355328 := by
    rcases hl with rfl | ⟨elems, spare, rfl, h, hin⟩
    · exact ⟨by omega, fun i hi => by omega⟩
    · refine ⟨?_, fun i hi => ?_⟩
      · have := sized_slice hsz (j := j) (t := 55) (e := 56) ht hd Try.underlying55
        rw [bytes56] at this
        simp only [reachBytes] at this
        omega
      · obtain ⟨d0, d1, hm, h0 | ⟨e2, s2, rfl, hle⟩⟩ := hin i hi
        · omega
        · have hw : (e2.length + s2.length) * Try.prog.bytesOf 5 ∈ (DataW.agg [d0, DataW.slice e2 s2]).weights Try.prog 56 := by
            simp [DataW.weights, DataW.weightsEach, Try.underlying56, Try.underlying24]
          have hw2 := weights_mem_all hm hw
          have hw3 : (e2.length + s2.length) * Try.prog.bytesOf 5 ∈ (DataW.slice elems spare).weights Try.prog 55 := by
            simp only [DataW.weights, Try.underlying55, List.mem_cons, List.mem_append]
            exact .inr (.inl hw2)
          have := List.all_eq_true.1 hsz _ (DataW.weights_mem_each ht hd _ hw3)
          rw [bytes5] at this
          simp [reachBytes] at this
          omega
  refine ⟨(List.range len).map z, ?_, by simp, hb.1⟩
  intro hne
  have hlen : 0 < len := by
    cases len with
    | zero => simp at hne
    | succ k => omega
  obtain ⟨b, off, rfl, hc⟩ := hr hlen
  refine ⟨b, off, rfl, fun i x hx => ?_⟩
  have hi : i < len := by
    have := (List.getElem?_eq_some_iff.1 hx).1
    simpa using this
  have hx' : x = z i := by
    rw [List.getElem?_map, List.getElem?_range hi] at hx
    simpa using hx.symm
  subst hx'
  exact ⟨hc i hi, (hs i hi).1, (hs i hi).2.1, (hs i hi).2.2, hb.2 i hi⟩
end Go.Proofs.Ytekpepnonhbkcaa
namespace Go.Proofs.Ytekpepnonhbkcaa.shakeShut
open Go.ChangeShapes Go.WideShapes Go.ChangeAt Go.RowKit Go.Deep
set_option linter.unusedVariables false
set_option maxRecDepth 20000

set_option maxRecDepth 100000 in
theorem lifted (os : Os) (started : os.Started) (H : Type) (enc : TypeId × Value → H) :
    ReturnsInHanded {} Try.checked os 5 .any (Rows.shakeShutSpec.pre6 enc Try.prog Try.f5 Rows.shakeShutRow.domain false) (Rows.shakeShutSpec.post enc Try.prog Try.f5 false true false false) := by
  refine returnsInHanded_of_change_sized (C := Try.checked) own_knob started (by kernel_rfl) Try.func5
    (ChangeSpec.witness6 (enc := enc) (C := Try.checked) false ⟨#[], #[.agg (ccells false (List.replicate 32 0) 0 nilS nilS).toArray, .slice none 0 0, .slice none 0 0], []⟩ 8 (by kernel_rfl) (by kernel_rfl) (by kernel_rfl) (by kernel_rfl)) ?_
  intro W base args ds gs before hval0 hW hcnd hsz0 _
  have hval : ∀ (j : Nat) t v, Try.f5.params[j]? = some t → args[j]? = some v → Value.okWide Try.prog W .any base t v := hval0
  have hsz : (DataW.weightsEach Try.prog (Try.f5.params.toList ++ Rows.shakeShutSpec.plain.varTypes Try.prog) (ds ++ gs)).all (· ≤ reachBytes) = true := hsz0
  have hW' := hW
  obtain ⟨p, q, hA0, hV, rfl, hfz, hnd⟩ := hW
  have hA : DataW.TrodAll enc Try.prog W 0 (fun _ => true) true Try.f5.params.toList args.toList ds p := hA0
  rw [Try.params5] at hA hval hsz
  obtain ⟨v0, vs0, d0, ds0, p0, q0, hargs, rfl, rfl, h0, r0⟩ := trodAll_cons hA
  obtain ⟨v1, vs1, d1, ds1, p1, q1, rfl, rfl, rfl, h1, r1⟩ := trodAll_cons r0
  obtain ⟨v2, vs2, d2, ds2, p2, q2, rfl, rfl, rfl, h2, r2⟩ := trodAll_cons r1
  obtain ⟨rfl, rfl, rfl⟩ := trodAll_nil r2
  obtain rfl : args = #[v0, v1, v2] := by cases args; simp_all
  obtain ⟨rfl, rfl⟩ := trodVars_none hV
  obtain ⟨cs0, rfl, hcs0⟩ := okWide_struct Try.underlying26 (hval 0 26 v0 rfl rfl)
  have k0 := h0
  have lt0 : ∀ x ∈ p0, x.block < W.heap.size := by obtain ⟨m, hm⟩ := k0; exact DataW.trod_lt m _ _ _ hm
  obtain ⟨sv, rs, pv, t, pp, ss, ps, rfl, hc0⟩ := open_config h0 hcs0
  have ft0 := config_fit hsz (j := 0) rfl rfl hc0
  obtain ⟨a1, len1, cap1, rfl⟩ := okWide_slice Try.underlying55 (hval 1 55 v1 rfl rfl)
  have k1 := h1
  have lt1 : ∀ x ∈ p1, x.block < W.heap.size := by obtain ⟨m, hm⟩ := k1; exact DataW.trod_lt m _ _ _ hm
  obtain ⟨xs, sx, lx, nx⟩ := saids_fit h1 hsz (j := 1) rfl rfl
  obtain ⟨a2, len2, cap2, rfl⟩ := okWide_slice Try.underlying55 (hval 2 55 v2 rfl rfl)
  have k2 := h2
  have lt2 : ∀ x ∈ p2, x.block < W.heap.size := by obtain ⟨m, hm⟩ := k2; exact DataW.trod_lt m _ _ _ hm
  obtain ⟨ys, sy, ly, ny⟩ := saids_fit h2 hsz (j := 2) rfl rfl
  clear hA0 hval0
  refine (shut_any sv rs pv t pp ss ps ⟨a1, len1, cap1⟩ ⟨a2, len2, cap2⟩ xs ys W hc0.r hc0.rb hc0.ts hc0.tl hc0.pg hc0.pl hc0.pb (by have := ft0.2; omega) ft0.1 sx lx nx sy ly ny).mono fun e W' ⟨he, bel⟩ => ?_
  subst he
  exact ⟨_, rfl, _, _, _, [], _, [], hW', trodAll_mk1 (shut_bool Try.underlying4 _), (trodAll_cons_mk (Below.trod laid_out (by kernel_rfl) (of_decide_eq_true (by kernel_rfl)) k0 bel lt0) (trodAll_cons_mk (Below.trod laid_out (by kernel_rfl) (of_decide_eq_true (by kernel_rfl)) k1 bel lt1) (trodAll_cons_mk (Below.trod laid_out (by kernel_rfl) (of_decide_eq_true (by kernel_rfl)) k2 bel lt2) trodAll_mk0))), rfl, bel.frame _, fun h => by cases h⟩

theorem over : Rows.shakeShutRow.holds Try.pinned (OpenSpec.ofChange Rows.shakeShutSpec) :=
  OpenClaim.holds_of_wide 5 Try.f5 rfl rfl rfl rfl rfl rfl rfl ⟨rfl, rfl, rfl, rfl, rfl⟩ rfl rfl rfl rfl rfl (by kernel_rfl) Try.func5 (by kernel_rfl)
    (of_decide_eq_true (by kernel_rfl)) (by unfold Func.isWrapper; first | (rw [if_pos (by decide +kernel)]; kernel_rfl) | (rw [if_neg (by decide +kernel)]; exact ⟨rfl, rfl⟩))
    (fun os started H enc _ => lifted os started H enc)

end Go.Proofs.Ytekpepnonhbkcaa.shakeShut
namespace Go.Proofs.Ytekpepnonhbkcaa

/-- The statement. -/
theorem shakeShut_holds : Rows.ShakeShutSaid := shakeShut.over
#print axioms shakeShut_holds
end Go.Proofs.Ytekpepnonhbkcaa
