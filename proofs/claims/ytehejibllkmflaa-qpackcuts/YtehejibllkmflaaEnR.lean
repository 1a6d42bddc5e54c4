/-
  The drawn region of Encode's end, gone through by hand: the last bits, filled up with ones.
-/
import Derived.Test.YtehejibllkmflaaEncM
namespace Go.Proofs.Ytehejibllkmflaa
open Go.RowKit
set_option linter.unusedVariables false
set_option maxRecDepth 20000

theorem shl_any {o : Oper} {a : Act} {w : World} {q : Int} (x y : Operand) (p : Int) (f : Nat) (ho : o.op = .binOp .shl 3 x y 3) (hx : a.eval x = .int .i64 p) (hy : a.eval y = .int .i64 (f : Int)) (hf : f ≤ 64) (hn : IntKind.i64.wrap (p * 2 ^ f) = q) : (execOp a.eval o).run Try.prog w = .ok (.value (.int .i64 q)) w := by
  have h0 : (0 : Int) ≤ (f : Int) := by omega
  unfold execOp
  simp only [ho, hx, hy]
  simp [go_sem, hn]
theorem or_any {o : Oper} {a : Act} {w : World} {n : Int} (x y : Operand) (p q : Int) (ho : o.op = .binOp .or 3 x y 3) (hx : a.eval x = .int .i64 p) (hy : a.eval y = .int .i64 q) (hn : bits .or .i64 p q = n) : (execOp a.eval o).run Try.prog w = .ok (.value (.int .i64 n)) w := by
  unfold execOp
  simp only [ho, hx, hy]
  simp [go_sem, hn]
theorem cv_any {o : Oper} {a : Act} {w : World} {n : Int} (x : Operand) (p : Int) (ho : o.op = .convert 3 5 x) (hx : a.eval x = .int .i64 p) (hn : IntKind.u8.wrap p = n) : (execOp a.eval o).run Try.prog w = .ok (.value (.int .u8 n)) w := by
  unfold execOp
  simp only [ho, hx]
  simp [go_sem, hn]
theorem run_app {o : Oper} {a : Act} {w w2 : World} {v s x : Value} (sx xx : Operand) (ho : o.op = Op.call { callee := Callee.builtin Builtin.append, args := #[sx, xx], argTypes := #[30, 30] }) (ht : o.type = 30) (hs : a.eval sx = s) (hx : a.eval xx = x) (hr : (Builtin.append_ #[30, 30] 30 #[s, x]).run Try.prog w = .ok v w2) :
    (execOp a.eval o).run Try.prog w = .ok (.value v) w2 := by
  simp [execOp, ho, ht, resolve, invoke, builtin, hs, hx, hr, Result.andThen]
def z16 (x : Sv) (f : Nat) (r q v : Int) : List (Nat × Value) := [(0, .slice x.a x.n x.c), (1, .int .i64 r), (2, .int .i64 (f : Int)), (3, .int .i64 q), (4, .int .i64 (f : Int))]
set_option maxHeartbeats 4000000 in
theorem h16 (x : Sv) (f : Nat) (r q v : Int) {x0 x1 x2 x3 x6 x7 x8 x10 x11 x12 x13 x14 x15 x16 x17 x18 x19 x20 x21 x22 x23 x24 x25 x26 x27 x28 x29 x30 x31 x32 x33 x34 x35 x36 x37 x38 x39 x40 x41 x42 x43 x44 x45 x46 x47 x48 x49 x50 x51 x52 x53 x54 x55 x56 x57 x58 x59 x60 x61 x62 x63 x64 x65 x66 x67 x68 : Value} (hf : f ≤ 62) (hq : IntKind.i64.wrap (r * 2 ^ f) = q) : Chn Try.prog (RofN Try.f93 16) (fun _ => True) (z16 x f r q v) (#[false, false, false, false, false, false, false, false, false, false, false] : Array Bool) (⟨#[x0, x1, x2, x3, .slice x.a x.n x.c, .int .i64 r, x6, x7, x8, .int .i64 (f : Int), x10, x11, x12, x13, x14, x15, x16, x17, x18, x19, x20, x21, x22, x23, x24, x25, x26, x27, x28, x29, x30, x31, x32, x33, x34, x35, x36, x37, x38, x39, x40, x41, x42, x43, x44, x45, x46, x47, x48, x49, x50, x51, x52, x53, x54, x55, x56, x57, x58, x59, x60, x61, x62, x63, x64, x65, x66, x67, x68], []⟩ : Act) :=
  ⟨⟨by kernel_rfl, by kernel_rfl, by kernel_rfl, by kernel_rfl, fun w h => by kernel_rfl⟩,
    ⟨by kernel_rfl, by kernel_rfl, by kernel_rfl, by kernel_rfl, fun w h => by kernel_rfl⟩,
    ⟨by kernel_rfl, by kernel_rfl, by kernel_rfl, by kernel_rfl, fun w h => by kernel_rfl⟩,
    ⟨by kernel_rfl, by kernel_rfl, by kernel_rfl, by kernel_rfl, fun w h => shl_any (.tmp 59) (.tmp 60) r f (by kernel_rfl) (by kernel_rfl) (by kernel_rfl) (by omega) hq⟩,
    ⟨by kernel_rfl, by kernel_rfl, by kernel_rfl, by kernel_rfl, fun w h => by kernel_rfl⟩,
    trivial⟩
set_option maxHeartbeats 8000000 in
theorem rg16 (x : Sv) (f : Nat) (r q v : Int) {x0 x1 x2 x3 x6 x7 x8 x10 x11 x12 x13 x14 x15 x16 x17 x18 x19 x20 x21 x22 x23 x24 x25 x26 x27 x28 x29 x30 x31 x32 x33 x34 x35 x36 x37 x38 x39 x40 x41 x42 x43 x44 x45 x46 x47 x48 x49 x50 x51 x52 x53 x54 x55 x56 x57 x58 x59 x60 x61 x62 x63 x64 x65 x66 x67 x68 : Value} (w : World) (R : Exit → Act → World → Prop) (hQ : ∀ c a d v w, R (.panic c) (a.put d v) w → R (.panic c) a w) (hf : f ≤ 62) (hq : IntKind.i64.wrap (r * 2 ^ f) = q) (ho : bits .or .i64 q (2 ^ f - 1) = v) (hv : IntKind.u8.wrap v = v) (z : Sv) (w2 : World)
    (hr : (Builtin.append_ #[30, 30] 30 #[.slice x.a x.n x.c, .slice (some ⟨w.drew.heap.size, 0, none⟩) 1 1]).run Try.prog (w.drew.alloc (.cells #[.int .u8 v] 5)) = .ok (.slice z.a z.n z.c) w2)
    (h : R .normal (⟨#[x0, x1, x2, x3, .slice z.a z.n z.c, .int .i64 r, x6, x7, x8, .int .i64 (f : Int), x10, x11, x12, x13, x14, x15, x16, x17, x18, x19, x20, x21, x22, x23, x24, x25, x26, x27, x28, x29, x30, x31, x32, x33, x34, x35, x36, x37, x38, x39, x40, x41, x42, x43, x44, x45, x46, x47, x48, x49, x50, x51, x52, x53, x54, x55, x56, x57, .slice x.a x.n x.c, .int .i64 r, .int .i64 (f : Int), .int .i64 q, .int .i64 (f : Int), .int .i64 (2 ^ f - 1), .int .i64 v, .int .u8 v, .slice (some ⟨w.heap.size, 0, none⟩) 1 1, .slice z.a z.n z.c, x68], []⟩ : Act) w2) :
    (Code.region 16 (RofN Try.f93 16) true).wp Try.prog R (⟨#[x0, x1, x2, x3, .slice x.a x.n x.c, .int .i64 r, x6, x7, x8, .int .i64 (f : Int), x10, x11, x12, x13, x14, x15, x16, x17, x18, x19, x20, x21, x22, x23, x24, x25, x26, x27, x28, x29, x30, x31, x32, x33, x34, x35, x36, x37, x38, x39, x40, x41, x42, x43, x44, x45, x46, x47, x48, x49, x50, x51, x52, x53, x54, x55, x56, x57, x58, x59, x60, x61, x62, x63, x64, x65, x66, x67, x68], []⟩ : Act) w := by
  refine wp_region_held (S := (fun _ => True)) (by kernel_rfl) ?_
  have hsz : (RofN Try.f93 16).size = 11 := by kernel_rfl
  rw [hsz]
  refine chn_take (by kernel_rfl) hQ trivial 6 (z16 x f r q v) _ _ (h16 x f r q v (by omega) hq) ?_
  have e0 : putL (RofN Try.f93 16) (z16 x f r q v) (⟨#[x0, x1, x2, x3, .slice x.a x.n x.c, .int .i64 r, x6, x7, x8, .int .i64 (f : Int), x10, x11, x12, x13, x14, x15, x16, x17, x18, x19, x20, x21, x22, x23, x24, x25, x26, x27, x28, x29, x30, x31, x32, x33, x34, x35, x36, x37, x38, x39, x40, x41, x42, x43, x44, x45, x46, x47, x48, x49, x50, x51, x52, x53, x54, x55, x56, x57, x58, x59, x60, x61, x62, x63, x64, x65, x66, x67, x68], []⟩ : Act) = (⟨#[x0, x1, x2, x3, .slice x.a x.n x.c, .int .i64 r, x6, x7, x8, .int .i64 (f : Int), x10, x11, x12, x13, x14, x15, x16, x17, x18, x19, x20, x21, x22, x23, x24, x25, x26, x27, x28, x29, x30, x31, x32, x33, x34, x35, x36, x37, x38, x39, x40, x41, x42, x43, x44, x45, x46, x47, x48, x49, x50, x51, x52, x53, x54, x55, x56, x57, .slice x.a x.n x.c, .int .i64 r, .int .i64 (f : Int), .int .i64 q, .int .i64 (f : Int), x63, x64, x65, x66, x67, x68], []⟩ : Act) := by kernel_rfl
  have l0 : setL (z16 x f r q v) (Array.replicate 11 false) = (#[true, true, true, true, true, false, false, false, false, false, false] : Array Bool) := by kernel_rfl
  rw [e0, l0]
  clear e0 l0
  refine wpAnyH_one (i := 5) (by kernel_rfl) ?_
  refine wpOp_call (some 63) (by kernel_rfl) (by kernel_rfl) (by kernel_rfl) 96 #[.int .i64 (f : Int)] (by kernel_rfl) (ones_any f _ hf) (.int .i64 (2 ^ f - 1)) ?_
  rintro e w1 ⟨rfl, rfl⟩
  refine ⟨rfl, trivial, ?_⟩
  have e0 : (⟨#[x0, x1, x2, x3, .slice x.a x.n x.c, .int .i64 r, x6, x7, x8, .int .i64 (f : Int), x10, x11, x12, x13, x14, x15, x16, x17, x18, x19, x20, x21, x22, x23, x24, x25, x26, x27, x28, x29, x30, x31, x32, x33, x34, x35, x36, x37, x38, x39, x40, x41, x42, x43, x44, x45, x46, x47, x48, x49, x50, x51, x52, x53, x54, x55, x56, x57, .slice x.a x.n x.c, .int .i64 r, .int .i64 (f : Int), .int .i64 q, .int .i64 (f : Int), x63, x64, x65, x66, x67, x68], []⟩ : Act).put (some 63) (.int .i64 (2 ^ f - 1)) = (⟨#[x0, x1, x2, x3, .slice x.a x.n x.c, .int .i64 r, x6, x7, x8, .int .i64 (f : Int), x10, x11, x12, x13, x14, x15, x16, x17, x18, x19, x20, x21, x22, x23, x24, x25, x26, x27, x28, x29, x30, x31, x32, x33, x34, x35, x36, x37, x38, x39, x40, x41, x42, x43, x44, x45, x46, x47, x48, x49, x50, x51, x52, x53, x54, x55, x56, x57, .slice x.a x.n x.c, .int .i64 r, .int .i64 (f : Int), .int .i64 q, .int .i64 (f : Int), .int .i64 (2 ^ f - 1), x64, x65, x66, x67, x68], []⟩ : Act) := by kernel_rfl
  have l0 : (#[true, true, true, true, true, false, false, false, false, false, false] : Array Bool).setIfInBounds 5 true = (#[true, true, true, true, true, true, false, false, false, false, false] : Array Bool) := by kernel_rfl
  rw [e0, l0]
  clear e0 l0
  have hc := or_any (o := ((RofN Try.f93 16)[6]?).getD default) (a := (⟨#[x0, x1, x2, x3, .slice x.a x.n x.c, .int .i64 r, x6, x7, x8, .int .i64 (f : Int), x10, x11, x12, x13, x14, x15, x16, x17, x18, x19, x20, x21, x22, x23, x24, x25, x26, x27, x28, x29, x30, x31, x32, x33, x34, x35, x36, x37, x38, x39, x40, x41, x42, x43, x44, x45, x46, x47, x48, x49, x50, x51, x52, x53, x54, x55, x56, x57, .slice x.a x.n x.c, .int .i64 r, .int .i64 (f : Int), .int .i64 q, .int .i64 (f : Int), .int .i64 (2 ^ f - 1), x64, x65, x66, x67, x68], []⟩ : Act)) (w := w.drew) (.tmp 61) (.tmp 63) q (2 ^ f - 1) (by kernel_rfl) (by kernel_rfl) (by kernel_rfl) ho
  refine wpAnyH_one (i := 6) (by kernel_rfl) ?_
  refine wpOp_val (some 64) (by kernel_rfl) (by kernel_rfl) (by kernel_rfl) hc ?_
  clear hc
  refine ⟨trivial, ?_⟩
  have e0 : (⟨#[x0, x1, x2, x3, .slice x.a x.n x.c, .int .i64 r, x6, x7, x8, .int .i64 (f : Int), x10, x11, x12, x13, x14, x15, x16, x17, x18, x19, x20, x21, x22, x23, x24, x25, x26, x27, x28, x29, x30, x31, x32, x33, x34, x35, x36, x37, x38, x39, x40, x41, x42, x43, x44, x45, x46, x47, x48, x49, x50, x51, x52, x53, x54, x55, x56, x57, .slice x.a x.n x.c, .int .i64 r, .int .i64 (f : Int), .int .i64 q, .int .i64 (f : Int), .int .i64 (2 ^ f - 1), x64, x65, x66, x67, x68], []⟩ : Act).put (some 64) (.int .i64 v) = (⟨#[x0, x1, x2, x3, .slice x.a x.n x.c, .int .i64 r, x6, x7, x8, .int .i64 (f : Int), x10, x11, x12, x13, x14, x15, x16, x17, x18, x19, x20, x21, x22, x23, x24, x25, x26, x27, x28, x29, x30, x31, x32, x33, x34, x35, x36, x37, x38, x39, x40, x41, x42, x43, x44, x45, x46, x47, x48, x49, x50, x51, x52, x53, x54, x55, x56, x57, .slice x.a x.n x.c, .int .i64 r, .int .i64 (f : Int), .int .i64 q, .int .i64 (f : Int), .int .i64 (2 ^ f - 1), .int .i64 v, x65, x66, x67, x68], []⟩ : Act) := by kernel_rfl
  have l0 : (#[true, true, true, true, true, true, false, false, false, false, false] : Array Bool).setIfInBounds 6 true = (#[true, true, true, true, true, true, true, false, false, false, false] : Array Bool) := by kernel_rfl
  rw [e0, l0]
  clear e0 l0
  have hc := cv_any (o := ((RofN Try.f93 16)[7]?).getD default) (a := (⟨#[x0, x1, x2, x3, .slice x.a x.n x.c, .int .i64 r, x6, x7, x8, .int .i64 (f : Int), x10, x11, x12, x13, x14, x15, x16, x17, x18, x19, x20, x21, x22, x23, x24, x25, x26, x27, x28, x29, x30, x31, x32, x33, x34, x35, x36, x37, x38, x39, x40, x41, x42, x43, x44, x45, x46, x47, x48, x49, x50, x51, x52, x53, x54, x55, x56, x57, .slice x.a x.n x.c, .int .i64 r, .int .i64 (f : Int), .int .i64 q, .int .i64 (f : Int), .int .i64 (2 ^ f - 1), .int .i64 v, x65, x66, x67, x68], []⟩ : Act)) (w := w.drew) (.tmp 64) v (by kernel_rfl) (by kernel_rfl) hv
  refine wpAnyH_one (i := 7) (by kernel_rfl) ?_
  refine wpOp_val (some 65) (by kernel_rfl) (by kernel_rfl) (by kernel_rfl) hc ?_
  clear hc
  refine ⟨trivial, ?_⟩
  have e0 : (⟨#[x0, x1, x2, x3, .slice x.a x.n x.c, .int .i64 r, x6, x7, x8, .int .i64 (f : Int), x10, x11, x12, x13, x14, x15, x16, x17, x18, x19, x20, x21, x22, x23, x24, x25, x26, x27, x28, x29, x30, x31, x32, x33, x34, x35, x36, x37, x38, x39, x40, x41, x42, x43, x44, x45, x46, x47, x48, x49, x50, x51, x52, x53, x54, x55, x56, x57, .slice x.a x.n x.c, .int .i64 r, .int .i64 (f : Int), .int .i64 q, .int .i64 (f : Int), .int .i64 (2 ^ f - 1), .int .i64 v, x65, x66, x67, x68], []⟩ : Act).put (some 65) (.int .u8 v) = (⟨#[x0, x1, x2, x3, .slice x.a x.n x.c, .int .i64 r, x6, x7, x8, .int .i64 (f : Int), x10, x11, x12, x13, x14, x15, x16, x17, x18, x19, x20, x21, x22, x23, x24, x25, x26, x27, x28, x29, x30, x31, x32, x33, x34, x35, x36, x37, x38, x39, x40, x41, x42, x43, x44, x45, x46, x47, x48, x49, x50, x51, x52, x53, x54, x55, x56, x57, .slice x.a x.n x.c, .int .i64 r, .int .i64 (f : Int), .int .i64 q, .int .i64 (f : Int), .int .i64 (2 ^ f - 1), .int .i64 v, .int .u8 v, x66, x67, x68], []⟩ : Act) := by kernel_rfl
  have l0 : (#[true, true, true, true, true, true, true, false, false, false, false] : Array Bool).setIfInBounds 7 true = (#[true, true, true, true, true, true, true, true, false, false, false] : Array Bool) := by kernel_rfl
  rw [e0, l0]
  clear e0 l0
  refine wpAnyH_one (i := 8) (by kernel_rfl) ?_
  refine wpOp_val (w' := (w.drew.alloc (.cells #[.int .u8 v] 5))) (v := .slice (some ⟨w.heap.size, 0, none⟩) 1 1) (some 66) (by kernel_rfl) (by kernel_rfl) (by kernel_rfl) (by kernel_rfl) ?_
  refine ⟨trivial, ?_⟩
  have e0 : (⟨#[x0, x1, x2, x3, .slice x.a x.n x.c, .int .i64 r, x6, x7, x8, .int .i64 (f : Int), x10, x11, x12, x13, x14, x15, x16, x17, x18, x19, x20, x21, x22, x23, x24, x25, x26, x27, x28, x29, x30, x31, x32, x33, x34, x35, x36, x37, x38, x39, x40, x41, x42, x43, x44, x45, x46, x47, x48, x49, x50, x51, x52, x53, x54, x55, x56, x57, .slice x.a x.n x.c, .int .i64 r, .int .i64 (f : Int), .int .i64 q, .int .i64 (f : Int), .int .i64 (2 ^ f - 1), .int .i64 v, .int .u8 v, x66, x67, x68], []⟩ : Act).put (some 66) (.slice (some ⟨w.heap.size, 0, none⟩) 1 1) = (⟨#[x0, x1, x2, x3, .slice x.a x.n x.c, .int .i64 r, x6, x7, x8, .int .i64 (f : Int), x10, x11, x12, x13, x14, x15, x16, x17, x18, x19, x20, x21, x22, x23, x24, x25, x26, x27, x28, x29, x30, x31, x32, x33, x34, x35, x36, x37, x38, x39, x40, x41, x42, x43, x44, x45, x46, x47, x48, x49, x50, x51, x52, x53, x54, x55, x56, x57, .slice x.a x.n x.c, .int .i64 r, .int .i64 (f : Int), .int .i64 q, .int .i64 (f : Int), .int .i64 (2 ^ f - 1), .int .i64 v, .int .u8 v, .slice (some ⟨w.heap.size, 0, none⟩) 1 1, x67, x68], []⟩ : Act) := by kernel_rfl
  have l0 : (#[true, true, true, true, true, true, true, true, false, false, false] : Array Bool).setIfInBounds 8 true = (#[true, true, true, true, true, true, true, true, true, false, false] : Array Bool) := by kernel_rfl
  rw [e0, l0]
  clear e0 l0
  have hc := run_app (o := ((RofN Try.f93 16)[9]?).getD default) (a := (⟨#[x0, x1, x2, x3, .slice x.a x.n x.c, .int .i64 r, x6, x7, x8, .int .i64 (f : Int), x10, x11, x12, x13, x14, x15, x16, x17, x18, x19, x20, x21, x22, x23, x24, x25, x26, x27, x28, x29, x30, x31, x32, x33, x34, x35, x36, x37, x38, x39, x40, x41, x42, x43, x44, x45, x46, x47, x48, x49, x50, x51, x52, x53, x54, x55, x56, x57, .slice x.a x.n x.c, .int .i64 r, .int .i64 (f : Int), .int .i64 q, .int .i64 (f : Int), .int .i64 (2 ^ f - 1), .int .i64 v, .int .u8 v, .slice (some ⟨w.heap.size, 0, none⟩) 1 1, x67, x68], []⟩ : Act)) (w := (w.drew.alloc (.cells #[.int .u8 v] 5))) (.tmp 58) (.tmp 66) (by kernel_rfl) (by kernel_rfl) (by kernel_rfl) (by kernel_rfl) hr
  refine wpAnyH_one (i := 9) (by kernel_rfl) ?_
  refine wpOp_val (some 67) (by kernel_rfl) (by kernel_rfl) (by kernel_rfl) hc ?_
  clear hc
  refine ⟨trivial, ?_⟩
  have e0 : (⟨#[x0, x1, x2, x3, .slice x.a x.n x.c, .int .i64 r, x6, x7, x8, .int .i64 (f : Int), x10, x11, x12, x13, x14, x15, x16, x17, x18, x19, x20, x21, x22, x23, x24, x25, x26, x27, x28, x29, x30, x31, x32, x33, x34, x35, x36, x37, x38, x39, x40, x41, x42, x43, x44, x45, x46, x47, x48, x49, x50, x51, x52, x53, x54, x55, x56, x57, .slice x.a x.n x.c, .int .i64 r, .int .i64 (f : Int), .int .i64 q, .int .i64 (f : Int), .int .i64 (2 ^ f - 1), .int .i64 v, .int .u8 v, .slice (some ⟨w.heap.size, 0, none⟩) 1 1, x67, x68], []⟩ : Act).put (some 67) (.slice z.a z.n z.c) = (⟨#[x0, x1, x2, x3, .slice x.a x.n x.c, .int .i64 r, x6, x7, x8, .int .i64 (f : Int), x10, x11, x12, x13, x14, x15, x16, x17, x18, x19, x20, x21, x22, x23, x24, x25, x26, x27, x28, x29, x30, x31, x32, x33, x34, x35, x36, x37, x38, x39, x40, x41, x42, x43, x44, x45, x46, x47, x48, x49, x50, x51, x52, x53, x54, x55, x56, x57, .slice x.a x.n x.c, .int .i64 r, .int .i64 (f : Int), .int .i64 q, .int .i64 (f : Int), .int .i64 (2 ^ f - 1), .int .i64 v, .int .u8 v, .slice (some ⟨w.heap.size, 0, none⟩) 1 1, .slice z.a z.n z.c, x68], []⟩ : Act) := by kernel_rfl
  have l0 : (#[true, true, true, true, true, true, true, true, true, false, false] : Array Bool).setIfInBounds 9 true = (#[true, true, true, true, true, true, true, true, true, true, false] : Array Bool) := by kernel_rfl
  rw [e0, l0]
  clear e0 l0
  refine wpAnyH_one (i := 10) (by kernel_rfl) ?_
  refine wpOp_val (w' := w2) (v := .slice z.a z.n z.c) (some 4) (by kernel_rfl) (by kernel_rfl) (by kernel_rfl) (by kernel_rfl) ?_
  refine ⟨trivial, ?_⟩
  have e0 : (⟨#[x0, x1, x2, x3, .slice x.a x.n x.c, .int .i64 r, x6, x7, x8, .int .i64 (f : Int), x10, x11, x12, x13, x14, x15, x16, x17, x18, x19, x20, x21, x22, x23, x24, x25, x26, x27, x28, x29, x30, x31, x32, x33, x34, x35, x36, x37, x38, x39, x40, x41, x42, x43, x44, x45, x46, x47, x48, x49, x50, x51, x52, x53, x54, x55, x56, x57, .slice x.a x.n x.c, .int .i64 r, .int .i64 (f : Int), .int .i64 q, .int .i64 (f : Int), .int .i64 (2 ^ f - 1), .int .i64 v, .int .u8 v, .slice (some ⟨w.heap.size, 0, none⟩) 1 1, .slice z.a z.n z.c, x68], []⟩ : Act).put (some 4) (.slice z.a z.n z.c) = (⟨#[x0, x1, x2, x3, .slice z.a z.n z.c, .int .i64 r, x6, x7, x8, .int .i64 (f : Int), x10, x11, x12, x13, x14, x15, x16, x17, x18, x19, x20, x21, x22, x23, x24, x25, x26, x27, x28, x29, x30, x31, x32, x33, x34, x35, x36, x37, x38, x39, x40, x41, x42, x43, x44, x45, x46, x47, x48, x49, x50, x51, x52, x53, x54, x55, x56, x57, .slice x.a x.n x.c, .int .i64 r, .int .i64 (f : Int), .int .i64 q, .int .i64 (f : Int), .int .i64 (2 ^ f - 1), .int .i64 v, .int .u8 v, .slice (some ⟨w.heap.size, 0, none⟩) 1 1, .slice z.a z.n z.c, x68], []⟩ : Act) := by kernel_rfl
  have l0 : (#[true, true, true, true, true, true, true, true, true, true, false] : Array Bool).setIfInBounds 10 true = (#[true, true, true, true, true, true, true, true, true, true, true] : Array Bool) := by kernel_rfl
  rw [e0, l0]
  clear e0 l0
  refine wpAnyH_done (by kernel_rfl) ?_ _
  exact h
end Go.Proofs.Ytehejibllkmflaa
