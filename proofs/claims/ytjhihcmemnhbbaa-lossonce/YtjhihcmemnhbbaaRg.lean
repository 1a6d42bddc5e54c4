/-
  The first test of Ack: a region that draws its order and holds two calls that make memory, gone through in the text's order: in every world that has grown from the first one each operation yields one value.
-/
import Derived.Test.YtjhihcmemnhbbaaGrw
namespace Go.Proofs.Ytjhihcmemnhbbaa
open Go.RowKit
set_option linter.unusedVariables false
set_option maxRecDepth 20000

def opsOf : Code → Nat → Option (Array Oper)
  | .region id ops _, k => if id == k then some ops else none
  | .seq a b, k => (opsOf a k).orElse fun _ => opsOf b k
  | .cond _ a b, k => (opsOf a k).orElse fun _ => opsOf b k
  | .block _ b, k => opsOf b k
  | .loop b, k => opsOf b k
  | .scope b, k => opsOf b k
  | _, _ => none
abbrev RofN (f : Func) (k : Nat) : Array Oper := ((f.body).bind (opsOf · k)).getD #[]
section
variable {P : Program} {ops : Array Oper} {C : World → Prop}
/-- The values of the operations, one behind the other; none: not wanted. -/
def QChn (P : Program) (ops : Array Oper) (C : World → Prop) : Nat → List (Option Value) → Act → Prop
  | i, some v :: vs, a => (Region.wanted ((ops[i]?).getD default) (yielded ops a.tmps) = true ∧ ∀ u, C u → ((ops[i]?).getD default).quietAt P a C u v) ∧ QChn P ops C (i + 1) vs (a.put ((ops[i]?).bind (·.dst)) v)
  | i, none :: vs, a => Region.wanted ((ops[i]?).getD default) (yielded ops a.tmps) = false ∧ QChn P ops C (i + 1) vs (a.put ((ops[i]?).bind (·.dst)) undef)
  | _, [], _ => True
def putQ (ops : Array Oper) : Nat → List (Option Value) → Act → Act
  | i, v :: vs, a => putQ ops (i + 1) vs (a.put ((ops[i]?).bind (·.dst)) (v.getD undef))
  | _, [], a => a
theorem qchn_go {Q : Act → Prop} : ∀ (vs : List (Option Value)) (i : Nat) (a : Act), i + vs.length ≤ ops.size → QChn P ops C i vs a → wpQuiet P ops C Q (ops.toList.drop (i + vs.length)) (putQ ops i vs a) → wpQuiet P ops C Q (ops.toList.drop i) a
  | [], i, a, hl, _, hq => hq
  | v :: vs, i, a, hl, h, hq => by
    have hi : i < ops.toList.length := by simp at hl; simp; omega
    have hi' : i < ops.size := by simpa using hi
    rw [List.drop_eq_getElem_cons hi]
    have eo : ops[i]? = some ops.toList[i] := by simp [hi']
    have e2 : i + (v :: vs).length = i + 1 + vs.length := by simp; omega
    rw [e2] at hq
    cases v with
    | some v =>
      obtain ⟨⟨h1, h2⟩, h3⟩ := h
      rw [eo] at h1 h2 h3
      have ih := qchn_go (Q := Q) vs (i + 1) _ (by simp at hl; omega) h3 (by have := hq; simp only [putQ, eo] at this; exact this)
      show (if _ then _ else _)
      have h1' : Region.wanted ops.toList[i] (yielded ops a.tmps) = true := h1
      rw [if_pos h1']
      exact ⟨v, h2, ih⟩
    | none =>
      obtain ⟨h1, h3⟩ := h
      rw [eo] at h1 h3
      have ih := qchn_go (Q := Q) vs (i + 1) _ (by simp at hl; omega) h3 (by have := hq; simp only [putQ, eo] at this; exact this)
      show (if _ then _ else _)
      have h1' : Region.wanted ops.toList[i] (yielded ops a.tmps) = false := h1
      rw [if_neg (by rw [h1']; simp)]
      exact ih
end
theorem qchn_all {P : Program} {ops : Array Oper} {C : World → Prop} {Q : Act → Prop} (vs : List (Option Value)) (a b : Act) (hl : vs.length ≤ ops.size) (h : QChn P ops C 0 vs a) (e : putQ ops 0 vs a = b) (hq : wpQuiet P ops C Q (ops.toList.drop vs.length) b) : wpQuiet P ops C Q ops.toList a := by
  have := qchn_go (Q := Q) vs 0 a (by omega) h (by rw [e, Nat.zero_add]; exact hq)
  rwa [List.drop_zero] at this
theorem qv {C : World → Prop} {o : Oper} {a : Act} {u : World} {v : Value} (h : (execOp a.eval o).run Try.prog u = .ok (.value v) u) : o.quietAt Try.prog a C u v := by
  unfold Oper.quietAt; rw [h]; exact ⟨rfl, rfl⟩
theorem qc {C : World → Prop} {o : Oper} {a : Act} {u : World} {v : Value} (f : FuncId) (args : Array Value) (h : (execOp a.eval o).run Try.prog u = .ok (.enter f args) u) (hc : Calls Try.prog f args u fun e u' => e = .returned v ∧ C u') : o.quietAt Try.prog a C u v := by
  unfold Oper.quietAt; rw [h]; exact ⟨rfl, hc⟩
theorem ld_sl {o : Oper} {a : Act} {w : World} (x : Operand) (b j : Nat) (sa : Option Addr) (sn sc : Nat) (ho : o.op = .load 38 x) (hx : a.eval x = .pointer (some ⟨b, j, none⟩)) (hc : w.cell? ⟨b, j, none⟩ = some (.slice sa sn sc)) :
    (execOp a.eval o).run Try.prog w = .ok (.value (.slice sa sn sc)) w := by
  have hst : (loadVar 38 ⟨b, j, none⟩).run Try.prog w = .ok (.slice sa sn sc) w := by simp [loadVar, go_sem, hc]
  unfold execOp
  simp only [ho, hx, Instr.loadAt, Instr.sureAddr, Sem.run_bind, Sem.run_pure, Result.andThen_ok, hst]
theorem pk_t {o : Oper} {a : Act} {w : World} (x y z : Operand) (v : Value) (ho : o.op = .pick x y z) (hx : a.eval x = .bool true) (hy : a.eval y = v) : (execOp a.eval o).run Try.prog w = .ok (.value v) w := by
  unfold execOp
  simp only [ho, hx, hy]
  simp [go_sem]
theorem pk_f {o : Oper} {a : Act} {w : World} (x y z : Operand) (v : Value) (ho : o.op = .pick x y z) (hx : a.eval x = .bool false) (hz : a.eval z = v) : (execOp a.eval o).run Try.prog w = .ok (.value v) w := by
  unfold execOp
  simp only [ho, hx, hz]
  simp [go_sem]
theorem pick_last {ops : Array Oper} {C : World → Prop} {Q : Act → Prop} {a : Act} {n : Nat} (o : Oper) (hl : ops.toList.drop n = [o]) (x y z : Operand) (b : Bool) (v : Value) (d : Tmp) (ho : o.op = .pick x y z) (hg : o.guard = none) (hd : o.dst = some d) (hx : a.eval x = .bool b) (hv : (if b = true then a.eval y else a.eval z) = v) (hq : Q (a.put (some d) v)) : wpQuiet Try.prog ops C Q (ops.toList.drop n) a := by
  rw [hl]
  show (if _ then _ else _)
  have hw : Region.wanted o (yielded ops a.tmps) = true := by simp [Region.wanted, hg]
  rw [if_pos hw]
  refine ⟨v, fun u hu => qv ?_, ?_⟩
  · cases b
    · exact pk_f x y z v ho hx (by simpa using hv)
    · exact pk_t x y z v ho hx (by simpa using hv)
  · rw [hd]; exact hq
def Gw (w : World) (u : World) : Prop := Q w u

set_option maxHeartbeats 4000000 in
theorem rg5fc (rb o xb m c : Nat) (a : Option Addr) {x0 x1 x2 x3 x4 x5 x6 x8 x9 x10 x11 x12 x13 x15 x16 x17 x18 x19 x20 x21 x22 x23 x24 x25 x26 x27 x28 x29 x30 x31 x32 x33 x34 x35 x36 x37 x38 x39 x40 x41 x42 x43 x44 x45 x46 x47 x48 x49 x50 x51 x52 x53 x54 x55 x56 x57 x58 x59 x60 x61 x62 x63 x64 x65 x66 x67 x68 x69 x70 x71 x72 x73 x74 x75 x76 x77 x78 x79 x80 x81 x82 x83 x84 x85 x86 x87 x88 x89 x90 x91 x92 x93 x94 x95 x96 x97 x98 x99 x100 x101 x102 x103 x104 x105 x106 x107 x108 x109 x110 x111 x112 x113 x114 x115 x116 : Value} {w : World} (hb : w.cell? ⟨xb, 0, none⟩ = some (.slice a m c)) (H1 : ∀ u, Gw w u → Calls Try.prog 25 #[.slice a m c] u fun e u' => e = .returned (.bool false) ∧ Gw w u') : QChn Try.prog (RofN Try.f14 5) (Gw w) 0 [some (.slice a m c), some (.bool false), some (.bool true), some (.bool true), none, none, none, none, none, none, none, none, none, none, none, none, none] (⟨#[x0, x1, x2, x3, x4, x5, x6, .pointer (some ⟨xb, 0, none⟩), x8, x9, x10, x11, x12, x13, .pointer (some ⟨rb, o, none⟩), x15, x16, x17, x18, x19, x20, x21, x22, x23, x24, x25, x26, x27, x28, x29, x30, x31, x32, x33, x34, x35, x36, x37, x38, x39, x40, x41, x42, x43, x44, x45, x46, x47, x48, x49, x50, x51, x52, x53, x54, x55, x56, x57, x58, x59, x60, x61, x62, x63, x64, x65, x66, x67, x68, x69, x70, x71, x72, x73, x74, x75, x76, x77, x78, x79, x80, x81, x82, x83, x84, x85, x86, x87, x88, x89, x90, x91, x92, x93, x94, x95, x96, x97, x98, x99, x100, x101, x102, x103, x104, x105, x106, x107, x108, x109, x110, x111, x112, x113, x114, x115, x116], []⟩ : Act) :=
  ⟨⟨(by kernel_rfl), fun u hu => qv (ld_sl (.tmp 7) xb 0 a m c (by kernel_rfl) (by kernel_rfl) ((hu.cell (p := ⟨xb, 0, none⟩) (lt_of_cell hb)).trans hb))⟩,
    ⟨(by kernel_rfl), fun u hu => qc 25 #[.slice a m c] (by kernel_rfl) (H1 u hu)⟩,
    ⟨(by kernel_rfl), fun u hu => qv (by kernel_rfl)⟩,
    ⟨(by kernel_rfl), fun u hu => qv (by kernel_rfl)⟩,
    (by kernel_rfl),
    (by kernel_rfl),
    (by kernel_rfl),
    (by kernel_rfl),
    (by kernel_rfl),
    (by kernel_rfl),
    (by kernel_rfl),
    (by kernel_rfl),
    (by kernel_rfl),
    (by kernel_rfl),
    (by kernel_rfl),
    (by kernel_rfl),
    (by kernel_rfl),
    trivial⟩
set_option maxHeartbeats 4000000 in
theorem rg5f (rb o xb m c : Nat) (a : Option Addr) {x0 x1 x2 x3 x4 x5 x6 x8 x9 x10 x11 x12 x13 x15 x16 x17 x18 x19 x20 x21 x22 x23 x24 x25 x26 x27 x28 x29 x30 x31 x32 x33 x34 x35 x36 x37 x38 x39 x40 x41 x42 x43 x44 x45 x46 x47 x48 x49 x50 x51 x52 x53 x54 x55 x56 x57 x58 x59 x60 x61 x62 x63 x64 x65 x66 x67 x68 x69 x70 x71 x72 x73 x74 x75 x76 x77 x78 x79 x80 x81 x82 x83 x84 x85 x86 x87 x88 x89 x90 x91 x92 x93 x94 x95 x96 x97 x98 x99 x100 x101 x102 x103 x104 x105 x106 x107 x108 x109 x110 x111 x112 x113 x114 x115 x116 : Value} (w : World) (R : Exit → Act → World → Prop) (hb : w.cell? ⟨xb, 0, none⟩ = some (.slice a m c)) (H1 : ∀ u, Gw w u → Calls Try.prog 25 #[.slice a m c] u fun e u' => e = .returned (.bool false) ∧ Gw w u')
    (h : ∀ W, Gw w W → R .normal (⟨#[x0, x1, x2, x3, x4, x5, x6, .pointer (some ⟨xb, 0, none⟩), x8, x9, x10, x11, x12, x13, .pointer (some ⟨rb, o, none⟩), x15, x16, x17, x18, x19, x20, x21, x22, x23, x24, x25, x26, x27, x28, .slice a m c, .bool false, .bool true, .bool true, undef, undef, undef, undef, undef, undef, undef, undef, undef, undef, undef, undef, undef, .bool true, x47, x48, x49, x50, x51, x52, x53, x54, x55, x56, x57, x58, x59, x60, x61, x62, x63, x64, x65, x66, x67, x68, x69, x70, x71, x72, x73, x74, x75, x76, x77, x78, x79, x80, x81, x82, x83, x84, x85, x86, x87, x88, x89, x90, x91, x92, x93, x94, x95, x96, x97, x98, x99, x100, x101, x102, x103, x104, x105, x106, x107, x108, x109, x110, x111, x112, x113, x114, x115, x116], []⟩ : Act) W) : (Code.region 5 (RofN Try.f14 5) true).wp Try.prog R (⟨#[x0, x1, x2, x3, x4, x5, x6, .pointer (some ⟨xb, 0, none⟩), x8, x9, x10, x11, x12, x13, .pointer (some ⟨rb, o, none⟩), x15, x16, x17, x18, x19, x20, x21, x22, x23, x24, x25, x26, x27, x28, x29, x30, x31, x32, x33, x34, x35, x36, x37, x38, x39, x40, x41, x42, x43, x44, x45, x46, x47, x48, x49, x50, x51, x52, x53, x54, x55, x56, x57, x58, x59, x60, x61, x62, x63, x64, x65, x66, x67, x68, x69, x70, x71, x72, x73, x74, x75, x76, x77, x78, x79, x80, x81, x82, x83, x84, x85, x86, x87, x88, x89, x90, x91, x92, x93, x94, x95, x96, x97, x98, x99, x100, x101, x102, x103, x104, x105, x106, x107, x108, x109, x110, x111, x112, x113, x114, x115, x116], []⟩ : Act) w := by
  refine wp_region_quiet (C := Gw w) (by kernel_rfl) (by kernel_rfl) ((Q.refl w).drew) ?_
  refine qchn_all (ops := (RofN Try.f14 5)) [some (.slice a m c), some (.bool false), some (.bool true), some (.bool true), none, none, none, none, none, none, none, none, none, none, none, none, none] _ (⟨#[x0, x1, x2, x3, x4, x5, x6, .pointer (some ⟨xb, 0, none⟩), x8, x9, x10, x11, x12, x13, .pointer (some ⟨rb, o, none⟩), x15, x16, x17, x18, x19, x20, x21, x22, x23, x24, x25, x26, x27, x28, .slice a m c, .bool false, .bool true, .bool true, undef, undef, undef, undef, undef, undef, undef, undef, undef, undef, undef, undef, undef, x46, x47, x48, x49, x50, x51, x52, x53, x54, x55, x56, x57, x58, x59, x60, x61, x62, x63, x64, x65, x66, x67, x68, x69, x70, x71, x72, x73, x74, x75, x76, x77, x78, x79, x80, x81, x82, x83, x84, x85, x86, x87, x88, x89, x90, x91, x92, x93, x94, x95, x96, x97, x98, x99, x100, x101, x102, x103, x104, x105, x106, x107, x108, x109, x110, x111, x112, x113, x114, x115, x116], []⟩ : Act) (by show 17 ≤ _; decide +kernel) (rg5fc rb o xb m c a hb H1) (by kernel_rfl) ?_
  exact pick_last (((RofN Try.f14 5)[17]?).getD default) (by kernel_rfl) (.tmp 32) (.const (.bool true)) (.tmp 45) true (.bool true) 46 (by kernel_rfl) (by kernel_rfl) (by kernel_rfl) rfl rfl h

end Go.Proofs.Ytjhihcmemnhbbaa
