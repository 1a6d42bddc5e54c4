/-
  A region that draws its order, in the text's order: each operation yields one value in every world of a class, or is not wanted.
-/
import Derived.Test.YtdlefmlienfjhaaHnd
import Derived.Deep.Quiet
namespace Go.Proofs.Ytdlefmlienfjhaa
open Go.RowKit
set_option linter.unusedVariables false
set_option maxRecDepth 20000

section
variable {P : Program} {ops : Array Oper} {C : World → Prop}
/-- The values of the operations, one behind the other; none: not wanted. -/
def QChn (P : Program) (ops : Array Oper) (C : World → Prop) : Nat → List (Option Value) → Act → Prop
  | i, some v :: vs, a => (Region.wanted ((ops[i]?).getD default) (yielded ops a.tmps) = true ∧ ∀ u, C u → ((ops[i]?).getD default).quietAt P a C u v) ∧ QChn P ops C (i + 1) vs (a.put ((ops[i]?).bind (·.dst)) v)
  | i, none :: vs, a => Region.wanted ((ops[i]?).getD default) (yielded ops a.tmps) = false ∧ QChn P ops C (i + 1) vs (a.put ((ops[i]?).bind (·.dst)) undef)
  | _, [], _ => True
def putQ (ops : Array Oper) : Nat → List (Option Value) → Act → Act
  | i, v :: vs, a => putQ ops (i + 1) vs (a.put ((ops[i]?).bind (·.dst)) (v.getD undef))
  | _, [], a => a
theorem qchn_go {Q : Act → Prop} : ∀ (vs : List (Option Value)) (i : Nat) (a : Act), i + vs.length ≤ ops.size → QChn P ops C i vs a → wpQuiet P ops C Q (ops.toList.drop (i + vs.length)) (putQ ops i vs a) → wpQuiet P ops C Q (ops.toList.drop i) a
  | [], i, a, hl, _, hq => hq
  | v :: vs, i, a, hl, h, hq => by
    have hi : i < ops.toList.length := by simp at hl; simp; omega
    have hi' : i < ops.size := by simpa using hi
    rw [List.drop_eq_getElem_cons hi]
    have eo : ops[i]? = some ops.toList[i] := by simp [hi']
    have e2 : i + (v :: vs).length = i + 1 + vs.length := by simp; omega
    rw [e2] at hq
    cases v with
    | some v =>
      obtain ⟨⟨h1, h2⟩, h3⟩ := h
      rw [eo] at h1 h2 h3
      have ih := qchn_go (Q := Q) vs (i + 1) _ (by simp at hl; omega) h3 (by have := hq; simp only [putQ, eo] at this; exact this)
      show (if _ then _ else _)
      have h1' : Region.wanted ops.toList[i] (yielded ops a.tmps) = true := h1
      rw [if_pos h1']
      exact ⟨v, h2, ih⟩
    | none =>
      obtain ⟨h1, h3⟩ := h
      rw [eo] at h1 h3
      have ih := qchn_go (Q := Q) vs (i + 1) _ (by simp at hl; omega) h3 (by have := hq; simp only [putQ, eo] at this; exact this)
      show (if _ then _ else _)
      have h1' : Region.wanted ops.toList[i] (yielded ops a.tmps) = false := h1
      rw [if_neg (by rw [h1']; simp)]
      exact ih
end
theorem qchn_all {P : Program} {ops : Array Oper} {C : World → Prop} {Q : Act → Prop} (vs : List (Option Value)) (a b : Act) (hl : vs.length ≤ ops.size) (h : QChn P ops C 0 vs a) (e : putQ ops 0 vs a = b) (hq : wpQuiet P ops C Q (ops.toList.drop vs.length) b) : wpQuiet P ops C Q ops.toList a := by
  have := qchn_go (Q := Q) vs 0 a (by omega) h (by rw [e, Nat.zero_add]; exact hq)
  rwa [List.drop_zero] at this
theorem qv {C : World → Prop} {o : Oper} {a : Act} {u : World} {v : Value} (h : (execOp a.eval o).run Try.prog u = .ok (.value v) u) : o.quietAt Try.prog a C u v := by
  unfold Oper.quietAt; rw [h]; exact ⟨rfl, rfl⟩
theorem qc {C : World → Prop} {o : Oper} {a : Act} {u : World} {v : Value} (f : FuncId) (args : Array Value) (h : (execOp a.eval o).run Try.prog u = .ok (.enter f args) u) (hc : Calls Try.prog f args u fun e u' => e = .returned v ∧ C u') : o.quietAt Try.prog a C u v := by
  unfold Oper.quietAt; rw [h]; exact ⟨rfl, hc⟩
theorem pk_t {o : Oper} {a : Act} {w : World} (x y z : Operand) (v : Value) (ho : o.op = .pick x y z) (hx : a.eval x = .bool true) (hy : a.eval y = v) : (execOp a.eval o).run Try.prog w = .ok (.value v) w := by
  unfold execOp
  simp only [ho, hx, hy]
  simp [go_sem]
theorem pk_f {o : Oper} {a : Act} {w : World} (x y z : Operand) (v : Value) (ho : o.op = .pick x y z) (hx : a.eval x = .bool false) (hz : a.eval z = v) : (execOp a.eval o).run Try.prog w = .ok (.value v) w := by
  unfold execOp
  simp only [ho, hx, hz]
  simp [go_sem]

theorem qend {ops : Array Oper} {C : World → Prop} {Q : Act → Prop} {a : Act} {n : Nat} (hl : ops.toList.drop n = []) (hq : Q a) : wpQuiet Try.prog ops C Q (ops.toList.drop n) a := by rw [hl]; exact hq
theorem qchn_step {P : Program} {ops : Array Oper} {C : World → Prop} {i : Nat} {v : Value} {vs : List (Option Value)} {a b : Act} (h1 : Region.wanted ((ops[i]?).getD default) (yielded ops a.tmps) = true) (h2 : ∀ u, C u → ((ops[i]?).getD default).quietAt P a C u v) (e : a.put ((ops[i]?).bind (·.dst)) v = b) (h3 : QChn P ops C (i + 1) vs b) : QChn P ops C i (some v :: vs) a := by
  subst e; exact ⟨⟨h1, h2⟩, h3⟩
theorem qchn_skip {P : Program} {ops : Array Oper} {C : World → Prop} {i : Nat} {vs : List (Option Value)} {a b : Act} (h1 : Region.wanted ((ops[i]?).getD default) (yielded ops a.tmps) = false) (e : a.put ((ops[i]?).bind (·.dst)) undef = b) (h3 : QChn P ops C (i + 1) vs b) : QChn P ops C i (none :: vs) a := by
  subst e; exact ⟨h1, h3⟩
theorem qs {C : World → Prop} {o : Oper} {a : Act} {u : World} (h : (execOp a.eval o).run Try.prog u = .ok .skip u) : o.quietAt Try.prog a C u undef := by
  unfold Oper.quietAt; rw [h]; exact ⟨rfl, rfl⟩
end Go.Proofs.Ytdlefmlienfjhaa
