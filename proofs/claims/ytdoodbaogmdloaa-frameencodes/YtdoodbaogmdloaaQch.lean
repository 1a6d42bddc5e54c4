/-
  A region that draws its order, gone through in the text's order: in every world that has grown from the first one each operation yields one value. Groundwork.
-/
import Derived.Test.YtdoodbaogmdloaaREn
import Derived.Test.YtdoodbaogmdloaaSame
import Derived.Test.YtdoodbaogmdloaaAwake
import Derived.Test.YtdoodbaogmdloaaOpenF
import Derived.Deep.Quiet
namespace Go.Proofs.Ytdoodbaogmdloaa
open Go.RowKit
set_option linter.unusedVariables false
set_option maxRecDepth 20000

def opsOf : Code → Nat → Option (Array Oper)
  | .region id ops _, k => if id == k then some ops else none
  | .seq a b, k => (opsOf a k).orElse fun _ => opsOf b k
  | .cond _ a b, k => (opsOf a k).orElse fun _ => opsOf b k
  | .block _ b, k => opsOf b k
  | .loop b, k => opsOf b k
  | .scope b, k => opsOf b k
  | _, _ => none
abbrev RofN (f : Func) (k : Nat) : Array Oper := ((f.body).bind (opsOf · k)).getD #[]
section
variable {P : Program} {ops : Array Oper} {C : World → Prop}
/-- The values of the operations, one behind the other; none: not wanted. -/
def QChn (P : Program) (ops : Array Oper) (C : World → Prop) : Nat → List (Option Value) → Act → Prop
  | i, some v :: vs, a => (Region.wanted ((ops[i]?).getD default) (yielded ops a.tmps) = true ∧ ∀ u, C u → ((ops[i]?).getD default).quietAt P a C u v) ∧ QChn P ops C (i + 1) vs (a.put ((ops[i]?).bind (·.dst)) v)
  | i, none :: vs, a => Region.wanted ((ops[i]?).getD default) (yielded ops a.tmps) = false ∧ QChn P ops C (i + 1) vs (a.put ((ops[i]?).bind (·.dst)) undef)
  | _, [], _ => True
def putQ (ops : Array Oper) : Nat → List (Option Value) → Act → Act
  | i, v :: vs, a => putQ ops (i + 1) vs (a.put ((ops[i]?).bind (·.dst)) (v.getD undef))
  | _, [], a => a
theorem qchn_go {Q : Act → Prop} : ∀ (vs : List (Option Value)) (i : Nat) (a : Act), i + vs.length ≤ ops.size → QChn P ops C i vs a → wpQuiet P ops C Q (ops.toList.drop (i + vs.length)) (putQ ops i vs a) → wpQuiet P ops C Q (ops.toList.drop i) a
  | [], i, a, hl, _, hq => hq
  | v :: vs, i, a, hl, h, hq => by
    have hi : i < ops.toList.length := by simp at hl; simp; omega
    have hi' : i < ops.size := by simpa using hi
    rw [List.drop_eq_getElem_cons hi]
    have eo : ops[i]? = some ops.toList[i] := by simp [hi']
    have e2 : i + (v :: vs).length = i + 1 + vs.length := by simp; omega
    rw [e2] at hq
    cases v with
    | some v =>
      obtain ⟨⟨h1, h2⟩, h3⟩ := h
      rw [eo] at h1 h2 h3
      have ih := qchn_go (Q := Q) vs (i + 1) _ (by simp at hl; omega) h3 (by have := hq; simp only [putQ, eo] at this; exact this)
      show (if _ then _ else _)
      have h1' : Region.wanted ops.toList[i] (yielded ops a.tmps) = true := h1
      rw [if_pos h1']
      exact ⟨v, h2, ih⟩
    | none =>
      obtain ⟨h1, h3⟩ := h
      rw [eo] at h1 h3
      have ih := qchn_go (Q := Q) vs (i + 1) _ (by simp at hl; omega) h3 (by have := hq; simp only [putQ, eo] at this; exact this)
      show (if _ then _ else _)
      have h1' : Region.wanted ops.toList[i] (yielded ops a.tmps) = false := h1
      rw [if_neg (by rw [h1']; simp)]
      exact ih
end
theorem qchn_all {P : Program} {ops : Array Oper} {C : World → Prop} {Q : Act → Prop} (vs : List (Option Value)) (a b : Act) (hl : vs.length ≤ ops.size) (h : QChn P ops C 0 vs a) (e : putQ ops 0 vs a = b) (hq : wpQuiet P ops C Q (ops.toList.drop vs.length) b) : wpQuiet P ops C Q ops.toList a := by
  have := qchn_go (Q := Q) vs 0 a (by omega) h (by rw [e, Nat.zero_add]; exact hq)
  rwa [List.drop_zero] at this
theorem qv {C : World → Prop} {o : Oper} {a : Act} {u : World} {v : Value} (h : (execOp a.eval o).run Try.prog u = .ok (.value v) u) : o.quietAt Try.prog a C u v := by
  unfold Oper.quietAt; rw [h]; exact ⟨rfl, rfl⟩
theorem qc {C : World → Prop} {o : Oper} {a : Act} {u : World} {v : Value} (f : FuncId) (args : Array Value) (h : (execOp a.eval o).run Try.prog u = .ok (.enter f args) u) (hc : Calls Try.prog f args u fun e u' => e = .returned v ∧ C u') : o.quietAt Try.prog a C u v := by
  unfold Oper.quietAt; rw [h]; exact ⟨rfl, hc⟩
theorem pk_t {o : Oper} {a : Act} {w : World} (x y z : Operand) (v : Value) (ho : o.op = .pick x y z) (hx : a.eval x = .bool true) (hy : a.eval y = v) : (execOp a.eval o).run Try.prog w = .ok (.value v) w := by
  unfold execOp
  simp only [ho, hx, hy]
  simp [go_sem]
theorem pk_f {o : Oper} {a : Act} {w : World} (x y z : Operand) (v : Value) (ho : o.op = .pick x y z) (hx : a.eval x = .bool false) (hz : a.eval z = v) : (execOp a.eval o).run Try.prog w = .ok (.value v) w := by
  unfold execOp
  simp only [ho, hx, hz]
  simp [go_sem]

theorem fcells_info26 (f : Fr) (d c s : Sv) : (Try.prog.info? 26).map (·.size) = some (fcells f d c s).size := by
  have : (Try.prog.info? 26).map (·.size) = some 13 := by kernel_rfl
  rw [this]; rfl
/-- A frame's box is loaded whole. -/
theorem ld_fr {o : Oper} {a : Act} {w : World} (x : Operand) (g : Nat) (f : Fr) (d c s : Sv) (ho : o.op = .load 26 x) (hx : a.eval x = .pointer (some ⟨g, 0, none⟩)) (hg : Box w 26 g f d c s) :
    (execOp a.eval o).run Try.prog w = .ok (.value (fv f d c s)) w := by
  have hst := run_loadVar_row (P := Try.prog) w g 26 26 (fcells f d c s) (0, 0) _ hg Try.underlying26 rfl (fcells_info26 f d c s)
  unfold execOp
  simp only [ho, hx, Instr.loadAt, Instr.sureAddr, Sem.run_bind, Sem.run_pure, Result.andThen_ok, hst]
theorem qend {ops : Array Oper} {C : World → Prop} {Q : Act → Prop} {a : Act} {n : Nat} (hl : ops.toList.drop n = []) (hq : Q a) : wpQuiet Try.prog ops C Q (ops.toList.drop n) a := by rw [hl]; exact hq
end Go.Proofs.Ytdoodbaogmdloaa
