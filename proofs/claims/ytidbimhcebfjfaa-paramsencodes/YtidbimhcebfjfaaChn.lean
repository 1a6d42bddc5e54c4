/-
  A region that draws its order: operations that only reckon, or read what nobody writes, taken first in a given order; then what is left, one by one.
-/
import Derived.Test.YtidbimhcebfjfaaAwk
namespace Go.Proofs.Ytidbimhcebfjfaa
open Go.RowKit
set_option linter.unusedVariables false
set_option maxRecDepth 20000

abbrev RofN (f : Func) (k : Nat) : Array Oper := ((f.body).bind (opsOf · k)).getD #[]
def putL (ops : Array Oper) : List (Nat × Value) → Act → Act
  | [], a => a
  | x :: l, a => putL ops l (a.put ((ops[x.1]?).bind (·.dst)) x.2)
def setL : List (Nat × Value) → Array Bool → Array Bool
  | [], L => L
  | x :: l, L => setL l (L.setIfInBounds x.1 true)
def Chn (P : Program) (ops : Array Oper) (S : World → Prop) : List (Nat × Value) → Array Bool → Act → Prop
  | [], _, _ => True
  | x :: l, L, a => (Region.free .any ops L x.1 = true ∧ (Region.ready .any ops L).contains x.1 = true ∧ (ops[x.1]?).isSome = true ∧ Region.wanted ((ops[x.1]?).getD default) (yielded ops a.tmps) = true ∧
      ∀ w, S w → (execOp a.eval ((ops[x.1]?).getD default)).run P w = .ok (.value x.2) w) ∧ Chn P ops S l (L.setIfInBounds x.1 true) (a.put ((ops[x.1]?).bind (·.dst)) x.2)
theorem chn_take {P : Program} {ops : Array Oper} {Q : Exit → Act → World → Prop} {S : World → Prop} {w : World} (hs : Region.noSelect ops = true) (hQ : ∀ c a d v w, Q (.panic c) (a.put d v) w → Q (.panic c) a w) (hS : S w) (fuel : Nat) :
    ∀ (l : List (Nat × Value)) (L : Array Bool) (a : Act), Chn P ops S l L a → wpAnyH P .any ops Q S fuel (setL l L) (putL ops l a) w → wpAnyH P .any ops Q S (fuel + l.length) L a w
  | [], _, _, _, h => h
  | x :: l, L, a, ⟨⟨y1, y2, y3, y4, y5⟩, hc⟩, h => by
    obtain ⟨o, ho⟩ := Option.isSome_iff_exists.1 y3
    have ih := chn_take hs hQ hS fuel l _ _ hc h
    rw [ho] at y4 y5 ih
    exact wpAnyH_take (v := x.2) ho hs y1 y2 (fun c a w => hQ c a _ _ w) (.inl ⟨y4, y5⟩) hS ih
/-- What runs to no value. -/
theorem wpOp_skip {ops : Array Oper} {i : Nat} {a : Act} {w w' : World} {K : Act → World → Prop} {R : Exit → Act → World → Prop} (d : Option Tmp) (hi : (ops[i]?).isSome = true) (hd : (ops[i]?).bind (·.dst) = d) (hw : Region.wanted ((ops[i]?).getD default) (yielded ops a.tmps) = true)
    (hr : (execOp a.eval ((ops[i]?).getD default)).run Try.prog w = .ok .skip w') (h : K (a.put d undef) w') : wpOp Try.prog ops R i K a w := by
  obtain ⟨o, ho⟩ := Option.isSome_iff_exists.1 hi
  rw [ho] at hd hw hr
  unfold wpOp
  simp only [ho]
  have hw' : Region.wanted o (yielded ops a.tmps) = true := hw
  rw [if_pos hw']
  refine .inl ?_
  unfold Oper.wp
  have hr' : (execOp a.eval o).run Try.prog w = .ok .skip w' := hr
  rw [hr']
  have hd' : o.dst = d := hd
  rw [← hd'] at h
  exact h
theorem st_bool {o : Oper} {a : Act} {w : World} (x y : Operand) (b j : Nat) (v u : Bool) (ho : o.op = .store 4 x y) (hx : a.eval x = .pointer (some ⟨b, j, none⟩)) (hy : a.eval y = .bool v) (hc : w.cell? ⟨b, j, none⟩ = some (.bool u)) (hf : w.frozen? ⟨b, j, none⟩ = false) :
    (execOp a.eval o).run Try.prog w = .ok .skip (w.setCell ⟨b, j, none⟩ (.bool v)) := by
  have hst : (storeVar 4 ⟨b, j, none⟩ (.bool v)).run Try.prog w = .ok () (w.setCell ⟨b, j, none⟩ (.bool v)) := by simp [storeVar, go_sem, hc, hf]
  unfold execOp
  simp only [ho, hx, hy, Instr.storeAt, Instr.sureAddr, Sem.run_bind, Sem.run_pure, Result.andThen_ok, hst]
theorem st_int {o : Oper} {a : Act} {w : World} (x y : Operand) (b j : Nat) (v u : Int) (ho : o.op = .store 3 x y) (hx : a.eval x = .pointer (some ⟨b, j, none⟩)) (hy : a.eval y = .int .i64 v) (hc : w.cell? ⟨b, j, none⟩ = some (.int .i64 u)) (hf : w.frozen? ⟨b, j, none⟩ = false) :
    (execOp a.eval o).run Try.prog w = .ok .skip (w.setCell ⟨b, j, none⟩ (.int .i64 v)) := by
  have hst : (storeVar 3 ⟨b, j, none⟩ (.int .i64 v)).run Try.prog w = .ok () (w.setCell ⟨b, j, none⟩ (.int .i64 v)) := by simp [storeVar, go_sem, hc, hf]
  unfold execOp
  simp only [ho, hx, hy, Instr.storeAt, Instr.sureAddr, Sem.run_bind, Sem.run_pure, Result.andThen_ok, hst]
theorem st_sl {o : Oper} {a : Act} {w : World} (x y : Operand) (b j : Nat) (v u : Sv) (ho : o.op = .store 22 x y) (hx : a.eval x = .pointer (some ⟨b, j, none⟩)) (hy : a.eval y = sv v) (hc : w.cell? ⟨b, j, none⟩ = some (sv u)) (hf : w.frozen? ⟨b, j, none⟩ = false) :
    (execOp a.eval o).run Try.prog w = .ok .skip (w.setCell ⟨b, j, none⟩ (sv v)) := by
  have hst : (storeVar 22 ⟨b, j, none⟩ (sv v)).run Try.prog w = .ok () (w.setCell ⟨b, j, none⟩ (sv v)) := by simp [storeVar, go_sem, hc, hf]
  unfold execOp
  simp only [ho, hx, hy, Instr.storeAt, Instr.sureAddr, Sem.run_bind, Sem.run_pure, Result.andThen_ok, hst]
theorem ld_bool {o : Oper} {a : Act} {w : World} (x : Operand) (b j : Nat) (v : Bool) (ho : o.op = .load 4 x) (hx : a.eval x = .pointer (some ⟨b, j, none⟩)) (hc : w.cell? ⟨b, j, none⟩ = some (.bool v)) :
    (execOp a.eval o).run Try.prog w = .ok (.value (.bool v)) w := by
  have hst : (loadVar 4 ⟨b, j, none⟩).run Try.prog w = .ok (.bool v) w := by simp [loadVar, go_sem, hc]
  unfold execOp
  simp only [ho, hx, Instr.loadAt, Instr.sureAddr, Sem.run_bind, Sem.run_pure, Result.andThen_ok, hst]
theorem ld_sl {o : Oper} {a : Act} {w : World} (x : Operand) (b j : Nat) (v : Sv) (ho : o.op = .load 22 x) (hx : a.eval x = .pointer (some ⟨b, j, none⟩)) (hc : w.cell? ⟨b, j, none⟩ = some (sv v)) :
    (execOp a.eval o).run Try.prog w = .ok (.value (sv v)) w := by
  have hst : (loadVar 22 ⟨b, j, none⟩).run Try.prog w = .ok (sv v) w := by simp [loadVar, go_sem, hc]
  unfold execOp
  simp only [ho, hx, Instr.loadAt, Instr.sureAddr, Sem.run_bind, Sem.run_pure, Result.andThen_ok, hst]
end Go.Proofs.Ytidbimhcebfjfaa
