/-
  A region that draws its order, gone through by hand: operations that only reckon or read what nobody writes are taken first, in a given order; then the others, one by one.
-/
import Derived.Test.YtdlefmlienfjhaaHfG
import Derived.OrdersHeld
namespace Go.Proofs.Ytdlefmlienfjhaa
open Go.RowKit
set_option linter.unusedVariables false
set_option maxRecDepth 20000

def opsOf : Code → Nat → Option (Array Oper)
  | .region id ops _, k => if id == k then some ops else none
  | .seq a b, k => (opsOf a k).orElse fun _ => opsOf b k
  | .cond _ a b, k => (opsOf a k).orElse fun _ => opsOf b k
  | .block _ b, k => opsOf b k
  | .loop b, k => opsOf b k
  | .scope b, k => opsOf b k
  | _, _ => none
abbrev RofN (f : Func) (k : Nat) : Array Oper := ((f.body).bind (opsOf · k)).getD #[]
def putL (ops : Array Oper) : List (Nat × Value) → Act → Act
  | [], a => a
  | x :: l, a => putL ops l (a.put ((ops[x.1]?).bind (·.dst)) x.2)
def setL : List (Nat × Value) → Array Bool → Array Bool
  | [], L => L
  | x :: l, L => setL l (L.setIfInBounds x.1 true)
def Chn (P : Program) (ops : Array Oper) (S : World → Prop) : List (Nat × Value) → Array Bool → Act → Prop
  | [], _, _ => True
  | x :: l, L, a => (Region.free .any ops L x.1 = true ∧ (Region.ready .any ops L).contains x.1 = true ∧ (ops[x.1]?).isSome = true ∧ Region.wanted ((ops[x.1]?).getD default) (yielded ops a.tmps) = true ∧
      ∀ w, S w → (execOp a.eval ((ops[x.1]?).getD default)).run P w = .ok (.value x.2) w) ∧ Chn P ops S l (L.setIfInBounds x.1 true) (a.put ((ops[x.1]?).bind (·.dst)) x.2)
theorem chn_take {P : Program} {ops : Array Oper} {Q : Exit → Act → World → Prop} {S : World → Prop} {w : World} (hs : Region.noSelect ops = true) (hQ : ∀ c a d v w, Q (.panic c) (a.put d v) w → Q (.panic c) a w) (hS : S w) (fuel : Nat) :
    ∀ (l : List (Nat × Value)) (L : Array Bool) (a : Act), Chn P ops S l L a → wpAnyH P .any ops Q S fuel (setL l L) (putL ops l a) w → wpAnyH P .any ops Q S (fuel + l.length) L a w
  | [], _, _, _, h => h
  | x :: l, L, a, ⟨⟨y1, y2, y3, y4, y5⟩, hc⟩, h => by
    obtain ⟨o, ho⟩ := Option.isSome_iff_exists.1 y3
    have ih := chn_take hs hQ hS fuel l _ _ hc h
    rw [ho] at y4 y5 ih
    exact wpAnyH_take (v := x.2) ho hs y1 y2 (fun c a w => hQ c a _ _ w) (.inl ⟨y4, y5⟩) hS ih
theorem wpOp_skip {ops : Array Oper} {i : Nat} {a : Act} {w w' : World} {K : Act → World → Prop} {R : Exit → Act → World → Prop} (d : Option Tmp) (hi : (ops[i]?).isSome = true) (hd : (ops[i]?).bind (·.dst) = d) (hw : Region.wanted ((ops[i]?).getD default) (yielded ops a.tmps) = true)
    (hr : (execOp a.eval ((ops[i]?).getD default)).run Try.prog w = .ok .skip w') (h : K (a.put d undef) w') : wpOp Try.prog ops R i K a w := by
  obtain ⟨o, ho⟩ := Option.isSome_iff_exists.1 hi
  rw [ho] at hd hw hr
  unfold wpOp
  simp only [ho]
  have hw' : Region.wanted o (yielded ops a.tmps) = true := hw
  rw [if_pos hw']
  refine .inl ?_
  unfold Oper.wp
  have hr' : (execOp a.eval o).run Try.prog w = .ok .skip w' := hr
  rw [hr']
  have hd' : o.dst = d := hd
  rw [← hd'] at h
  exact h
theorem wpOp_val {ops : Array Oper} {i : Nat} {a : Act} {w w' : World} {K : Act → World → Prop} {R : Exit → Act → World → Prop} {v : Value} (d : Option Tmp) (hi : (ops[i]?).isSome = true) (hd : (ops[i]?).bind (·.dst) = d) (hw : Region.wanted ((ops[i]?).getD default) (yielded ops a.tmps) = true)
    (hr : (execOp a.eval ((ops[i]?).getD default)).run Try.prog w = .ok (.value v) w') (h : K (a.put d v) w') : wpOp Try.prog ops R i K a w := by
  obtain ⟨o, ho⟩ := Option.isSome_iff_exists.1 hi
  rw [ho] at hd hw hr
  unfold wpOp
  simp only [ho]
  have hw' : Region.wanted o (yielded ops a.tmps) = true := hw
  rw [if_pos hw']
  refine .inl ?_
  unfold Oper.wp
  have hr' : (execOp a.eval o).run Try.prog w = .ok (.value v) w' := hr
  rw [hr']
  have hd' : o.dst = d := hd
  rw [← hd'] at h
  exact h
theorem wpOp_call {ops : Array Oper} {i : Nat} {a : Act} {w : World} {K : Act → World → Prop} {R : Exit → Act → World → Prop} (d : Option Tmp) (hi : (ops[i]?).isSome = true) (hd : (ops[i]?).bind (·.dst) = d) (hw : Region.wanted ((ops[i]?).getD default) (yielded ops a.tmps) = true)
    (f : FuncId) (args : Array Value) (hr : (execOp a.eval ((ops[i]?).getD default)).run Try.prog w = .ok (.enter f args) w) {R0 : Ending → World → Prop} (hc : Calls Try.prog f args w R0) (v : Value) (hR : ∀ e w', R0 e w' → e = .returned v ∧ K (a.put d v) w') : wpOp Try.prog ops R i K a w := by
  obtain ⟨o, ho⟩ := Option.isSome_iff_exists.1 hi
  rw [ho] at hd hw hr
  unfold wpOp
  simp only [ho]
  have hw' : Region.wanted o (yielded ops a.tmps) = true := hw
  rw [if_pos hw']
  refine .inl ?_
  unfold Oper.wp
  have hr' : (execOp a.eval o).run Try.prog w = .ok (.enter f args) w := hr
  rw [hr']
  have hd' : o.dst = d := hd
  refine hc.mono ?_
  intro e w' h
  obtain ⟨rfl, h2⟩ := hR e w' h
  rw [← hd'] at h2
  exact h2
theorem wpAnyH_one {P : Program} {ops : Array Oper} {Q : Exit → Act → World → Prop} {S : World → Prop} {i fuel : Nat} {L : Array Bool} {a : Act} {w : World} (hr : Region.ready .any ops L = [i])
    (h : wpOp P ops Q i (fun a' w' => S w' ∧ wpAnyH P .any ops Q S fuel (L.setIfInBounds i true) a' w') a w) : wpAnyH P .any ops Q S (fuel + 1) L a w :=
  wpAnyH_all hr (by simp) (fun j hj => by
    have e : j = i := by simpa using hj
    rw [e]; exact h)
theorem wpOp_callx {ops : Array Oper} {i : Nat} {a : Act} {w : World} {K : Act → World → Prop} {R : Exit → Act → World → Prop} (d : Option Tmp) (hi : (ops[i]?).isSome = true) (hd : (ops[i]?).bind (·.dst) = d) (hw : Region.wanted ((ops[i]?).getD default) (yielded ops a.tmps) = true)
    (f : FuncId) (args : Array Value) (hr : (execOp a.eval ((ops[i]?).getD default)).run Try.prog w = .ok (.enter f args) w) {R0 : Ending → World → Prop} (hc : Calls Try.prog f args w R0) (hR : ∀ e w', R0 e w' → ∃ v, e = .returned v ∧ K (a.put d v) w') : wpOp Try.prog ops R i K a w := by
  obtain ⟨o, ho⟩ := Option.isSome_iff_exists.1 hi
  rw [ho] at hd hw hr
  unfold wpOp
  simp only [ho]
  have hw' : Region.wanted o (yielded ops a.tmps) = true := hw
  rw [if_pos hw']
  refine .inl ?_
  unfold Oper.wp
  have hr' : (execOp a.eval o).run Try.prog w = .ok (.enter f args) w := hr
  rw [hr']
  have hd' : o.dst = d := hd
  refine hc.mono ?_
  intro e w' h
  obtain ⟨v, rfl, h2⟩ := hR e w' h
  rw [← hd'] at h2
  exact h2
abbrev actO (ini : List Value) (n : Nat) : Act := ⟨(ini ++ List.replicate n undef).toArray, []⟩
theorem rgA {c : Code} {Q : Exit → Act → World → Prop} {w : World} {A B : Act} (e : B = A) (h : c.wp Try.prog Q A w) : c.wp Try.prog Q B w := by rw [e]; exact h
end Go.Proofs.Ytdlefmlienfjhaa
