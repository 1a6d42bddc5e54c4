/-
  Steps of a region that draws its order: a call that ends the region by a panic, or one that comes back. Nothing is proved of a statement here.
-/
import Derived.Test.YtnnjogfpapndaaaVer
import Derived.OrdersHeld
namespace Go.Proofs.Ytnnjogfpapndaaa
open Go.RowKit
set_option linter.unusedVariables false

theorem wpOp_in {ops : Array Oper} {i : Nat} {o : Oper} {a : Act} {w : World} {K : Act → World → Prop} {R : Exit → Act → World → Prop} (hi : ops[i]? = some o) (hw : Region.wanted o (yielded ops a.tmps) = true) (h : Oper.wp Try.prog o a w K R) : wpOp Try.prog ops R i K a w := by
  unfold wpOp; simp only [hi, hw, if_true]; exact .inl h
theorem oper_enter {o : Oper} {a : Act} {w : World} {K : Act → World → Prop} {R : Exit → Act → World → Prop} {f : FuncId} {args : Array Value} (he : (execOp a.eval o).run Try.prog w = .ok (.enter f args) w) {R0 : Ending → World → Prop} (hc : Calls Try.prog f args w R0)
    (hR : ∀ e w', R0 e w' → (∃ v, e = .returned v ∧ K (a.put o.dst v) w') ∨ (∃ ch, e = .panicked ch ∧ R (.panic ch) a w')) : Oper.wp Try.prog o a w K R := by
  unfold Oper.wp
  rw [he]
  refine hc.mono ?_
  intro e w' h0
  rcases hR e w' h0 with ⟨v, rfl, h⟩ | ⟨ch, rfl, h⟩
  · exact h
  · exact h
theorem wpAnyH_one {md : Region.Mode} {ops : Array Oper} {Q : Exit → Act → World → Prop} {S : World → Prop} {fuel : Nat} {listed : Array Bool} {a : Act} {w : World} (i : Nat) (hr : Region.ready md ops listed = [i])
    (h : wpOp Try.prog ops Q i (fun a' w' => S w' ∧ wpAnyH Try.prog md ops Q S fuel (listed.setIfInBounds i true) a' w') a w) : wpAnyH Try.prog md ops Q S (fuel + 1) listed a w :=
  wpAnyH_all hr (by simp) (fun j hj => by rw [List.mem_singleton.1 hj]; exact h)
end Go.Proofs.Ytnnjogfpapndaaa
