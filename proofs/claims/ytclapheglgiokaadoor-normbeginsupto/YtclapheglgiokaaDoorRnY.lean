/-
  A reading whose panics are caught: faultOf: contracts that the statements' walks use.
-/
import Derived.Test.YtclapheglgiokaaDoorRnX
import Derived.Recover
namespace Go.Proofs.YtclapheglgiokaaDoor
open Go.RowKit
set_option linter.unusedVariables false
set_option linter.unusedSimpArgs false
set_option maxRecDepth 20000

theorem wp_any_post {P : Program} {c : Code} {Q : Exit → Act → World → Prop} {a : Act} {w : World} (h : ∀ Q' : Exit → Act → World → Prop, Hid (∀ e a w, Q e a w → Q' e a w) → c.wp P Q' a w) : c.wp P Q a w := h Q (hid fun _ _ _ x => x)
theorem neq_nil (w : World) : (binOp BinOp.neq 20 .nilIface .nilIface).run Tryd.prog w = .ok (.bool false) w := by kernel_rfl
theorem slots31 (a x y : Value) : #[a] ++ ((Array.replicate 14 undef).setIfInBounds 3 x).setIfInBounds 0 y = #[a, y, undef, undef, x, undef, undef, undef, undef, undef, undef, undef, undef, undef, undef] := by
  apply Array.toList_inj.1
  simp [List.replicate]
end Go.Proofs.YtclapheglgiokaaDoor
