/-
  checkFields: a contract that the statements' walks use.
-/
import Derived.Test.YtclapheglgiokaaDoorRnQ
import Derived.Deep.RegionHeld2
import Derived.Deep.RegionHeld3
namespace Go.Proofs.YtclapheglgiokaaDoor
open Go.RowKit
set_option linter.unusedVariables false
set_option maxRecDepth 100000

theorem or_no (B : Ending → World → Prop) (e : Ending) (w : World) (h : B e w) : (e = .returned (.tuple #[]) ∧ Hid False) ∨ B e w := .inr h
end Go.Proofs.YtclapheglgiokaaDoor
