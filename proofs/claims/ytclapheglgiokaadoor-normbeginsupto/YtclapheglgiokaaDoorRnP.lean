/-
  checkSize: contracts that the statements' walks use.
-/
import Derived.Test.YtclapheglgiokaaDoorRnO
namespace Go.Proofs.YtclapheglgiokaaDoor
open Go.RowKit
set_option linter.unusedVariables false
set_option maxRecDepth 20000

def BdF (l : List Fd) : Prop := ∀ p ∈ l, p.1.size ≤ 140737488355328 ∧ p.2.size ≤ 140737488355328
end Go.Proofs.YtclapheglgiokaaDoor
