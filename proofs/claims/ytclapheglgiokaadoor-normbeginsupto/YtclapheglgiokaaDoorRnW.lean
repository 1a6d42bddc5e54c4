/-
  requestOf where the reading ends early: contracts that the statements' walks use.
-/
import Derived.Test.YtclapheglgiokaaDoorRnV
namespace Go.Proofs.YtclapheglgiokaaDoor
open Go.RowKit
set_option linter.unusedVariables false
set_option maxRecDepth 20000

end Go.Proofs.YtclapheglgiokaaDoor
