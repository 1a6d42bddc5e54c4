/-
  Runes asked one by one: contracts that the statements' walks use.
-/
import Derived.Test.YtclapheglgiokaaDoorMem
import Derived.Test.YtclapheglgiokaaDoorMsM
import Derived.Lib.OthersKept
import Derived.BigQuiet
namespace Go.Proofs.YtclapheglgiokaaDoor
open Go.RowKit
set_option linter.unusedVariables false
set_option maxRecDepth 20000

end Go.Proofs.YtclapheglgiokaaDoor
