/-
  What the document's own Same does: are the bytes equal? A contract that the statements' walks use.
-/
import Derived.Test.YtnoapfhbckebiabMem
import Derived.Laws.Tables
import Derived.BigQuiet
import Derived.Deep.QuietTactic
namespace Go.Proofs.Ytnoapfhbckebiab
open Go.RowKit
set_option linter.unusedVariables false
set_option maxRecDepth 20000

end Go.Proofs.Ytnoapfhbckebiab
