/-
  The document's Trailers, Copy: contracts that the statements' walks use.
-/
import Derived.Test.YthefijjdffafkaaDoorDoB
import Derived.Test.YthefijjdffafkaaDoorRnX
namespace Go.Proofs.YthefijjdffafkaaDoor
open Go.RowKit
set_option linter.unusedVariables false
set_option maxRecDepth 20000

end Go.Proofs.YthefijjdffafkaaDoor
