/-
  isHop, checkTexts: contracts that the statements' walks use.
-/
import Derived.Test.YtclapheglgiokaaDoorRnK
namespace Go.Proofs.YtclapheglgiokaaDoor
open Go.RowKit
set_option linter.unusedVariables false
set_option maxRecDepth 20000

theorem beq_lit (a : ByteArray) (l : List UInt8) : (a.toList == l) = eqS a ⟨l.toArray⟩ := by
  rw [ByteArray.toList_eq]; rfl
end Go.Proofs.YtclapheglgiokaaDoor
