/-
  What bits.RotateLeft64 and the document's own rot do: contracts that the statements' walks use.
-/
import Derived.Test.YtekpepnonhbkcaaCat
import Derived.Laws.Bits64
import Derived.Laws.Bits64b
namespace Go.Proofs.Ytekpepnonhbkcaa
open Go.RowKit
set_option linter.unusedVariables false
set_option maxRecDepth 20000

/-- A word turned to the left by 23 bits, by 41 bits. -/
def rotA (x : Int) : Int := bits .or .u64 (IntKind.u64.wrap (x * 8388608)) (x / 2199023255552)
def rotB (x : Int) : Int := bits .or .u64 (IntKind.u64.wrap (x * 2199023255552)) (x / 8388608)
theorem and23 : bits .and .u64 23 63 = 23 := by decide
theorem and41 : bits .and .u64 41 63 = 41 := by decide

set_option maxHeartbeats 1000000 in
theorem rotl_23 (x : Int) (w : World) : Calls Try.prog 89 #[.int .u64 x, .int .i64 23] w fun e w' => e = .returned (.int .u64 (rotA x)) ∧ w' = w := by
  have h := and23
  go_enter Try.func89, Try.ntmps89
  go_wp2
  go_ret
  exact ⟨rfl, rfl⟩
set_option maxHeartbeats 1000000 in
theorem rotl_41 (x : Int) (w : World) : Calls Try.prog 89 #[.int .u64 x, .int .i64 41] w fun e w' => e = .returned (.int .u64 (rotB x)) ∧ w' = w := by
  have h := and41
  go_enter Try.func89, Try.ntmps89
  go_wp2
  go_ret
  exact ⟨rfl, rfl⟩
end Go.Proofs.Ytekpepnonhbkcaa
