/-
  What a side waits for: waitsOf.
-/
import Derived.Test.YtekpepnonhbkcaaShW
namespace Go.Proofs.Ytekpepnonhbkcaa
open Go.RowKit
set_option linter.unusedVariables false
set_option maxRecDepth 20000

/-- What a side waits for, as a row of kinds, levels and the functions that take them. -/
def waitsL : Bool → List (Int × Int × Nat)
  | true => [(1, 0, 30), (20, 1, 31)]
  | false => [(2, 0, 32), (8, 1, 33), (20, 1, 34)]
def waitsC (l : List (Int × Int × Nat)) : List Value := l.flatMap fun x => [.int .u8 x.1, .int .i64 x.2.1, .func (.func x.2.2) #[] #[]]
set_option maxHeartbeats 4000000 in
theorem waitsOf_any (s : Bool) (w : World) :
    Calls Try.prog 24 #[.bool s] w fun e w' => e = .returned (.slice (some ⟨w.heap.size, 0, none⟩) (waitsL s).length (waitsL s).length) ∧ w' = w.alloc (.cells (waitsC (waitsL s)).toArray 72 (0, 0)) := by
  cases s with
  | true =>
    go_enter Try.func24, Try.ntmps24
    go_wp2
    go_ret
    exact ⟨rfl, rfl⟩
  | false =>
    go_enter Try.func24, Try.ntmps24
    go_wp2
    go_ret
    exact ⟨rfl, rfl⟩
end Go.Proofs.Ytekpepnonhbkcaa
