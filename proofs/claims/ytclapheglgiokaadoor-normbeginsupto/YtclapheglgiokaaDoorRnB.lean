/-
  Every rune of a text asked by a function value: a contract that the statements' walks use.
-/
import Derived.Test.YtclapheglgiokaaDoorRnA
import Derived.Lib.TrimU
import Derived.Shelf.Abstract
namespace Go.Proofs.YtclapheglgiokaaDoor
open Go.RowKit
set_option linter.unusedVariables false
set_option maxRecDepth 20000

/-- A function value that answers a test on runes. -/
def Asks (g : Nat) (lb : Array Value) (p : Nat → Bool) (w : World) : Prop :=
  ∀ (W : World) (r : Nat), r ≤ 1114111 → Q w W → Calls Tryd.prog g (#[.int .i32 r] ++ lb) W fun e w' => e = .returned (.bool (p r)) ∧ Q W w'
theorem iter_q {a w : World} (h : Q a w) {k : Nat} (hk : a.heap.size ≤ k) (s : ByteArray) (pos : Nat) : Q a (w.iterAt k s pos) := Lib.below_iterAt h hk s pos
end Go.Proofs.YtclapheglgiokaaDoor
