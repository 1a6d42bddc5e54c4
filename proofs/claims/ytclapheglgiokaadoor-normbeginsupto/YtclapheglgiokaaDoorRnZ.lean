/-
  Check: a contract that the statements' walks use.
-/
import Derived.Test.YtclapheglgiokaaDoorRnY
namespace Go.Proofs.YtclapheglgiokaaDoor
open Go.RowKit
set_option linter.unusedVariables false
set_option maxRecDepth 20000

abbrev rq0C : Array Value := rqC ⟨#[]⟩ ⟨#[]⟩ ⟨#[]⟩ ⟨#[]⟩ ⟨none, 0, 0⟩ 0
theorem Blk.keep {F : Nat → Prop} {w w' : World} {g t : Nat} {cs : Array Value} (h : Blk w g t cs) (k : Keep F w w') (hg : ¬ F g) : Blk w' g t cs := (k.block g (lt_of_block h) hg).trans h
theorem info27 (m s a p : ByteArray) (x : Sv) (n : Int) : (Tryd.prog.info? 24).map (·.size) = some (rqC m s a p x n).size := by kernel_rfl
abbrev cap14 (bf bl br : Nat) : Value := .func (.func 14) #[] #[.pointer (some ⟨bf, 0, none⟩), .pointer (some ⟨bl, 0, none⟩), .pointer (some ⟨br, 0, none⟩)]
/-- What Check tells. -/
def chV (l : List Fd) (c s : Int) (y : Sv) : Value := .tuple #[rqV (chR l c s) y, .int .i64 (chE l c s)]
end Go.Proofs.YtclapheglgiokaaDoor
