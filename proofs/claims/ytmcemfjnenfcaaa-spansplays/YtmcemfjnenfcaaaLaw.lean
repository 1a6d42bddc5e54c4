/-
  Small words that the walks of layer 2's laws share: a call of a set that the law made turns nothing that was there before. Nothing is proved of a statement here.
-/
import Derived.Test.YtmcemfjnenfcaaaAwake
namespace Go.Proofs.Ytmcemfjnenfcaaa
open Go.RowKit
set_option linter.unusedVariables false

theorem Q.st {w wr w' : World} {rb : Nat} {a : Option Addr} (h : Q w wr) (k : Keep (Fp rb a) wr w') (h1 : w.heap.size ≤ rb) (h2 : ∀ b, blk a = some b → w.heap.size ≤ b) : Q w w' := by
  have k1 : Keep (fun b => w.heap.size ≤ b) w w' := by
    refine (Keep.ofQ h).trans (k.mono ?_)
    intro i _ e
    rcases e with e | e
    · rw [e]; exact h1
    · exact h2 i e
  exact k1.toQ (fun i hi e => by omega)

/-- Where a set's row lies behind a call: not below what was there. -/
theorem row_new {W w : World} {a a' : Option Addr} (h : ∀ b, blk a = some b → W.heap.size ≤ b) (hq : W.heap.size ≤ w.heap.size) (hf : blk a' = blk a ∨ ∀ b, blk a' = some b → w.heap.size ≤ b) : ∀ b, blk a' = some b → W.heap.size ≤ b := by
  intro b hb
  rcases hf with e | e
  · exact h b (by rw [← e]; exact hb)
  · have := e b hb; omega

end Go.Proofs.Ytmcemfjnenfcaaa
