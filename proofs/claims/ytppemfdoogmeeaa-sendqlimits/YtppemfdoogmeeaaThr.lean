/-
  One call of a script in a block of its own: for the walks of the laws SendqPlays and SendqLimits.
-/
import Derived.Test.YtppemfdoogmeeaaOpen
namespace Go.Proofs.Ytppemfdoogmeeaa
open Go.RowKit
set_option linter.unusedVariables false

/-- One call of a script, in a block of its own. -/
def Thr (w : World) (b : Nat) (z : Cl) : Prop := w.heap[b]? = some (.cells #[.int .i64 z.kd, .int .i64 z.p, .int .i64 z.q, .slice z.da z.dn z.dc, .bool z.f] 38 (0, 0))
theorem Thr.c0 {w : World} {b : Nat} {z : Cl} (h : Thr w b z) : w.cell? ⟨b, 0, none⟩ = some (.int .i64 z.kd) := by rw [cell_of_row w b 0 _ 38 (0, 0) h]; rfl
theorem Thr.c1 {w : World} {b : Nat} {z : Cl} (h : Thr w b z) : w.cell? ⟨b, 1, none⟩ = some (.int .i64 z.p) := by rw [cell_of_row w b 1 _ 38 (0, 0) h]; rfl
theorem Thr.c2 {w : World} {b : Nat} {z : Cl} (h : Thr w b z) : w.cell? ⟨b, 2, none⟩ = some (.int .i64 z.q) := by rw [cell_of_row w b 2 _ 38 (0, 0) h]; rfl
theorem Thr.c3 {w : World} {b : Nat} {z : Cl} (h : Thr w b z) : w.cell? ⟨b, 3, none⟩ = some (.slice z.da z.dn z.dc) := by rw [cell_of_row w b 3 _ 38 (0, 0) h]; rfl
theorem Thr.c4 {w : World} {b : Nat} {z : Cl} (h : Thr w b z) : w.cell? ⟨b, 4, none⟩ = some (.bool z.f) := by rw [cell_of_row w b 4 _ 38 (0, 0) h]; rfl
theorem Thr.keep {F : Nat → Prop} {w w' : World} {b : Nat} {z : Cl} (h : Thr w b z) (k : Keep F w w') (hF : ¬ F b) : Thr w' b z := (k.block b (lt_of_block h) hF).trans h
end Go.Proofs.Ytppemfdoogmeeaa
