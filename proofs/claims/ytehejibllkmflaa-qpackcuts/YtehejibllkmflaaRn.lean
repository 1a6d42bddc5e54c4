/-
  NewDecoder: a contract that the law's walk uses.
-/
import Derived.Test.YtehejibllkmflaaRm
namespace Go.Proofs.Ytehejibllkmflaa
open Go.RowKit
set_option linter.unusedVariables false
set_option maxRecDepth 20000

/-- A decoder at its beginning. -/
abbrev dk0 (a b c : Int) : Dk := ⟨a, b, c, 0, 0, 0, ⟨none, 0, 0⟩, ⟨none, 0, 0⟩, ⟨none, 0, 0⟩, 0⟩
def ndk (a b c : Int) : Prop := (0 ≤ a ∧ a ≤ 1048576) ∧ (0 ≤ b ∧ b ≤ 1024) ∧ (0 ≤ c ∧ c ≤ 1048576)
set_option maxHeartbeats 4000000 in
theorem newD_ok (a b c : Int) (w : World) (h : ndk a b c) : Calls Try.prog 8 #[.int .i64 a, .int .i64 b, .int .i64 c] w fun e w' => e = .returned (.tuple #[.pointer (some ⟨w.heap.size, 0, none⟩), .int .i64 0]) ∧ Q w w' ∧ w'.heap[w.heap.size]? = some (.cells (dC (dk0 a b c)) 55 (0, 0)) := by
  obtain ⟨⟨h1, h2⟩, ⟨h3, h4⟩, h5, h6⟩ := h
  go_enter Try.func8, Try.ntmps8
  go_wp2
  go_ret2
  exact ⟨rfl, (Q.refl w).alloc _, heap_alloc_new w _⟩
set_option maxHeartbeats 4000000 in
theorem newD_bad (a b c : Int) (w : World) (h : ¬ ndk a b c) : Calls Try.prog 8 #[.int .i64 a, .int .i64 b, .int .i64 c] w fun e w' => e = .returned (.tuple #[.pointer none, .int .i64 30]) ∧ Q w w' := by
  have H := hid h
  clear h
  go_enter Try.func8, Try.ntmps8
  go_wp2
  all_goals first
    | (go_ret2; exact ⟨rfl, Q.refl w⟩)
    | (exfalso; apply H.out; unfold ndk; simp at *; omega)
    | skip
end Go.Proofs.Ytehejibllkmflaa
