/-
  What varint's copyOf does: new memory with the same bytes. A contract that the statements' walks use.
-/
import Derived.Test.YtnnjogfpapndaaaCopy
namespace Go.Proofs.Ytnnjogfpapndaaa
open Go.RowKit
set_option maxRecDepth 20000
set_option linter.unusedVariables false

set_option maxHeartbeats 400000 in
theorem copy_any (a : Option Addr) (n c : Nat) (zs : List Int) (w : World) (hl : zs.length = n) (hn : n ≤ 140737488355328) (hseg : Seg w a zs) :
    Calls Try.prog 85 #[.slice a n c] w fun e w' => ∃ g, e = .returned (.slice (some ⟨g, 0, none⟩) n n) ∧ Q w w' ∧ Own w' w.heap.size (some ⟨g, 0, none⟩) n n zs ∧ w.heap.size ≤ g := by
  obtain ⟨i0, hi, hz0, hz1, hz2⟩ := info_parts info5
  have HL := hid hl
  have HSG := hid hseg
  clear hl hseg
  go_enter Try.func85, Try.ntmps85
  go_wp2_with (at_make; refine wpList_make_full _ rfl _ _ 22 rfl w.heap.size 5 i0 (.int .u8 0) 1 Try.underlying22 hi hz0 hz1 .i64 .i64 _ _ n rfl rfl rfl rfl (by rw [hz2]; omega) (by unfold maxLen; omega) (Nat.le_refl _) ?_; intro w1 hown hgr)
  have hq : Q w w1 := (Q.refl w).grown hgr
  rw [made_zero] at hown
  obtain ⟨w2, hrun, hq2, ho2, _⟩ := copy_run (c := c) HSG.out HL.out (by unfold maxLen; omega) hq (show Own w1 w.heap.size (some ⟨w.heap.size, 0, none⟩) n n (List.replicate n 0) from hown) (Nat.le_refl _) hi hz1
  have H2 := hid hq2
  have O2 := hid ho2
  clear hown hgr hq hq2 ho2
  rw [hrun]
  clear hrun
  go_wp2
  go_ret
  exact ⟨w.heap.size, rfl, H2.out, O2.out, Nat.le_refl _⟩

end Go.Proofs.Ytnnjogfpapndaaa
