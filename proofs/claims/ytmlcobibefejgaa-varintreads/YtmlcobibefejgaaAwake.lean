/-
  What the statements' own helper 'awake' does: it answers true at every world. A contract that the statements' walks use.
-/
import Derived.Test.YtmlcobibefejgaaPut
import Derived.Test.YtmlcobibefejgaaRef
import Derived.Test.YtmlcobibefejgaaGet
namespace Go.Proofs.Ytmlcobibefejgaa
open Go.RowKit
set_option linter.unusedVariables false

theorem form_fixed : form 15293 = [123, 189] := by decide
theorem sz_fixed : sz 15293 = 2 := by decide
theorem rd_fixed : rd [64, 37] 0 = (37, 2, 0) := by decide

theorem own_lit (w : World) (zs : List Int) (n : Nat) (hl : zs.length = n) (hm : n ≤ maxLen) :
    Own (w.alloc (.cells (zs.map (Value.int .u8)).toArray 5)) w.heap.size (some ⟨w.heap.size, 0, none⟩) n n zs := by
  have := World.ownsRow_lit (base := w.heap.size) (e := 5) (size := 1) w (zs.map (Value.int .u8)).toArray n (Nat.le_refl _) hm (by simp [hl])
  simpa [Own] using this

set_option maxHeartbeats 400000 in
theorem awake_any (w : World) : Calls Try.prog 11 #[] w fun e w' => e = .returned (.bool true) ∧ Q w w' := by
  go_enter Try.func11, Try.ntmps11
  go_wp2_with fail
  refine (put_ok 15293 _ 2 (by decide) (by decide) (hid sz_fixed)).mono ?_
  rintro e w1 ⟨g, rfl, hq, ho⟩
  rw [form_fixed] at ho
  have hs := ho.seg (by simp)
  obtain ⟨b, off, hb, hc⟩ := hs
  simp only [Option.some.injEq, Addr.mk.injEq] at hb
  obtain ⟨rfl, rfl, _⟩ := hb
  have c0 : w1.cell? ⟨g, 0, none⟩ = some (.int .u8 123) := hc 0 (by simp)
  have hg : g < w1.heap.size := lt_of_cell c0
  have HQ := hid hq
  clear hc ho hq
  have HS := hid (own_lit w1 [64, 37] 2 rfl (by decide)).seg
  have R := hid rd_fixed
  go_wp2_with fail
  refine (get_any (some ⟨w1.heap.size, 0, none⟩) 2 2 [64, 37] 0 _ rfl (by decide) (by decide) HS.out).mono ?_
  rw [R.out]
  rintro e w2 ⟨rfl, rfl⟩
  go_wp2
  go_ret
  exact ⟨rfl, HQ.out.alloc _⟩

end Go.Proofs.Ytmlcobibefejgaa
