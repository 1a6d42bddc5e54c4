/-
  strings.IndexRune and ContainsRune at a text of ASCII bytes: contracts that the statements' walks use.
-/
import Derived.Test.YtclapheglgiokaaDoorRnC
namespace Go.Proofs.YtclapheglgiokaaDoor
open Go.RowKit
set_option linter.unusedVariables false
set_option maxRecDepth 20000

theorem cr_low (m : ByteArray) (r : Nat) (w : World) (h : r < 128) : Calls Tryd.prog 117 #[.string m, .int .i32 r] w fun e w' => e = .returned (.bool (hasR m r)) ∧ w' = w := by
  have HB := hid (hasR_low m h)
  have HI := hid (fun W => ixb_any m (r : Int) W)
  generalize Lib.indexByte m.data.toList ((r : Int).toNat.toUInt8) = v at *
  have a0 : (0 : Int) ≤ (r : Int) := by omega
  have a1 : (r : Int) < 128 := by omega
  have a2 : IntKind.u8.wrap (r : Int) = r := by rw [IntKind.wrap_u8]; omega
  have HX : Hid (∀ W, Calls Tryd.prog 121 #[.string m, .int .i32 r] W fun e w' => e = .returned (.int .i64 v) ∧ w' = W) := by
    refine hid (fun W => ?_)
    clear HB
    go_enter Tryd.func121, Tryd.ntmps121
    go_wp2_with (go_at_call 127; refine (HI.out _).mono ?_; rintro e w1 ⟨rfl, rfl⟩)
    go_ret
    exact ⟨rfl, rfl⟩
  go_enter Tryd.func117, Tryd.ntmps117
  go_wp2_with (go_at_call 121; refine (HX.out _).mono ?_; rintro e w1 ⟨rfl, rfl⟩)
  go_ret
  exact ⟨by rw [← HB.out]; rfl, rfl⟩
set_option maxHeartbeats 4000000 in
theorem ir_err (m : ByteArray) (w : World) (h : Asc m) : Calls Tryd.prog 121 #[.string m, .int .i32 65533] w fun e w' => e = .returned (.int .i64 (-1)) ∧ Q w w' := by
  have HM := hid h
  clear h
  go_enter Tryd.func121, Tryd.ntmps121
  go_wp2
  go_loopw [5, 6] (fun a b wr => ∃ pos : Nat, pos ≤ m.size ∧ Q w wr ∧ wr.heap[w.heap.size]? = some (.stringIter m pos)) (fun _ _ wr => m.size - wr.iterPos w.heap.size)
  case atStart => exact ⟨0, by omega, (Q.refl w).alloc _, World.iter_heap w m 0⟩
  case round =>
    obtain ⟨pos, hp, hq, hit⟩ := hrel
    by_cases hlt : pos < m.size
    · have hx := HM.out.low pos hlt
      have hnx : ∀ ty, (Instr.next (.pointer (some ⟨w.heap.size, 0, none⟩)) true ty).run Tryd.prog wr = _ := fun ty => Lib.run_next_ascii_at wr w.heap.size m pos ty hit hlt hx
      have HI := hid (Lib.iterAt_heap wr w.heap.size m pos (pos + 1) hit)
      have HP := hid (show wr.iterPos w.heap.size = pos by simp [World.iterPos, hit])
      have HQ := hid (iter_q hq (Nat.le_refl _) m (pos + 1))
      generalize (m[pos]'hlt).toNat = c at *
      clear hq hit
      generalize hW : World.iterAt wr w.heap.size m (pos + 1) = W at *
      clear hW
      have hc : ((c : Int) == 65533) = false := by simp; omega
      go_wp2
      go_roundw
      case rel => exact ⟨pos + 1, by omega, HQ.out, HI.out⟩
      case measure =>
        have : W.iterPos w.heap.size = pos + 1 := by simp [World.iterPos, HI.out]
        have := HP.out
        omega
    · have hnx : ∀ ty, (Instr.next (.pointer (some ⟨w.heap.size, 0, none⟩)) true ty).run Tryd.prog wr = _ := fun ty => Lib.run_next_end_at wr w.heap.size m pos ty hit hlt
      have HQ := hid hq
      clear hq hit
      go_wp2
      go_ret
      exact ⟨rfl, HQ.out⟩
end Go.Proofs.YtclapheglgiokaaDoor
