/-
  Every rune of a text asked by a function value: a contract that the statements' walks use.
-/
import Derived.Test.YthefijjdffafkaaDoorRnA
import Derived.Lib.TrimU
import Derived.Shelf.Abstract
namespace Go.Proofs.YthefijjdffafkaaDoor
open Go.RowKit
set_option linter.unusedVariables false
set_option maxRecDepth 20000

/-- A function value that answers a test on runes. -/
def Asks (g : Nat) (lb : Array Value) (p : Nat → Bool) (w : World) : Prop :=
  ∀ (W : World) (r : Nat), r ≤ 1114111 → Q w W → Calls Tryd.prog g (#[.int .i32 r] ++ lb) W fun e w' => e = .returned (.bool (p r)) ∧ Q W w'
theorem iter_q {a w : World} (h : Q a w) {k : Nat} (hk : a.heap.size ≤ k) (s : ByteArray) (pos : Nat) : Q a (w.iterAt k s pos) := Lib.below_iterAt h hk s pos
set_option maxHeartbeats 4000000 in
theorem every_any (g : Nat) (lb : Array Value) (p : Nat → Bool) (s : ByteArray) (w : World) (eg : ∀ args w, (callFunc g args).run Tryd.prog w = .ok (.enter g args) w) (hf : Flat p) (h : Asks g lb p w) :
    Calls Tryd.prog 48 #[.string s, .func (.func g) #[] lb] w fun e w' => e = .returned (.bool (allB p s)) ∧ Q w w' := by
  have HF := hid hf
  have HA := hid h
  clear hf h
  go_enter Tryd.func48, Tryd.ntmps48
  go_wp2
  go_loopw [] (fun wr => ∃ pos : Nat, pos ≤ s.size ∧ okTo p s pos ∧ Q w wr ∧ wr.heap[w.heap.size]? = some (.stringIter s pos)) (fun wr => s.size - wr.iterPos w.heap.size)
  case atStart => exact ⟨0, by omega, okTo_zero p s, (Q.refl w).alloc _, World.iter_heap w s 0⟩
  case round =>
    obtain ⟨pos, hp, hok, hq, hit⟩ := hrel
    by_cases hlt : pos < s.size
    · have hnx : ∀ ty, (Instr.next (.pointer (some ⟨w.heap.size, 0, none⟩)) true ty).run Tryd.prog wr = _ := fun ty => Lib.run_next_any_at wr w.heap.size s pos ty hit hlt
      have hwd := rune_end hlt
      have hr := Lib.rune_le s pos
      have HN := hid (fun h => rune_no (p := p) (s := s) (pos := pos) HF.out hlt h)
      have HO := hid (fun h => rune_ok (p := p) (s := s) (pos := pos) HF.out hlt hok h)
      have HI := hid (Lib.iterAt_heap wr w.heap.size s pos (pos + (Utf8.decode s pos).2) hit)
      have HP := hid (show wr.iterPos w.heap.size = pos by simp [World.iterPos, hit])
      have HQ := hid (iter_q hq (Nat.le_refl _) s (pos + (Utf8.decode s pos).2))
      generalize (Utf8.decode s pos).1 = R at *
      generalize (Utf8.decode s pos).2 = K at *
      have HC := hid (HA.out _ R hr HQ.out)
      clear hok hq hit
      generalize hW : World.iterAt wr w.heap.size s (pos + K) = W at *
      clear hW
      cases hpr : p R with
      | true =>
        rw [hpr] at HC
        have hO2 := HO.out hpr
        have HO2 := hid hO2
        clear HO HN hpr hO2
        go_wp2_with (go_at_fn g; refine HC.out.mono ?_; rintro e w1 ⟨rfl, q1⟩)
        have hit2 : w1.heap[w.heap.size]? = some (.stringIter s (pos + K)) := (Below.block q1 _ (lt_of_block HI.out)).trans HI.out
        go_roundw
        case rel => exact ⟨pos + K, by omega, HO2.out, HQ.out.trans q1, hit2⟩
        case measure =>
          have : w1.iterPos w.heap.size = pos + K := by simp [World.iterPos, hit2]
          have := HP.out
          omega
      | false =>
        rw [hpr] at HC
        have HN2 := hid (HN.out hpr)
        clear HO HN hpr
        go_wp2_with (go_at_fn g; refine HC.out.mono ?_; rintro e w1 ⟨rfl, q1⟩)
        go_ret
        exact ⟨by rw [HN2.out]; rfl, HQ.out.trans q1⟩
    · have hnx : ∀ ty, (Instr.next (.pointer (some ⟨w.heap.size, 0, none⟩)) true ty).run Tryd.prog wr = _ := fun ty => Lib.run_next_end_at wr w.heap.size s pos ty hit hlt
      have HE := hid (okTo_end hok (by omega))
      have HQ := hid hq
      clear hok hq hit HA
      go_wp2
      go_ret
      exact ⟨by rw [HE.out]; rfl, HQ.out⟩
end Go.Proofs.YthefijjdffafkaaDoor
