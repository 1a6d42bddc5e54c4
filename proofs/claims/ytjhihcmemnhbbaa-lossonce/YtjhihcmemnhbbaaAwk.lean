/-
  The set's fixed answer is given: a contract that the statements' walks use.
-/
import Derived.Test.YtjhihcmemnhbbaaSnt
import Derived.Test.YtjhihcmemnhbbaaNxt
namespace Go.Proofs.Ytjhihcmemnhbbaa
open Go.RowKit
set_option linter.unusedVariables false
set_option maxRecDepth 20000

theorem Wr.fresh {w w1 w2 : World} {rb : Nat} {r r' : Nat → Sv} {S' : Lo} (q : Q w w1) (hb : ∀ b, Fp rb r b → w.heap.size ≤ b) (h : Wr w1 w2 rb r r' S') : Q w w2 ∧ ∀ b, Fp rb r' b → w.heap.size ≤ b := by
  have k1 : Keep (fun b => w.heap.size ≤ b) w w2 := (Keep.ofQ q).trans (h.kp.mono (fun i _ e => hb i e))
  refine ⟨k1.toQ (fun i hi e => by omega), fun b e => ?_⟩
  rcases h.fr b e with e | e
  · exact hb b e
  · have := q.size; omega
theorem fp_new {w : World} : ∀ b, Fp w.heap.size nilR b → w.heap.size ≤ b := by
  rintro b (rfl | ⟨i, _, e⟩)
  · exact Nat.le_refl _
  · simp [nilR, nilS, blk] at e

set_option maxHeartbeats 1000000 in
theorem awake_any (w : World) : Calls Try.prog 8 #[] w fun e w' => e = .returned (.bool true) ∧ Q w w' := by
  have A := hid (new_ok 25 w (by omega))
  have E0 : sntE (newLo 25) 2 1 1000 0 = 0 := by decide
  have EU : undA (sntS (newLo 25) 2 1 1000 true 0) = 1000 := by decide
  have EW : (sntS (newLo 25) 2 1 1000 true 0).win = 12000 := by decide
  go_enter Try.func8, Try.ntmps8
  go_wp2_with fail
  refine A.out.mono ?_
  rintro e w1 ⟨rfl, hL, q1⟩
  have Q1 := hid q1
  have B := hid (sent_any hL (ok_new 25 (by omega) (by omega)) (by omega) 2 1 1000 true 0)
  rw [E0] at B
  clear hL q1
  go_wp2_with fail
  refine B.out.mono ?_
  rintro e w2 ⟨rfl, r2, W2⟩
  have F2 := hid (Wr.fresh Q1.out fp_new W2)
  have C := hid (under_any W2.la (ok_sent (ok_new 25 (by omega) (by omega)) 2 1 1000 true 0))
  rw [EU] at C
  have HL2 := hid W2.la
  clear W2
  go_wp2_with fail
  refine C.out.mono ?_
  rintro e w3 ⟨rfl, q3⟩
  have D := hid (window_any (HL2.out.q q3))
  rw [EW] at D
  have Q3 := hid (F2.out.1.trans q3)
  clear q3
  go_wp2_with fail
  refine D.out.mono ?_
  rintro e w4 ⟨rfl, rfl⟩
  go_wp2
  go_ret
  exact ⟨rfl, Q3.out⟩
end Go.Proofs.Ytjhihcmemnhbbaa
