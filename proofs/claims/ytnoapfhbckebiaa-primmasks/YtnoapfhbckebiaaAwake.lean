/-
  The law's own awake answers true and turns nothing that was there.
-/
import Derived.Test.YtnoapfhbckebiaaSeal
import Derived.Test.YtnoapfhbckebiaaPow
import Derived.Lib.SlBytesConst
namespace Go.Proofs.Ytnoapfhbckebiaa
open Go.RowKit
set_option linter.unusedVariables false
set_option maxRecDepth 20000

theorem aw_pow : pwr 37 2 = 1369 := by rfl
theorem aw_len (w : World) (x : Sv) (h : Row w x (if chkE 0 0 0 (1 : Nat) = 0 then sealL [] [] [] [120] else [])) : x.n = 17 := by
  have := Row.len h
  rw [if_pos (by decide)] at this
  rw [← this, sealL, List.length_append, ovl_len, tagL_len]; rfl
theorem in_nil (w : World) : In w ⟨none, 0, 0⟩ [] := ⟨seg_nil _ _, rfl, by simp⟩
set_option maxHeartbeats 2000000 in
theorem awake_any (w : World) : Calls Try.prog 11 #[] w fun e w' => e = .returned (.bool true) ∧ Q w w' := by
  have HP := hid (power_any 37 2 · (by omega))
  rw [aw_pow] at HP
  have kc := Lib.run_convert_bytes_const (P := Try.prog) w 22 5 #[.int .u8 120] 1 1 Try.underlying22 Try.underlying5
  go_enter Try.func11, Try.ntmps11
  go_wp2_with fail
  clear kc
  generalize hw1 : World.alloc w _ = w1
  have q1 : Q w w1 := by rw [← hw1]; exact (Q.refl w).alloc _
  have hs1 : Seg w1 (some ⟨w.heap.size, 0, none⟩) [120] := by
    rw [← hw1]
    exact fun _ => ⟨_, _, rfl, fun i hi => by
      have : i = 0 := by simp at hi; omega
      subst this
      rw [cell_of_row _ _ _ _ 5 (1, 2) (heap_alloc_new w _)]; rfl⟩
  clear hw1
  refine (seal_any ⟨none, 0, 0⟩ ⟨none, 0, 0⟩ ⟨none, 0, 0⟩ ⟨some ⟨w.heap.size, 0, none⟩, 1, 1⟩ [] [] [] [120] w1 (in_nil _) (in_nil _) (in_nil _) ⟨hs1, rfl, one_byte 120 (by omega) (by omega)⟩ (by show 1 ≤ _; omega)).mono ?_
  rintro e w2 ⟨⟨xa, xn, xc⟩, rfl, q2, r2, n2⟩
  have hx : xn = 17 := aw_len w2 _ r2
  subst hx
  rw [show chkE (⟨none, 0, 0⟩ : Sv).n (⟨none, 0, 0⟩ : Sv).n (⟨none, 0, 0⟩ : Sv).n ((⟨some ⟨w.heap.size, 0, none⟩, 1, 1⟩ : Sv).n : Nat) = 0 from (by show chkE 0 0 0 ((1 : Nat) : Int) = 0; decide)]
  have Q2 := hid (q1.trans q2)
  clear q1 q2 hs1 r2 n2
  dsimp only
  go_wp2_with (go_at_call 25; refine (HP.out _).mono ?_; rintro e w3 ⟨rfl, q3⟩)
  go_ret
  exact ⟨by first | rfl | simp, Q2.out.trans q3⟩
end Go.Proofs.Ytnoapfhbckebiaa
