/-
  What the document's own Same does: are the bytes equal? A contract that the statements' walks use.
-/
import Derived.Test.YtekpepnonhbkcaaMem
import Derived.Laws.Tables
import Derived.BigQuiet
import Derived.Deep.QuietTactic
namespace Go.Proofs.Ytekpepnonhbkcaa
open Go.RowKit
set_option linter.unusedVariables false
set_option maxRecDepth 20000

set_option maxHeartbeats 400000 in
/-- Same: are the bytes equal? -/
theorem same_any (a1 a2 : Option Addr) (n1 n2 c1 c2 : Nat) (xs ys : List Int) (w : World) (l1 : xs.length = n1) (l2 : ys.length = n2) (b1 : n1 ≤ 9223372036854775807) (b2 : n2 ≤ 9223372036854775807)
    (h1 : Seg w a1 xs) (h2 : Seg w a2 ys) :
    Calls Try.prog 15 #[.slice a1 n1 c1, .slice a2 n2 c2] w fun e w' => e = .returned (.bool (decide (xs = ys))) ∧ Q w w' := by
  by_cases hl : n1 = n2
  · subst hl
    have L1 := hid l1
    have L2 := hid l2
    clear l1 l2
    have hne : ((n1 : Int) != n1) = false := by simp
    go_enter Try.func15, Try.ntmps15
    go_wp2
    go_loopw [5] (fun i wr => ∃ k : Nat, k ≤ n1 ∧ i = .int .i64 k ∧ xs.take k = ys.take k ∧ Q w wr) (fun i _ => n1 - (intOf i).toNat)
    case atStart => exact ⟨0, Nat.zero_le _, rfl, by simp, Q.refl _⟩
    case round =>
      obtain ⟨k, hk, rfl, ht, hq⟩ := hrel
      have HT := hid ht
      clear ht
      by_cases hlt : k < n1
      · obtain ⟨p1, o1, rfl, g1⟩ := h1 (by intro h; have := L1.out; simp [h] at this; omega)
        obtain ⟨p2, o2, rfl, g2⟩ := h2 (by intro h; have := L2.out; simp [h] at this; omega)
        have q1 : wr.cell? ⟨p1, o1 + k, none⟩ = some (.int .u8 (xs.getD k 0)) := by
          rw [hq.cell (lt_of_cell (g1 k (by have := L1.out; omega)))]; exact g1 k (by have := L1.out; omega)
        have q2 : wr.cell? ⟨p2, o2 + k, none⟩ = some (.int .u8 (ys.getD k 0)) := by
          rw [hq.cell (lt_of_cell (g2 k (by have := L2.out; omega)))]; exact g2 k (by have := L2.out; omega)
        have HQ := hid hq
        clear g1 g2 h1 h2 hq
        have hlt' : (k : Int) < (n1 : Int) := by omega
        have e1 : xs[k]? = some (xs.getD k 0) := by rw [List.getD_eq_getElem?_getD, List.getElem?_eq_getElem (by have := L1.out; omega)]; rfl
        have e2 : ys[k]? = some (ys.getD k 0) := by rw [List.getD_eq_getElem?_getD, List.getElem?_eq_getElem (by have := L2.out; omega)]; rfl
        have E1 := hid e1
        have E2 := hid e2
        clear e1 e2
        generalize xs.getD k 0 = x at *
        generalize ys.getD k 0 = y at *
        by_cases hxy : x = y
        · subst hxy
          have hd : (x != x) = false := by simp
          go_wp2
          go_quiet (fail)
          go_wp2
          go_roundw
          case rel => exact ⟨k + 1, by omega, by go_num, by rw [List.take_add_one, List.take_add_one, HT.out, E1.out, E2.out], HQ.out.drewN _⟩
          case measure => simp [intOf]; omega
        · have hd : (x != y) = true := by simp [hxy]
          go_wp2
          go_quiet (fail)
          go_wp2
          go_ret
          refine ⟨ret_bool ?_, HQ.out.drewN _⟩
          refine (decide_eq_false_iff_not.2 fun h => hxy ?_).symm
          have a := E1.out
          rw [h, E2.out] at a
          simpa using a.symm
      · go_wp2
        go_ret
        have : k = n1 := by omega
        subst this
        refine ⟨ret_bool ?_, hq⟩
        have a := HT.out
        rw [List.take_of_length_le (by rw [L1.out]; exact Nat.le_refl _), List.take_of_length_le (by rw [L2.out]; exact Nat.le_refl _)] at a
        simp [a]
  · have hne : ((n1 : Int) != n2) = true := by simp; omega
    have hd : decide (xs = ys) = false := by
      rw [decide_eq_false_iff_not]; intro h; rw [h, l2] at l1; exact hl l1.symm
    go_enter Try.func15, Try.ntmps15
    go_wp2
    go_ret
    exact ⟨ret_bool hd.symm, Q.refl _⟩

end Go.Proofs.Ytekpepnonhbkcaa
