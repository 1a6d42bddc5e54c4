/-
  What the document's own Check does: a contract that the statements' walks use.
-/
import Derived.Test.YtidbimhcebfjfaaRTk
import Derived.Test.YtidbimhcebfjfaaEncM
namespace Go.Proofs.Ytidbimhcebfjfaa
open Go.RowKit
set_option linter.unusedVariables false
set_option maxRecDepth 20000

theorem rright_13 (m : Pm) (s : Nat → Sv) (srv : Bool) (w : World) : Calls Try.prog 43 #[.agg (rc m s), .int .i64 13, .bool srv] w fun e w' => e = .returned (.bool (rgt m 13 srv)) ∧ Q w w' := by
  have KI := hid (rkind_any 13)
  have hr : rgt m 13 srv = true := rfl
  rw [hr]
  clear hr
  go_enter Try.func43, Try.ntmps43
  go_upto_region 1 with fail
  generalize hw1 : World.alloc w _ = w1
  have Q1 := hid (show Q w w1 from by rw [← hw1]; exact (Q.refl w).alloc _)
  clear hw1
  go_wp2_with (go_at_call 27; refine (KI.out _).mono ?_; rintro e w2 ⟨rfl, rfl⟩)
  go_ret
  exact ⟨rfl, Q1.out⟩
theorem kd_in : ∀ i, i < 17 → i ≠ 13 → kd i ≠ 0 := by
  have h : ∀ i : Fin 17, i.1 ≠ 13 → kd i.1 ≠ 0 := by decide
  intro i hi
  exact h ⟨i, hi⟩
theorem rright_all (m : Pm) (s : Nat → Sv) (i : Nat) (srv : Bool) (w : World) (hi : i < 17) (hl : Len m s) :
    Calls Try.prog 43 #[.agg (rc m s), .int .i64 (i : Int), .bool srv] w fun e w' => e = .returned (.bool (rgt m i srv)) ∧ Q w w' := by
  by_cases h : i = 13
  · subst h; exact rright_13 m s srv w
  · exact rright_any m s i srv w (kd_in i hi h) hl
theorem allI_of {m : Pm} {srv : Bool} (h : ∀ j, j < 17 → rgt m j srv = true) : allR m srv = true := allR_of (fun j hj => h _ (by have := idl_le j hj; omega))
theorem allI_no {m : Pm} {srv : Bool} {j : Nat} (hj : j < 17) (h : rgt m j srv = false) : allR m srv = false := by
  have h13 : j ≠ 13 := by intro e; subst e; cases h
  obtain ⟨k, hk, e⟩ := kd_ids (kd_in j hj h13)
  exact allR_no hk (by rw [e]; exact h)
set_option maxHeartbeats 8000000 in
theorem rcheck_any (m : Pm) (s : Nat → Sv) (srv : Bool) (w : World) (hl : Len m s) :
    Calls Try.prog 26 #[.agg (rc m s), .bool srv] w fun e w' => e = .returned (.int .i64 (chkE m srv)) ∧ Q w w' := by
  have HL := hid hl
  clear hl
  go_enter Try.func26, Try.ntmps26
  go_upto_region 1 with fail
  generalize hw1 : World.alloc w _ = w1
  have R1 := hid (show RB w1 w.heap.size (rc m s) from by rw [← hw1]; exact heap_alloc_new w _)
  have Q1 := hid (show Q w w1 from by rw [← hw1]; exact (Q.refl w).alloc _)
  clear hw1
  generalize w.heap.size = ab at *
  go_wp2_with fail
  go_loopw [5] (fun i wr => ∃ k : Nat, i = .int .i64 k ∧ k ≤ 17 ∧ Q w wr ∧ RB wr ab (rc m s) ∧ ∀ j, j < k → rgt m j srv = true) (fun i _ => 17 - (intOf i).toNat)
  case atStart => exact ⟨0, rfl, by omega, Q1.out, R1.out, fun j hj => by omega⟩
  case round =>
    obtain ⟨k, rfl, hk, hq, hr, ha⟩ := hrel
    have HQ := hid hq
    have HR := hid hr
    have HA := hid ha
    clear hq hr ha Q1 R1
    by_cases hlt : k < 17
    · have hd1 : decide ((k : Int) ≤ 16) = true := by simp; omega
      have HC := hid (fun (W : World) => rright_all m s k srv W hlt HL.out)
      cases hb : rgt m k srv with
      | false =>
        rw [hb] at HC
        have HE := hid (chkE_no (allI_no hlt hb))
        clear hb
        go_wp2_with (first
          | (refine wpList_load_g (by kernel_rfl) _ rfl ab rfl m s HR.out ?_)
          | (go_at_call 43; refine (HC.out _).mono ?_; rintro e w2 ⟨rfl, q2⟩; have Q2 := hid (HQ.out.trans q2); clear q2))
        go_ret
        exact ⟨by rw [HE.out]; rfl, Q2.out⟩
      | true =>
        rw [hb] at HC
        have HB := hid hb
        clear hb
        go_wp2_with (first
          | (refine wpList_load_g (by kernel_rfl) _ rfl ab rfl m s HR.out ?_)
          | (go_at_call 43; refine (HC.out _).mono ?_; rintro e w2 ⟨rfl, q2⟩; have Q2 := hid (HQ.out.trans q2); have R2 := hid (HR.out.q q2); clear q2))
        exact ⟨⟨k + 1, by go_num, by omega, Q2.out, R2.out, fun j hj => by
          rcases Nat.lt_succ_iff_lt_or_eq.1 hj with h | h
          · exact HA.out j h
          · rw [h]; exact HB.out⟩, by simp [intOf]; omega⟩
    · have hk17 : k = 17 := by omega
      subst hk17
      have HE := hid (chkE_ok (allI_of HA.out))
      go_wp2
      go_ret
      exact ⟨by rw [HE.out]; rfl, HQ.out⟩
end Go.Proofs.Ytidbimhcebfjfaa
