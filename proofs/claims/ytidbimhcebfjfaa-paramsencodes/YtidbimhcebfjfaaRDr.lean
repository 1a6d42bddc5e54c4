/-
  What the document's own Kind, right, rightID, take and Usual do: contracts that the statements' walks use.
-/
import Derived.Test.YtidbimhcebfjfaaRSm
import Derived.Test.YtidbimhcebfjfaaRefGet
import Derived.Test.YtidbimhcebfjfaaTks
namespace Go.Proofs.Ytidbimhcebfjfaa
open Go.RowKit
set_option linter.unusedVariables false
set_option maxRecDepth 20000

def kB (i : Nat) : Int := if kd i = 1 then 110 else if kd i = 2 ∨ kd i = 3 then 98 else if kd i = 4 then 48 else 32
theorem kd_big {i : Nat} (h : 16 < i) : kd i = 0 := by
  unfold kd; rw [if_neg (by omega), if_neg (by omega), if_neg (by omega), if_pos (.inr h)]
theorem rkind_any (i : Nat) (w : World) : Calls Try.prog 27 #[.int .i64 (i : Int)] w fun e w' => e = .returned (.int .u8 (kB i)) ∧ w = w' := by
  by_cases h : 16 < i
  · have e : kB i = 32 := by unfold kB; rw [kd_big h]; rfl
    rw [e]
    have h1 : decide ((i : Int) < 0) = false := by simp
    have h2 : decide ((16 : Int) < (i : Int)) = true := by simp; omega
    clear e
    go_enter Try.func27, Try.ntmps27
    go_wp2
    go_ret
    exact ⟨rfl, rfl⟩
  · rcases (show i = 0 ∨ i = 1 ∨ i = 2 ∨ i = 3 ∨ i = 4 ∨ i = 5 ∨ i = 6 ∨ i = 7 ∨ i = 8 ∨ i = 9 ∨ i = 10 ∨ i = 11 ∨ i = 12 ∨ i = 13 ∨ i = 14 ∨ i = 15 ∨ i = 16 by omega) with rfl | rfl | rfl | rfl | rfl | rfl | rfl | rfl | rfl | rfl | rfl | rfl | rfl | rfl | rfl | rfl | rfl
    all_goals
      go_enter Try.func27, Try.ntmps27
      go_wp2
      go_ret
      exact ⟨rfl, rfl⟩
theorem rc_num : ∀ i, i < 17 → ∀ m s v, (rc m s).setIfInBounds i (.int .i64 v) = rc (updN m i v) s
  | 0, _ => fun _ _ _ => rfl
  | 1, _ => fun _ _ _ => rfl
  | 2, _ => fun _ _ _ => rfl
  | 3, _ => fun _ _ _ => rfl
  | 4, _ => fun _ _ _ => rfl
  | 5, _ => fun _ _ _ => rfl
  | 6, _ => fun _ _ _ => rfl
  | 7, _ => fun _ _ _ => rfl
  | 8, _ => fun _ _ _ => rfl
  | 9, _ => fun _ _ _ => rfl
  | 10, _ => fun _ _ _ => rfl
  | 11, _ => fun _ _ _ => rfl
  | 12, _ => fun _ _ _ => rfl
  | 13, _ => fun _ _ _ => rfl
  | 14, _ => fun _ _ _ => rfl
  | 15, _ => fun _ _ _ => rfl
  | 16, _ => fun _ _ _ => rfl
  | k + 17, h => by omega
theorem rc_byt : ∀ i, i < 17 → ∀ m s v y, ((rc m s).setIfInBounds (17 + i) (.bool true)).setIfInBounds (34 + i) (sv y) = rc (updB m i v) (fun j => if j = i then y else s j)
  | 0, _ => fun _ _ _ _ => rfl
  | 1, _ => fun _ _ _ _ => rfl
  | 2, _ => fun _ _ _ _ => rfl
  | 3, _ => fun _ _ _ _ => rfl
  | 4, _ => fun _ _ _ _ => rfl
  | 5, _ => fun _ _ _ _ => rfl
  | 6, _ => fun _ _ _ _ => rfl
  | 7, _ => fun _ _ _ _ => rfl
  | 8, _ => fun _ _ _ _ => rfl
  | 9, _ => fun _ _ _ _ => rfl
  | 10, _ => fun _ _ _ _ => rfl
  | 11, _ => fun _ _ _ _ => rfl
  | 12, _ => fun _ _ _ _ => rfl
  | 13, _ => fun _ _ _ _ => rfl
  | 14, _ => fun _ _ _ _ => rfl
  | 15, _ => fun _ _ _ _ => rfl
  | 16, _ => fun _ _ _ _ => rfl
  | k + 17, h => by omega
theorem rc_mrk (m : Pm) (s : Nat → Sv) : (rc m s).setIfInBounds 51 (.bool true) = rc { m with mv := true } s := rfl

set_option maxHeartbeats 8000000 in
theorem rright_0 (m : Pm) (s : Nat → Sv) (srv : Bool) (w : World) (hl : (m.byt 0).length = (s 0).n) : Calls Try.prog 43 #[.agg (rc m s), .int .i64 0, .bool srv] w fun e w' => e = .returned (.bool (rgt m 0 srv)) ∧ Q w w' := by
  have KI := hid (rkind_any 0)
  have hr : rgt m 0 srv = ((!m.has 0 || (decide (0 ≤ ((m.byt 0).length : Int)) && decide (((m.byt 0).length : Int) ≤ 20))) && (srv || !m.has 0)) := rfl
  rw [hl] at hr
  clear hl
  obtain ⟨⟨xa, xn, xc⟩, hx⟩ : ∃ x, s 0 = x := ⟨_, rfl⟩
  obtain ⟨hb, hh⟩ : ∃ b, m.has 0 = b := ⟨_, rfl⟩
  rw [hx, hh] at hr
  dsimp only at hr
  rw [hr]
  have HX := hid hx
  have HH := hid hh
  clear hr hx hh
  cases hb <;> cases srv
  all_goals
    go_enter Try.func43, Try.ntmps43
    go_upto_region 1 with fail
    generalize hw1 : World.alloc w _ = w1
    have R1 := hid (show RB w1 w.heap.size (rc m s) from by rw [← hw1]; exact heap_alloc_new w _)
    have Q1 := hid (show Q w w1 from by rw [← hw1]; exact (Q.refl w).alloc _)
    clear hw1
    have c1 := R1.out.cell (j := 17) (v := .bool (m.has 0)) rfl
    have c2 := R1.out.cell (j := 34) (v := sv (s 0)) rfl
    rw [HH.out] at c1
    rw [HX.out] at c2
    clear R1 HX HH
    go_wp2_with (go_at_call 27; refine (KI.out _).mono ?_; rintro e w2 ⟨rfl, rfl⟩)
    all_goals
      go_ret
      exact ⟨ret_bool (by first | rfl | (simp; done) | (simp; omega) | (rw [Bool.eq_iff_iff]; simp; done) | (rw [Bool.eq_iff_iff]; simp; omega)), Q1.out⟩
set_option maxHeartbeats 8000000 in
theorem rright_1 (m : Pm) (s : Nat → Sv) (srv : Bool) (w : World) : Calls Try.prog 43 #[.agg (rc m s), .int .i64 1, .bool srv] w fun e w' => e = .returned (.bool (rgt m 1 srv)) ∧ Q w w' := by
  have KI := hid (rkind_any 1)
  have hr : rgt m 1 srv = (decide (0 ≤ m.num 1) && decide (m.num 1 ≤ 4611686018427387903)) := rfl
  obtain ⟨n, hn⟩ : ∃ n, m.num 1 = n := ⟨_, rfl⟩
  rw [hn] at hr
  rw [hr]
  have HN := hid hn
  clear hr hn
  go_enter Try.func43, Try.ntmps43
  go_upto_region 1 with fail
  generalize hw1 : World.alloc w _ = w1
  have R1 := hid (show RB w1 w.heap.size (rc m s) from by rw [← hw1]; exact heap_alloc_new w _)
  have Q1 := hid (show Q w w1 from by rw [← hw1]; exact (Q.refl w).alloc _)
  clear hw1
  have c1 : w1.cell? ⟨w.heap.size, 1, none⟩ = some (.int .i64 n) := by rw [← HN.out]; exact R1.out.cell rfl
  clear R1 HN
  go_wp2_with (go_at_call 27; refine (KI.out _).mono ?_; rintro e w2 ⟨rfl, rfl⟩)
  all_goals
    go_ret
    exact ⟨ret_bool (by first | rfl | (simp; done) | (simp; omega) | (rw [Bool.eq_iff_iff]; simp; done) | (rw [Bool.eq_iff_iff]; simp; omega)), Q1.out⟩
set_option maxHeartbeats 8000000 in
theorem rright_2 (m : Pm) (s : Nat → Sv) (srv : Bool) (w : World) (hl : (m.byt 2).length = (s 2).n) : Calls Try.prog 43 #[.agg (rc m s), .int .i64 2, .bool srv] w fun e w' => e = .returned (.bool (rgt m 2 srv)) ∧ Q w w' := by
  have KI := hid (rkind_any 2)
  have hr : rgt m 2 srv = ((!m.has 2 || (decide (16 ≤ ((m.byt 2).length : Int)) && decide (((m.byt 2).length : Int) ≤ 16))) && (srv || !m.has 2)) := rfl
  rw [hl] at hr
  clear hl
  obtain ⟨⟨xa, xn, xc⟩, hx⟩ : ∃ x, s 2 = x := ⟨_, rfl⟩
  obtain ⟨hb, hh⟩ : ∃ b, m.has 2 = b := ⟨_, rfl⟩
  rw [hx, hh] at hr
  dsimp only at hr
  rw [hr]
  have HX := hid hx
  have HH := hid hh
  clear hr hx hh
  cases hb <;> cases srv
  all_goals
    go_enter Try.func43, Try.ntmps43
    go_upto_region 1 with fail
    generalize hw1 : World.alloc w _ = w1
    have R1 := hid (show RB w1 w.heap.size (rc m s) from by rw [← hw1]; exact heap_alloc_new w _)
    have Q1 := hid (show Q w w1 from by rw [← hw1]; exact (Q.refl w).alloc _)
    clear hw1
    have c1 := R1.out.cell (j := 19) (v := .bool (m.has 2)) rfl
    have c2 := R1.out.cell (j := 36) (v := sv (s 2)) rfl
    rw [HH.out] at c1
    rw [HX.out] at c2
    clear R1 HX HH
    go_wp2_with (go_at_call 27; refine (KI.out _).mono ?_; rintro e w2 ⟨rfl, rfl⟩)
    all_goals
      go_ret
      exact ⟨ret_bool (by first | rfl | (simp; done) | (simp; omega) | (rw [Bool.eq_iff_iff]; simp; done) | (rw [Bool.eq_iff_iff]; simp; omega)), Q1.out⟩
set_option maxHeartbeats 8000000 in
theorem rright_3 (m : Pm) (s : Nat → Sv) (srv : Bool) (w : World) : Calls Try.prog 43 #[.agg (rc m s), .int .i64 3, .bool srv] w fun e w' => e = .returned (.bool (rgt m 3 srv)) ∧ Q w w' := by
  have KI := hid (rkind_any 3)
  have hr : rgt m 3 srv = (decide (1200 ≤ m.num 3) && decide (m.num 3 ≤ 4611686018427387903)) := rfl
  obtain ⟨n, hn⟩ : ∃ n, m.num 3 = n := ⟨_, rfl⟩
  rw [hn] at hr
  rw [hr]
  have HN := hid hn
  clear hr hn
  go_enter Try.func43, Try.ntmps43
  go_upto_region 1 with fail
  generalize hw1 : World.alloc w _ = w1
  have R1 := hid (show RB w1 w.heap.size (rc m s) from by rw [← hw1]; exact heap_alloc_new w _)
  have Q1 := hid (show Q w w1 from by rw [← hw1]; exact (Q.refl w).alloc _)
  clear hw1
  have c1 : w1.cell? ⟨w.heap.size, 3, none⟩ = some (.int .i64 n) := by rw [← HN.out]; exact R1.out.cell rfl
  clear R1 HN
  go_wp2_with (go_at_call 27; refine (KI.out _).mono ?_; rintro e w2 ⟨rfl, rfl⟩)
  all_goals
    go_ret
    exact ⟨ret_bool (by first | rfl | (simp; done) | (simp; omega) | (rw [Bool.eq_iff_iff]; simp; done) | (rw [Bool.eq_iff_iff]; simp; omega)), Q1.out⟩
set_option maxHeartbeats 8000000 in
theorem rright_4 (m : Pm) (s : Nat → Sv) (srv : Bool) (w : World) : Calls Try.prog 43 #[.agg (rc m s), .int .i64 4, .bool srv] w fun e w' => e = .returned (.bool (rgt m 4 srv)) ∧ Q w w' := by
  have KI := hid (rkind_any 4)
  have hr : rgt m 4 srv = (decide (0 ≤ m.num 4) && decide (m.num 4 ≤ 4611686018427387903)) := rfl
  obtain ⟨n, hn⟩ : ∃ n, m.num 4 = n := ⟨_, rfl⟩
  rw [hn] at hr
  rw [hr]
  have HN := hid hn
  clear hr hn
  go_enter Try.func43, Try.ntmps43
  go_upto_region 1 with fail
  generalize hw1 : World.alloc w _ = w1
  have R1 := hid (show RB w1 w.heap.size (rc m s) from by rw [← hw1]; exact heap_alloc_new w _)
  have Q1 := hid (show Q w w1 from by rw [← hw1]; exact (Q.refl w).alloc _)
  clear hw1
  have c1 : w1.cell? ⟨w.heap.size, 4, none⟩ = some (.int .i64 n) := by rw [← HN.out]; exact R1.out.cell rfl
  clear R1 HN
  go_wp2_with (go_at_call 27; refine (KI.out _).mono ?_; rintro e w2 ⟨rfl, rfl⟩)
  all_goals
    go_ret
    exact ⟨ret_bool (by first | rfl | (simp; done) | (simp; omega) | (rw [Bool.eq_iff_iff]; simp; done) | (rw [Bool.eq_iff_iff]; simp; omega)), Q1.out⟩
set_option maxHeartbeats 8000000 in
theorem rright_5 (m : Pm) (s : Nat → Sv) (srv : Bool) (w : World) : Calls Try.prog 43 #[.agg (rc m s), .int .i64 5, .bool srv] w fun e w' => e = .returned (.bool (rgt m 5 srv)) ∧ Q w w' := by
  have KI := hid (rkind_any 5)
  have hr : rgt m 5 srv = (decide (0 ≤ m.num 5) && decide (m.num 5 ≤ 4611686018427387903)) := rfl
  obtain ⟨n, hn⟩ : ∃ n, m.num 5 = n := ⟨_, rfl⟩
  rw [hn] at hr
  rw [hr]
  have HN := hid hn
  clear hr hn
  go_enter Try.func43, Try.ntmps43
  go_upto_region 1 with fail
  generalize hw1 : World.alloc w _ = w1
  have R1 := hid (show RB w1 w.heap.size (rc m s) from by rw [← hw1]; exact heap_alloc_new w _)
  have Q1 := hid (show Q w w1 from by rw [← hw1]; exact (Q.refl w).alloc _)
  clear hw1
  have c1 : w1.cell? ⟨w.heap.size, 5, none⟩ = some (.int .i64 n) := by rw [← HN.out]; exact R1.out.cell rfl
  clear R1 HN
  go_wp2_with (go_at_call 27; refine (KI.out _).mono ?_; rintro e w2 ⟨rfl, rfl⟩)
  all_goals
    go_ret
    exact ⟨ret_bool (by first | rfl | (simp; done) | (simp; omega) | (rw [Bool.eq_iff_iff]; simp; done) | (rw [Bool.eq_iff_iff]; simp; omega)), Q1.out⟩
set_option maxHeartbeats 8000000 in
theorem rright_6 (m : Pm) (s : Nat → Sv) (srv : Bool) (w : World) : Calls Try.prog 43 #[.agg (rc m s), .int .i64 6, .bool srv] w fun e w' => e = .returned (.bool (rgt m 6 srv)) ∧ Q w w' := by
  have KI := hid (rkind_any 6)
  have hr : rgt m 6 srv = (decide (0 ≤ m.num 6) && decide (m.num 6 ≤ 4611686018427387903)) := rfl
  obtain ⟨n, hn⟩ : ∃ n, m.num 6 = n := ⟨_, rfl⟩
  rw [hn] at hr
  rw [hr]
  have HN := hid hn
  clear hr hn
  go_enter Try.func43, Try.ntmps43
  go_upto_region 1 with fail
  generalize hw1 : World.alloc w _ = w1
  have R1 := hid (show RB w1 w.heap.size (rc m s) from by rw [← hw1]; exact heap_alloc_new w _)
  have Q1 := hid (show Q w w1 from by rw [← hw1]; exact (Q.refl w).alloc _)
  clear hw1
  have c1 : w1.cell? ⟨w.heap.size, 6, none⟩ = some (.int .i64 n) := by rw [← HN.out]; exact R1.out.cell rfl
  clear R1 HN
  go_wp2_with (go_at_call 27; refine (KI.out _).mono ?_; rintro e w2 ⟨rfl, rfl⟩)
  all_goals
    go_ret
    exact ⟨ret_bool (by first | rfl | (simp; done) | (simp; omega) | (rw [Bool.eq_iff_iff]; simp; done) | (rw [Bool.eq_iff_iff]; simp; omega)), Q1.out⟩
set_option maxHeartbeats 8000000 in
theorem rright_7 (m : Pm) (s : Nat → Sv) (srv : Bool) (w : World) : Calls Try.prog 43 #[.agg (rc m s), .int .i64 7, .bool srv] w fun e w' => e = .returned (.bool (rgt m 7 srv)) ∧ Q w w' := by
  have KI := hid (rkind_any 7)
  have hr : rgt m 7 srv = (decide (0 ≤ m.num 7) && decide (m.num 7 ≤ 4611686018427387903)) := rfl
  obtain ⟨n, hn⟩ : ∃ n, m.num 7 = n := ⟨_, rfl⟩
  rw [hn] at hr
  rw [hr]
  have HN := hid hn
  clear hr hn
  go_enter Try.func43, Try.ntmps43
  go_upto_region 1 with fail
  generalize hw1 : World.alloc w _ = w1
  have R1 := hid (show RB w1 w.heap.size (rc m s) from by rw [← hw1]; exact heap_alloc_new w _)
  have Q1 := hid (show Q w w1 from by rw [← hw1]; exact (Q.refl w).alloc _)
  clear hw1
  have c1 : w1.cell? ⟨w.heap.size, 7, none⟩ = some (.int .i64 n) := by rw [← HN.out]; exact R1.out.cell rfl
  clear R1 HN
  go_wp2_with (go_at_call 27; refine (KI.out _).mono ?_; rintro e w2 ⟨rfl, rfl⟩)
  all_goals
    go_ret
    exact ⟨ret_bool (by first | rfl | (simp; done) | (simp; omega) | (rw [Bool.eq_iff_iff]; simp; done) | (rw [Bool.eq_iff_iff]; simp; omega)), Q1.out⟩
set_option maxHeartbeats 8000000 in
theorem rright_8 (m : Pm) (s : Nat → Sv) (srv : Bool) (w : World) : Calls Try.prog 43 #[.agg (rc m s), .int .i64 8, .bool srv] w fun e w' => e = .returned (.bool (rgt m 8 srv)) ∧ Q w w' := by
  have KI := hid (rkind_any 8)
  have hr : rgt m 8 srv = (decide (0 ≤ m.num 8) && decide (m.num 8 ≤ 1152921504606846976)) := rfl
  obtain ⟨n, hn⟩ : ∃ n, m.num 8 = n := ⟨_, rfl⟩
  rw [hn] at hr
  rw [hr]
  have HN := hid hn
  clear hr hn
  go_enter Try.func43, Try.ntmps43
  go_upto_region 1 with fail
  generalize hw1 : World.alloc w _ = w1
  have R1 := hid (show RB w1 w.heap.size (rc m s) from by rw [← hw1]; exact heap_alloc_new w _)
  have Q1 := hid (show Q w w1 from by rw [← hw1]; exact (Q.refl w).alloc _)
  clear hw1
  have c1 : w1.cell? ⟨w.heap.size, 8, none⟩ = some (.int .i64 n) := by rw [← HN.out]; exact R1.out.cell rfl
  clear R1 HN
  go_wp2_with (go_at_call 27; refine (KI.out _).mono ?_; rintro e w2 ⟨rfl, rfl⟩)
  all_goals
    go_ret
    exact ⟨ret_bool (by first | rfl | (simp; done) | (simp; omega) | (rw [Bool.eq_iff_iff]; simp; done) | (rw [Bool.eq_iff_iff]; simp; omega)), Q1.out⟩
set_option maxHeartbeats 8000000 in
theorem rright_9 (m : Pm) (s : Nat → Sv) (srv : Bool) (w : World) : Calls Try.prog 43 #[.agg (rc m s), .int .i64 9, .bool srv] w fun e w' => e = .returned (.bool (rgt m 9 srv)) ∧ Q w w' := by
  have KI := hid (rkind_any 9)
  have hr : rgt m 9 srv = (decide (0 ≤ m.num 9) && decide (m.num 9 ≤ 1152921504606846976)) := rfl
  obtain ⟨n, hn⟩ : ∃ n, m.num 9 = n := ⟨_, rfl⟩
  rw [hn] at hr
  rw [hr]
  have HN := hid hn
  clear hr hn
  go_enter Try.func43, Try.ntmps43
  go_upto_region 1 with fail
  generalize hw1 : World.alloc w _ = w1
  have R1 := hid (show RB w1 w.heap.size (rc m s) from by rw [← hw1]; exact heap_alloc_new w _)
  have Q1 := hid (show Q w w1 from by rw [← hw1]; exact (Q.refl w).alloc _)
  clear hw1
  have c1 : w1.cell? ⟨w.heap.size, 9, none⟩ = some (.int .i64 n) := by rw [← HN.out]; exact R1.out.cell rfl
  clear R1 HN
  go_wp2_with (go_at_call 27; refine (KI.out _).mono ?_; rintro e w2 ⟨rfl, rfl⟩)
  all_goals
    go_ret
    exact ⟨ret_bool (by first | rfl | (simp; done) | (simp; omega) | (rw [Bool.eq_iff_iff]; simp; done) | (rw [Bool.eq_iff_iff]; simp; omega)), Q1.out⟩
set_option maxHeartbeats 8000000 in
theorem rright_10 (m : Pm) (s : Nat → Sv) (srv : Bool) (w : World) : Calls Try.prog 43 #[.agg (rc m s), .int .i64 10, .bool srv] w fun e w' => e = .returned (.bool (rgt m 10 srv)) ∧ Q w w' := by
  have KI := hid (rkind_any 10)
  have hr : rgt m 10 srv = (decide (0 ≤ m.num 10) && decide (m.num 10 ≤ 20)) := rfl
  obtain ⟨n, hn⟩ : ∃ n, m.num 10 = n := ⟨_, rfl⟩
  rw [hn] at hr
  rw [hr]
  have HN := hid hn
  clear hr hn
  go_enter Try.func43, Try.ntmps43
  go_upto_region 1 with fail
  generalize hw1 : World.alloc w _ = w1
  have R1 := hid (show RB w1 w.heap.size (rc m s) from by rw [← hw1]; exact heap_alloc_new w _)
  have Q1 := hid (show Q w w1 from by rw [← hw1]; exact (Q.refl w).alloc _)
  clear hw1
  have c1 : w1.cell? ⟨w.heap.size, 10, none⟩ = some (.int .i64 n) := by rw [← HN.out]; exact R1.out.cell rfl
  clear R1 HN
  go_wp2_with (go_at_call 27; refine (KI.out _).mono ?_; rintro e w2 ⟨rfl, rfl⟩)
  all_goals
    go_ret
    exact ⟨ret_bool (by first | rfl | (simp; done) | (simp; omega) | (rw [Bool.eq_iff_iff]; simp; done) | (rw [Bool.eq_iff_iff]; simp; omega)), Q1.out⟩
set_option maxHeartbeats 8000000 in
theorem rright_11 (m : Pm) (s : Nat → Sv) (srv : Bool) (w : World) : Calls Try.prog 43 #[.agg (rc m s), .int .i64 11, .bool srv] w fun e w' => e = .returned (.bool (rgt m 11 srv)) ∧ Q w w' := by
  have KI := hid (rkind_any 11)
  have hr : rgt m 11 srv = (decide (0 ≤ m.num 11) && decide (m.num 11 ≤ 16383)) := rfl
  obtain ⟨n, hn⟩ : ∃ n, m.num 11 = n := ⟨_, rfl⟩
  rw [hn] at hr
  rw [hr]
  have HN := hid hn
  clear hr hn
  go_enter Try.func43, Try.ntmps43
  go_upto_region 1 with fail
  generalize hw1 : World.alloc w _ = w1
  have R1 := hid (show RB w1 w.heap.size (rc m s) from by rw [← hw1]; exact heap_alloc_new w _)
  have Q1 := hid (show Q w w1 from by rw [← hw1]; exact (Q.refl w).alloc _)
  clear hw1
  have c1 : w1.cell? ⟨w.heap.size, 11, none⟩ = some (.int .i64 n) := by rw [← HN.out]; exact R1.out.cell rfl
  clear R1 HN
  go_wp2_with (go_at_call 27; refine (KI.out _).mono ?_; rintro e w2 ⟨rfl, rfl⟩)
  all_goals
    go_ret
    exact ⟨ret_bool (by first | rfl | (simp; done) | (simp; omega) | (rw [Bool.eq_iff_iff]; simp; done) | (rw [Bool.eq_iff_iff]; simp; omega)), Q1.out⟩
set_option maxHeartbeats 8000000 in
theorem rright_12 (m : Pm) (s : Nat → Sv) (srv : Bool) (w : World) : Calls Try.prog 43 #[.agg (rc m s), .int .i64 12, .bool srv] w fun e w' => e = .returned (.bool (rgt m 12 srv)) ∧ Q w w' := by
  have KI := hid (rkind_any 12)
  have hr : rgt m 12 srv = true := rfl
  rw [hr]
  clear hr
  go_enter Try.func43, Try.ntmps43
  go_upto_region 1 with fail
  generalize hw1 : World.alloc w _ = w1
  have Q1 := hid (show Q w w1 from by rw [← hw1]; exact (Q.refl w).alloc _)
  clear hw1
  go_wp2_with (go_at_call 27; refine (KI.out _).mono ?_; rintro e w2 ⟨rfl, rfl⟩)
  go_ret
  exact ⟨rfl, Q1.out⟩
set_option maxHeartbeats 8000000 in
theorem rright_14 (m : Pm) (s : Nat → Sv) (srv : Bool) (w : World) : Calls Try.prog 43 #[.agg (rc m s), .int .i64 14, .bool srv] w fun e w' => e = .returned (.bool (rgt m 14 srv)) ∧ Q w w' := by
  have KI := hid (rkind_any 14)
  have hr : rgt m 14 srv = (decide (2 ≤ m.num 14) && decide (m.num 14 ≤ 4611686018427387903)) := rfl
  obtain ⟨n, hn⟩ : ∃ n, m.num 14 = n := ⟨_, rfl⟩
  rw [hn] at hr
  rw [hr]
  have HN := hid hn
  clear hr hn
  go_enter Try.func43, Try.ntmps43
  go_upto_region 1 with fail
  generalize hw1 : World.alloc w _ = w1
  have R1 := hid (show RB w1 w.heap.size (rc m s) from by rw [← hw1]; exact heap_alloc_new w _)
  have Q1 := hid (show Q w w1 from by rw [← hw1]; exact (Q.refl w).alloc _)
  clear hw1
  have c1 : w1.cell? ⟨w.heap.size, 14, none⟩ = some (.int .i64 n) := by rw [← HN.out]; exact R1.out.cell rfl
  clear R1 HN
  go_wp2_with (go_at_call 27; refine (KI.out _).mono ?_; rintro e w2 ⟨rfl, rfl⟩)
  all_goals
    go_ret
    exact ⟨ret_bool (by first | rfl | (simp; done) | (simp; omega) | (rw [Bool.eq_iff_iff]; simp; done) | (rw [Bool.eq_iff_iff]; simp; omega)), Q1.out⟩
set_option maxHeartbeats 8000000 in
theorem rright_15 (m : Pm) (s : Nat → Sv) (srv : Bool) (w : World) (hl : (m.byt 15).length = (s 15).n) : Calls Try.prog 43 #[.agg (rc m s), .int .i64 15, .bool srv] w fun e w' => e = .returned (.bool (rgt m 15 srv)) ∧ Q w w' := by
  have KI := hid (rkind_any 15)
  have hr : rgt m 15 srv = (!m.has 15 || (decide (0 ≤ ((m.byt 15).length : Int)) && decide (((m.byt 15).length : Int) ≤ 20))) := rfl
  rw [hl] at hr
  clear hl
  obtain ⟨⟨xa, xn, xc⟩, hx⟩ : ∃ x, s 15 = x := ⟨_, rfl⟩
  obtain ⟨hb, hh⟩ : ∃ b, m.has 15 = b := ⟨_, rfl⟩
  rw [hx, hh] at hr
  dsimp only at hr
  rw [hr]
  have HX := hid hx
  have HH := hid hh
  clear hr hx hh
  cases hb <;> cases srv
  all_goals
    go_enter Try.func43, Try.ntmps43
    go_upto_region 1 with fail
    generalize hw1 : World.alloc w _ = w1
    have R1 := hid (show RB w1 w.heap.size (rc m s) from by rw [← hw1]; exact heap_alloc_new w _)
    have Q1 := hid (show Q w w1 from by rw [← hw1]; exact (Q.refl w).alloc _)
    clear hw1
    have c1 := R1.out.cell (j := 32) (v := .bool (m.has 15)) rfl
    have c2 := R1.out.cell (j := 49) (v := sv (s 15)) rfl
    rw [HH.out] at c1
    rw [HX.out] at c2
    clear R1 HX HH
    go_wp2_with (go_at_call 27; refine (KI.out _).mono ?_; rintro e w2 ⟨rfl, rfl⟩)
    all_goals
      go_ret
      exact ⟨ret_bool (by first | rfl | (simp; done) | (simp; omega) | (rw [Bool.eq_iff_iff]; simp; done) | (rw [Bool.eq_iff_iff]; simp; omega)), Q1.out⟩
set_option maxHeartbeats 8000000 in
theorem rright_16 (m : Pm) (s : Nat → Sv) (srv : Bool) (w : World) (hl : (m.byt 16).length = (s 16).n) : Calls Try.prog 43 #[.agg (rc m s), .int .i64 16, .bool srv] w fun e w' => e = .returned (.bool (rgt m 16 srv)) ∧ Q w w' := by
  have KI := hid (rkind_any 16)
  have hr : rgt m 16 srv = ((!m.has 16 || (decide (0 ≤ ((m.byt 16).length : Int)) && decide (((m.byt 16).length : Int) ≤ 20))) && (srv || !m.has 16)) := rfl
  rw [hl] at hr
  clear hl
  obtain ⟨⟨xa, xn, xc⟩, hx⟩ : ∃ x, s 16 = x := ⟨_, rfl⟩
  obtain ⟨hb, hh⟩ : ∃ b, m.has 16 = b := ⟨_, rfl⟩
  rw [hx, hh] at hr
  dsimp only at hr
  rw [hr]
  have HX := hid hx
  have HH := hid hh
  clear hr hx hh
  cases hb <;> cases srv
  all_goals
    go_enter Try.func43, Try.ntmps43
    go_upto_region 1 with fail
    generalize hw1 : World.alloc w _ = w1
    have R1 := hid (show RB w1 w.heap.size (rc m s) from by rw [← hw1]; exact heap_alloc_new w _)
    have Q1 := hid (show Q w w1 from by rw [← hw1]; exact (Q.refl w).alloc _)
    clear hw1
    have c1 := R1.out.cell (j := 33) (v := .bool (m.has 16)) rfl
    have c2 := R1.out.cell (j := 50) (v := sv (s 16)) rfl
    rw [HH.out] at c1
    rw [HX.out] at c2
    clear R1 HX HH
    go_wp2_with (go_at_call 27; refine (KI.out _).mono ?_; rintro e w2 ⟨rfl, rfl⟩)
    all_goals
      go_ret
      exact ⟨ret_bool (by first | rfl | (simp; done) | (simp; omega) | (rw [Bool.eq_iff_iff]; simp; done) | (rw [Bool.eq_iff_iff]; simp; omega)), Q1.out⟩
theorem rright_any (m : Pm) (s : Nat → Sv) (i : Nat) (srv : Bool) (w : World) (hi : kd i ≠ 0) (hl : Len m s) :
    Calls Try.prog 43 #[.agg (rc m s), .int .i64 (i : Int), .bool srv] w fun e w' => e = .returned (.bool (rgt m i srv)) ∧ Q w w' := by
  have hi17 : i < 17 ∧ i ≠ 13 := by
    refine ⟨?_, fun e => by subst e; exact hi rfl⟩
    by_cases h : 16 < i
    · exact absurd (kd_big h) hi
    · omega
  rcases (show i = 0 ∨ i = 1 ∨ i = 2 ∨ i = 3 ∨ i = 4 ∨ i = 5 ∨ i = 6 ∨ i = 7 ∨ i = 8 ∨ i = 9 ∨ i = 10 ∨ i = 11 ∨ i = 12 ∨ i = 14 ∨ i = 15 ∨ i = 16 by omega) with rfl | rfl | rfl | rfl | rfl | rfl | rfl | rfl | rfl | rfl | rfl | rfl | rfl | rfl | rfl | rfl
  · exact rright_0 m s srv w (hl 0 (by decide))
  · exact rright_1 m s srv w
  · exact rright_2 m s srv w (hl 2 (by decide))
  · exact rright_3 m s srv w
  · exact rright_4 m s srv w
  · exact rright_5 m s srv w
  · exact rright_6 m s srv w
  · exact rright_7 m s srv w
  · exact rright_8 m s srv w
  · exact rright_9 m s srv w
  · exact rright_10 m s srv w
  · exact rright_11 m s srv w
  · exact rright_12 m s srv w
  · exact rright_14 m s srv w
  · exact rright_15 m s srv w (hl 15 (by decide))
  · exact rright_16 m s srv w (hl 16 (by decide))
end Go.Proofs.Ytidbimhcebfjfaa
