/-
  What soonest, probeTime answer: contracts that the statements' walks use.
-/
import Derived.Test.YtjhihcmemnhbbaaUnd
import Derived.StillTailTactics
import Derived.BigRegion
namespace Go.Proofs.Ytjhihcmemnhbbaa
open Go.RowKit
set_option linter.unusedVariables false
set_option maxRecDepth 20000

/-- The place of the least time; -1: none. -/
def soonI (i : Int) (x : Int) (p : Int) (y : Int) : Int := if x ≠ -1 ∧ (p = -1 ∨ x < y) then i else p
def at3 (a b c p : Int) : Int := if p = 0 then a else if p = 1 then b else c
def soon (a b c : Int) : Int :=
  let p0 := soonI 0 a (-1) 0
  let p1 := soonI 1 b p0 (at3 a b c p0)
  soonI 2 c p1 (at3 a b c p1)
theorem sI_none (i p y : Int) : soonI i (-1) p y = p := by unfold soonI; rw [if_neg (fun h => h.1 rfl)]
theorem sI_first (i x y : Int) (h : x ≠ -1) : soonI i x (-1) y = i := by unfold soonI; rw [if_pos ⟨h, .inl rfl⟩]
theorem sI_lt (i x p y : Int) (h : x ≠ -1) (h2 : x < y) : soonI i x p y = i := by unfold soonI; rw [if_pos ⟨h, .inr h2⟩]
theorem sI_ge (i x p y : Int) (hp : p ≠ -1) (h2 : ¬ x < y) : soonI i x p y = p := by unfold soonI; rw [if_neg (fun h => by rcases h.2 with e | e; exact hp e; exact h2 e)]
theorem soon_of {a b c p0 p1 p2 : Int} (e0 : soonI 0 a (-1) 0 = p0) (e1 : soonI 1 b p0 (at3 a b c p0) = p1) (e2 : soonI 2 c p1 (at3 a b c p1) = p2) : soon a b c = p2 := by
  unfold soon; simp only; rw [e0, e1, e2]
theorem ix0 (a b c : Value) (w : World) : (Instr.index 55 (.agg #[a, b, c]) (.int .i64 0)).run Try.prog w = .ok a w := by rfl
theorem ix1 (a b c : Value) (w : World) : (Instr.index 55 (.agg #[a, b, c]) (.int .i64 1)).run Try.prog w = .ok b w := by rfl
theorem ix2 (a b c : Value) (w : World) : (Instr.index 55 (.agg #[a, b, c]) (.int .i64 2)).run Try.prog w = .ok c w := by rfl
set_option maxHeartbeats 2000000 in
theorem soon_p0 (w : World)  : Calls Try.prog 38 #[.agg #[.int .i64 (-1), .int .i64 (-1), .int .i64 (-1)]] w fun e w' => e = .returned (.int .i64 (-1)) ∧ Q w w' := by
  go_enter Try.func38, Try.ntmps38
  go_wp2
  refine wp_loop_rounds 4 ?_
  rw [rounds_succ]; go_wp2; rw [ix0]; go_wp2
  rw [rounds_succ]; go_wp2; rw [ix1]; go_wp2
  rw [rounds_succ]; go_wp2; rw [ix2]; go_wp2
  rw [rounds_succ]; go_wp2
  go_ret
  exact ⟨rfl, (Q.refl w).alloc _⟩
set_option maxHeartbeats 2000000 in
theorem soon_p1 (c : Int) (w : World) (h2 : c ≠ -1) : Calls Try.prog 38 #[.agg #[.int .i64 (-1), .int .i64 (-1), .int .i64 c]] w fun e w' => e = .returned (.int .i64 (2)) ∧ Q w w' := by
  have b2 : (c != -1) = true := by simpa using h2
  clear h2
  go_enter Try.func38, Try.ntmps38
  go_wp2
  refine wp_loop_rounds 4 ?_
  rw [rounds_succ]; go_wp2; rw [ix0]; go_wp2
  rw [rounds_succ]; go_wp2; rw [ix1]; go_wp2
  rw [rounds_succ]; go_wp2; rw [ix2]; go_wp2
  rw [rounds_succ]; go_wp2
  go_ret
  exact ⟨rfl, (Q.refl w).alloc _⟩
set_option maxHeartbeats 2000000 in
theorem soon_p2 (b : Int) (w : World) (h1 : b ≠ -1) : Calls Try.prog 38 #[.agg #[.int .i64 (-1), .int .i64 b, .int .i64 (-1)]] w fun e w' => e = .returned (.int .i64 (1)) ∧ Q w w' := by
  have b1 : (b != -1) = true := by simpa using h1
  clear h1
  go_enter Try.func38, Try.ntmps38
  go_wp2
  refine wp_loop_rounds 4 ?_
  rw [rounds_succ]; go_wp2; rw [ix0]; go_wp2
  rw [rounds_succ]; go_wp2; rw [ix1]; go_wp2
  rw [rounds_succ]; go_wp2; rw [ix2]; go_wp2
  rw [rounds_succ]; go_wp2
  go_ret
  exact ⟨rfl, (Q.refl w).alloc _⟩
set_option maxHeartbeats 2000000 in
theorem soon_p3 (b c : Int) (w : World) (h1 : b ≠ -1) (h2 : c ≠ -1) (h3 : c < b) : Calls Try.prog 38 #[.agg #[.int .i64 (-1), .int .i64 b, .int .i64 c]] w fun e w' => e = .returned (.int .i64 (2)) ∧ Q w w' := by
  have b1 : (b != -1) = true := by simpa using h1
  have b2 : (c != -1) = true := by simpa using h2
  have b3 : decide (c < b) = true := by simp [h3]
  clear h1 h2 h3
  go_enter Try.func38, Try.ntmps38
  go_wp2
  refine wp_loop_rounds 4 ?_
  rw [rounds_succ]; go_wp2; rw [ix0]; go_wp2
  rw [rounds_succ]; go_wp2; rw [ix1]; go_wp2
  rw [rounds_succ]; go_wp2; rw [ix2]; go_wp2
  rw [rounds_succ]; go_wp2
  go_ret
  exact ⟨rfl, (Q.refl w).alloc _⟩
set_option maxHeartbeats 2000000 in
theorem soon_p4 (b c : Int) (w : World) (h1 : b ≠ -1) (h2 : c ≠ -1) (h3 : ¬ c < b) : Calls Try.prog 38 #[.agg #[.int .i64 (-1), .int .i64 b, .int .i64 c]] w fun e w' => e = .returned (.int .i64 (1)) ∧ Q w w' := by
  have b1 : (b != -1) = true := by simpa using h1
  have b2 : (c != -1) = true := by simpa using h2
  have b3 : decide (c < b) = false := by simp [h3]
  clear h1 h2 h3
  go_enter Try.func38, Try.ntmps38
  go_wp2
  refine wp_loop_rounds 4 ?_
  rw [rounds_succ]; go_wp2; rw [ix0]; go_wp2
  rw [rounds_succ]; go_wp2; rw [ix1]; go_wp2
  rw [rounds_succ]; go_wp2; rw [ix2]; go_wp2
  rw [rounds_succ]; go_wp2
  go_ret
  exact ⟨rfl, (Q.refl w).alloc _⟩
set_option maxHeartbeats 2000000 in
theorem soon_p5 (a : Int) (w : World) (h0 : a ≠ -1) : Calls Try.prog 38 #[.agg #[.int .i64 a, .int .i64 (-1), .int .i64 (-1)]] w fun e w' => e = .returned (.int .i64 (0)) ∧ Q w w' := by
  have b0 : (a != -1) = true := by simpa using h0
  clear h0
  go_enter Try.func38, Try.ntmps38
  go_wp2
  refine wp_loop_rounds 4 ?_
  rw [rounds_succ]; go_wp2; rw [ix0]; go_wp2
  rw [rounds_succ]; go_wp2; rw [ix1]; go_wp2
  rw [rounds_succ]; go_wp2; rw [ix2]; go_wp2
  rw [rounds_succ]; go_wp2
  go_ret
  exact ⟨rfl, (Q.refl w).alloc _⟩
set_option maxHeartbeats 2000000 in
theorem soon_p6 (a c : Int) (w : World) (h0 : a ≠ -1) (h2 : c ≠ -1) (h3 : c < a) : Calls Try.prog 38 #[.agg #[.int .i64 a, .int .i64 (-1), .int .i64 c]] w fun e w' => e = .returned (.int .i64 (2)) ∧ Q w w' := by
  have b0 : (a != -1) = true := by simpa using h0
  have b2 : (c != -1) = true := by simpa using h2
  have b3 : decide (c < a) = true := by simp [h3]
  clear h0 h2 h3
  go_enter Try.func38, Try.ntmps38
  go_wp2
  refine wp_loop_rounds 4 ?_
  rw [rounds_succ]; go_wp2; rw [ix0]; go_wp2
  rw [rounds_succ]; go_wp2; rw [ix1]; go_wp2
  rw [rounds_succ]; go_wp2; rw [ix2]; go_wp2
  rw [rounds_succ]; go_wp2
  go_ret
  exact ⟨rfl, (Q.refl w).alloc _⟩
set_option maxHeartbeats 2000000 in
theorem soon_p7 (a c : Int) (w : World) (h0 : a ≠ -1) (h2 : c ≠ -1) (h3 : ¬ c < a) : Calls Try.prog 38 #[.agg #[.int .i64 a, .int .i64 (-1), .int .i64 c]] w fun e w' => e = .returned (.int .i64 (0)) ∧ Q w w' := by
  have b0 : (a != -1) = true := by simpa using h0
  have b2 : (c != -1) = true := by simpa using h2
  have b3 : decide (c < a) = false := by simp [h3]
  clear h0 h2 h3
  go_enter Try.func38, Try.ntmps38
  go_wp2
  refine wp_loop_rounds 4 ?_
  rw [rounds_succ]; go_wp2; rw [ix0]; go_wp2
  rw [rounds_succ]; go_wp2; rw [ix1]; go_wp2
  rw [rounds_succ]; go_wp2; rw [ix2]; go_wp2
  rw [rounds_succ]; go_wp2
  go_ret
  exact ⟨rfl, (Q.refl w).alloc _⟩
set_option maxHeartbeats 2000000 in
theorem soon_p8 (a b : Int) (w : World) (h0 : a ≠ -1) (h1 : b ≠ -1) (h2 : b < a) : Calls Try.prog 38 #[.agg #[.int .i64 a, .int .i64 b, .int .i64 (-1)]] w fun e w' => e = .returned (.int .i64 (1)) ∧ Q w w' := by
  have b0 : (a != -1) = true := by simpa using h0
  have b1 : (b != -1) = true := by simpa using h1
  have b2 : decide (b < a) = true := by simp [h2]
  clear h0 h1 h2
  go_enter Try.func38, Try.ntmps38
  go_wp2
  refine wp_loop_rounds 4 ?_
  rw [rounds_succ]; go_wp2; rw [ix0]; go_wp2
  rw [rounds_succ]; go_wp2; rw [ix1]; go_wp2
  rw [rounds_succ]; go_wp2; rw [ix2]; go_wp2
  rw [rounds_succ]; go_wp2
  go_ret
  exact ⟨rfl, (Q.refl w).alloc _⟩
set_option maxHeartbeats 2000000 in
theorem soon_p9 (a b c : Int) (w : World) (h0 : a ≠ -1) (h1 : b ≠ -1) (h2 : b < a) (h3 : c ≠ -1) (h4 : c < b) : Calls Try.prog 38 #[.agg #[.int .i64 a, .int .i64 b, .int .i64 c]] w fun e w' => e = .returned (.int .i64 (2)) ∧ Q w w' := by
  have b0 : (a != -1) = true := by simpa using h0
  have b1 : (b != -1) = true := by simpa using h1
  have b2 : decide (b < a) = true := by simp [h2]
  have b3 : (c != -1) = true := by simpa using h3
  have b4 : decide (c < b) = true := by simp [h4]
  clear h0 h1 h2 h3 h4
  go_enter Try.func38, Try.ntmps38
  go_wp2
  refine wp_loop_rounds 4 ?_
  rw [rounds_succ]; go_wp2; rw [ix0]; go_wp2
  rw [rounds_succ]; go_wp2; rw [ix1]; go_wp2
  rw [rounds_succ]; go_wp2; rw [ix2]; go_wp2
  rw [rounds_succ]; go_wp2
  go_ret
  exact ⟨rfl, (Q.refl w).alloc _⟩
set_option maxHeartbeats 2000000 in
theorem soon_p10 (a b c : Int) (w : World) (h0 : a ≠ -1) (h1 : b ≠ -1) (h2 : b < a) (h3 : c ≠ -1) (h4 : ¬ c < b) : Calls Try.prog 38 #[.agg #[.int .i64 a, .int .i64 b, .int .i64 c]] w fun e w' => e = .returned (.int .i64 (1)) ∧ Q w w' := by
  have b0 : (a != -1) = true := by simpa using h0
  have b1 : (b != -1) = true := by simpa using h1
  have b2 : decide (b < a) = true := by simp [h2]
  have b3 : (c != -1) = true := by simpa using h3
  have b4 : decide (c < b) = false := by simp [h4]
  clear h0 h1 h2 h3 h4
  go_enter Try.func38, Try.ntmps38
  go_wp2
  refine wp_loop_rounds 4 ?_
  rw [rounds_succ]; go_wp2; rw [ix0]; go_wp2
  rw [rounds_succ]; go_wp2; rw [ix1]; go_wp2
  rw [rounds_succ]; go_wp2; rw [ix2]; go_wp2
  rw [rounds_succ]; go_wp2
  go_ret
  exact ⟨rfl, (Q.refl w).alloc _⟩
set_option maxHeartbeats 2000000 in
theorem soon_p11 (a b : Int) (w : World) (h0 : a ≠ -1) (h1 : b ≠ -1) (h2 : ¬ b < a) : Calls Try.prog 38 #[.agg #[.int .i64 a, .int .i64 b, .int .i64 (-1)]] w fun e w' => e = .returned (.int .i64 (0)) ∧ Q w w' := by
  have b0 : (a != -1) = true := by simpa using h0
  have b1 : (b != -1) = true := by simpa using h1
  have b2 : decide (b < a) = false := by simp [h2]
  clear h0 h1 h2
  go_enter Try.func38, Try.ntmps38
  go_wp2
  refine wp_loop_rounds 4 ?_
  rw [rounds_succ]; go_wp2; rw [ix0]; go_wp2
  rw [rounds_succ]; go_wp2; rw [ix1]; go_wp2
  rw [rounds_succ]; go_wp2; rw [ix2]; go_wp2
  rw [rounds_succ]; go_wp2
  go_ret
  exact ⟨rfl, (Q.refl w).alloc _⟩
set_option maxHeartbeats 2000000 in
theorem soon_p12 (a b c : Int) (w : World) (h0 : a ≠ -1) (h1 : b ≠ -1) (h2 : ¬ b < a) (h3 : c ≠ -1) (h4 : c < a) : Calls Try.prog 38 #[.agg #[.int .i64 a, .int .i64 b, .int .i64 c]] w fun e w' => e = .returned (.int .i64 (2)) ∧ Q w w' := by
  have b0 : (a != -1) = true := by simpa using h0
  have b1 : (b != -1) = true := by simpa using h1
  have b2 : decide (b < a) = false := by simp [h2]
  have b3 : (c != -1) = true := by simpa using h3
  have b4 : decide (c < a) = true := by simp [h4]
  clear h0 h1 h2 h3 h4
  go_enter Try.func38, Try.ntmps38
  go_wp2
  refine wp_loop_rounds 4 ?_
  rw [rounds_succ]; go_wp2; rw [ix0]; go_wp2
  rw [rounds_succ]; go_wp2; rw [ix1]; go_wp2
  rw [rounds_succ]; go_wp2; rw [ix2]; go_wp2
  rw [rounds_succ]; go_wp2
  go_ret
  exact ⟨rfl, (Q.refl w).alloc _⟩
set_option maxHeartbeats 2000000 in
theorem soon_p13 (a b c : Int) (w : World) (h0 : a ≠ -1) (h1 : b ≠ -1) (h2 : ¬ b < a) (h3 : c ≠ -1) (h4 : ¬ c < a) : Calls Try.prog 38 #[.agg #[.int .i64 a, .int .i64 b, .int .i64 c]] w fun e w' => e = .returned (.int .i64 (0)) ∧ Q w w' := by
  have b0 : (a != -1) = true := by simpa using h0
  have b1 : (b != -1) = true := by simpa using h1
  have b2 : decide (b < a) = false := by simp [h2]
  have b3 : (c != -1) = true := by simpa using h3
  have b4 : decide (c < a) = false := by simp [h4]
  clear h0 h1 h2 h3 h4
  go_enter Try.func38, Try.ntmps38
  go_wp2
  refine wp_loop_rounds 4 ?_
  rw [rounds_succ]; go_wp2; rw [ix0]; go_wp2
  rw [rounds_succ]; go_wp2; rw [ix1]; go_wp2
  rw [rounds_succ]; go_wp2; rw [ix2]; go_wp2
  rw [rounds_succ]; go_wp2
  go_ret
  exact ⟨rfl, (Q.refl w).alloc _⟩
theorem soonest_any (a b c : Int) (w : World) : Calls Try.prog 38 #[.agg #[.int .i64 a, .int .i64 b, .int .i64 c]] w fun e w' => e = .returned (.int .i64 (soon a b c)) ∧ Q w w' := by
  by_cases na : a = -1
  · skip
    by_cases nb : b = -1
    · skip
      by_cases nc : c = -1
      · skip
        subst na
        subst nb
        subst nc
        have e : soon (-1) (-1) (-1) = -1 := soon_of (sI_none _ _ _) (sI_none _ _ _) (sI_none _ _ _)
        rw [e]
        exact soon_p0  w 
      · have h2 : c ≠ -1 := nc
        subst na
        subst nb
        have e : soon (-1) (-1) c = 2 := soon_of (sI_none _ _ _) (sI_none _ _ _) (sI_first _ _ _ h2)
        rw [e]
        exact soon_p1 c w h2
    · have h1 : b ≠ -1 := nb
      by_cases nc : c = -1
      · skip
        subst na
        subst nc
        have e : soon (-1) b (-1) = 1 := soon_of (sI_none _ _ _) (sI_first _ _ _ h1) (sI_none _ _ _)
        rw [e]
        exact soon_p2 b w h1
      · have h2 : c ≠ -1 := nc
        by_cases h3 : c < b
        · skip
          subst na
          have e : soon (-1) b c = 2 := soon_of (sI_none _ _ _) (sI_first _ _ _ h1) (sI_lt _ _ _ _ h2 h3)
          rw [e]
          exact soon_p3 b c w h1 h2 h3
        · skip
          subst na
          have e : soon (-1) b c = 1 := soon_of (sI_none _ _ _) (sI_first _ _ _ h1) (sI_ge _ _ _ _ (by decide) h3)
          rw [e]
          exact soon_p4 b c w h1 h2 h3
  · have h0 : a ≠ -1 := na
    by_cases nb : b = -1
    · skip
      by_cases nc : c = -1
      · skip
        subst nb
        subst nc
        have e : soon a (-1) (-1) = 0 := soon_of (sI_first _ _ _ h0) (sI_none _ _ _) (sI_none _ _ _)
        rw [e]
        exact soon_p5 a w h0
      · have h2 : c ≠ -1 := nc
        by_cases h3 : c < a
        · skip
          subst nb
          have e : soon a (-1) c = 2 := soon_of (sI_first _ _ _ h0) (sI_none _ _ _) (sI_lt _ _ _ _ h2 h3)
          rw [e]
          exact soon_p6 a c w h0 h2 h3
        · skip
          subst nb
          have e : soon a (-1) c = 0 := soon_of (sI_first _ _ _ h0) (sI_none _ _ _) (sI_ge _ _ _ _ (by decide) h3)
          rw [e]
          exact soon_p7 a c w h0 h2 h3
    · have h1 : b ≠ -1 := nb
      by_cases h2 : b < a
      · skip
        by_cases nc : c = -1
        · skip
          subst nc
          have e : soon a b (-1) = 1 := soon_of (sI_first _ _ _ h0) (sI_lt _ _ _ _ h1 h2) (sI_none _ _ _)
          rw [e]
          exact soon_p8 a b w h0 h1 h2
        · have h3 : c ≠ -1 := nc
          by_cases h4 : c < b
          · skip
            have e : soon a b c = 2 := soon_of (sI_first _ _ _ h0) (sI_lt _ _ _ _ h1 h2) (sI_lt _ _ _ _ h3 h4)
            rw [e]
            exact soon_p9 a b c w h0 h1 h2 h3 h4
          · skip
            have e : soon a b c = 1 := soon_of (sI_first _ _ _ h0) (sI_lt _ _ _ _ h1 h2) (sI_ge _ _ _ _ (by decide) h4)
            rw [e]
            exact soon_p10 a b c w h0 h1 h2 h3 h4
      · skip
        by_cases nc : c = -1
        · skip
          subst nc
          have e : soon a b (-1) = 0 := soon_of (sI_first _ _ _ h0) (sI_ge _ _ _ _ (by decide) h2) (sI_none _ _ _)
          rw [e]
          exact soon_p11 a b w h0 h1 h2
        · have h3 : c ≠ -1 := nc
          by_cases h4 : c < a
          · skip
            have e : soon a b c = 2 := soon_of (sI_first _ _ _ h0) (sI_ge _ _ _ _ (by decide) h2) (sI_lt _ _ _ _ h3 h4)
            rw [e]
            exact soon_p12 a b c w h0 h1 h2 h3 h4
          · skip
            have e : soon a b c = 0 := soon_of (sI_first _ _ _ h0) (sI_ge _ _ _ _ (by decide) h2) (sI_ge _ _ _ _ (by decide) h4)
            rw [e]
            exact soon_p13 a b c w h0 h1 h2 h3 h4

end Go.Proofs.Ytjhihcmemnhbbaa
