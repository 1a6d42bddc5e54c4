/-
  The document's own Check as a Lean function, and that it answers as chk.
-/
import Derived.Test.YtdoodbaogmdloabRSp
import Derived.Test.YtdoodbaogmdloabCheck
namespace Go.Proofs.Ytdoodbaogmdloab
open Go.RowKit
set_option linter.unusedVariables false
set_option maxRecDepth 20000

/-- The first test on numbers. -/
def rt1 (f : Fr) : Bool := hasB (itL f.kind) 105 && !isN f.id || hasB (itL f.kind) 97 && !isN f.pl || hasB (itL f.kind) 110 && !isN f.num || hasB (itL f.kind) 99 && !isN f.code
/-- The second: spans and marks. -/
def rt2 (f : Fr) : Bool := hasB (itL f.kind) 115 && (!spansB f.sp || !isN f.dl) || hasB (itL f.kind) 101 && (!isN f.e0 || !isN f.e1 || !isN f.e2)
/-- The last: what the kind itself asks. -/
def rt3 (f : Fr) : Bool :=
  if f.kind = 0 then decide (f.num < 1) || decide (16384 < f.num) else if f.kind = 6 ∨ f.kind = 8 then decide (4611686018427387903 - (f.data.length : Int) < f.pl) else if f.kind = 7 then decide (f.data.length = 0)
  else if f.kind = 18 ∨ f.kind = 19 ∨ f.kind = 22 ∨ f.kind = 23 then decide (1152921504606846976 < f.num)
  else if f.kind = 24 then decide (f.num < f.pl) || decide (f.cid.length < 1) || decide (20 < f.cid.length) || decide (f.data.length ≠ 16)
  else if f.kind = 26 ∨ f.kind = 27 then decide (f.data.length ≠ 8) else false
def rchk (f : Fr) : Int := if isK f.kind = false then 50 else if 16384 < f.data.length then 52 else if rt1 f = true then 51 else if rt2 f = true then 51 else if rt3 f = true then 51 else 0

theorem not_lt_i (a b : Int) : (!decide (a < b)) = decide (b ≤ a) := by
  by_cases h : a < b
  · rw [decide_eq_true h, decide_eq_false (by omega)]; rfl
  · rw [decide_eq_false h, decide_eq_true (by omega)]; rfl
theorem not_lt_n (a b : Nat) : (!decide (a < b)) = decide (b ≤ a) := by
  by_cases h : a < b
  · rw [decide_eq_true h, decide_eq_false (by omega)]; rfl
  · rw [decide_eq_false h, decide_eq_true (by omega)]; rfl
theorem not_zero_n (a : Nat) : (!decide (a = 0)) = decide (0 < a) := by
  by_cases h : a = 0
  · rw [decide_eq_true h, decide_eq_false (by omega)]; rfl
  · rw [decide_eq_false h, decide_eq_true (by omega)]; rfl
theorem not_ne_n (a b : Nat) : (!decide (a ≠ b)) = decide (a = b) := by
  by_cases h : a = b
  · rw [decide_eq_true h, decide_eq_false (by simp [h])]; rfl
  · rw [decide_eq_false h, decide_eq_true h]; rfl
theorem dec_and (p q : Prop) [Decidable p] [Decidable q] : decide (p ∧ q) = (decide p && decide q) := Bool.decide_and p q

set_option maxHeartbeats 4000000 in
theorem tests_eq {f : Fr} (h : isK f.kind = true) : (numsB f && fieldsB f) = !(rt1 f || rt2 f || rt3 f) := by
  obtain ⟨k, id, pl, num, code, fin, data, cid, sp, dl, e0, e1, e2⟩ := f
  dsimp only at h
  rcases isK_cases h with rfl | rfl | rfl | rfl | rfl | rfl | rfl | rfl | rfl | rfl | rfl | rfl | rfl | rfl | rfl | rfl | rfl | rfl | rfl | rfl | rfl | rfl | rfl | rfl
  all_goals
    simp [numsB, fieldsB, rt1, rt2, rt3, lead, itL, hasB, ackB, fget, -List.length_eq_zero_iff, -Nat.lt_one_iff]
    try simp only [not_lt_i, not_lt_n, not_zero_n, Bool.and_comm, Bool.and_left_comm, Bool.and_assoc]
theorem rchk_eq (f : Fr) : rchk f = chk f := by
  unfold rchk chk
  by_cases h : isK f.kind = false
  · rw [if_pos h, if_pos h]
  rw [if_neg h, if_neg h]
  by_cases h2 : 16384 < f.data.length
  · rw [if_pos h2, if_pos h2]
  rw [if_neg h2, if_neg h2, tests_eq (by simpa using h)]
  cases rt1 f <;> cases rt2 f <;> cases rt3 f <;> rfl
end Go.Proofs.Ytdoodbaogmdloab
