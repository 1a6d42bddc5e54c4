/-
  What the document's own Items does: a contract that the statements' walks use.
-/
import Derived.Test.YtdoodbaogmdloabFr
namespace Go.Proofs.Ytdoodbaogmdloab
open Go.RowKit
set_option linter.unusedVariables false
set_option maxRecDepth 20000

/-- The items of a kind, as letters. -/
def itL (k : Int) : List UInt8 :=
  if k = 2 then [115] else if k = 3 then [115, 101] else if k = 4 then [105, 99, 110] else if k = 5 then [105, 99] else if k = 6 then [97, 100] else if k = 7 then [100] else if k = 8 then [105, 97, 100]
  else if k = 17 ∨ k = 21 then [105, 110] else if k = 16 ∨ k = 18 ∨ k = 19 ∨ k = 20 ∨ k = 22 ∨ k = 23 ∨ k = 25 then [110] else if k = 24 then [110, 97, 107, 116] else if k = 26 ∨ k = 27 then [112] else if k = 28 then [99, 110, 100] else if k = 29 then [99, 100] else []

theorem isK_cases {k : Int} (h : isK k = true) : k = 0 ∨ k = 1 ∨ k = 2 ∨ k = 3 ∨ k = 4 ∨ k = 5 ∨ k = 6 ∨ k = 7 ∨ k = 8 ∨ k = 16 ∨ k = 17 ∨ k = 18 ∨ k = 19 ∨ k = 20 ∨ k = 21 ∨ k = 22 ∨ k = 23 ∨ k = 24 ∨ k = 25 ∨ k = 26 ∨ k = 27 ∨ k = 28 ∨ k = 29 ∨ k = 30 := by
  unfold isK at h
  simp only [decide_eq_true_eq] at h
  omega

set_option maxHeartbeats 4000000 in
theorem ritems_any (k : Int) (w : World) : Calls Try.prog 21 #[.int .i64 k] w fun e w' => e = .returned (.tuple #[.string ⟨(itL k).toArray⟩, .bool (isK k)]) ∧ w = w' := by
  cases hk : isK k
  · have hn : ¬ (0 ≤ k ∧ k ≤ 8 ∨ 16 ≤ k ∧ k ≤ 30) := by unfold isK at hk; simpa using hk
    have HR := hid (show itL k = [] from by unfold itL; repeat rw [if_neg (by omega)])
    have b0 : (k == 0) = false := by simp; omega
    have b1 : (k == 1) = false := by simp; omega
    have b2 : (k == 2) = false := by simp; omega
    have b3 : (k == 3) = false := by simp; omega
    have b4 : (k == 4) = false := by simp; omega
    have b5 : (k == 5) = false := by simp; omega
    have b6 : (k == 6) = false := by simp; omega
    have b7 : (k == 7) = false := by simp; omega
    have b8 : (k == 8) = false := by simp; omega
    have b16 : (k == 16) = false := by simp; omega
    have b17 : (k == 17) = false := by simp; omega
    have b18 : (k == 18) = false := by simp; omega
    have b19 : (k == 19) = false := by simp; omega
    have b20 : (k == 20) = false := by simp; omega
    have b21 : (k == 21) = false := by simp; omega
    have b22 : (k == 22) = false := by simp; omega
    have b23 : (k == 23) = false := by simp; omega
    have b24 : (k == 24) = false := by simp; omega
    have b25 : (k == 25) = false := by simp; omega
    have b26 : (k == 26) = false := by simp; omega
    have b27 : (k == 27) = false := by simp; omega
    have b28 : (k == 28) = false := by simp; omega
    have b29 : (k == 29) = false := by simp; omega
    have b30 : (k == 30) = false := by simp; omega
    clear hn hk
    go_enter Try.func21, Try.ntmps21
    go_wp2
    go_ret2
    exact ⟨by rw [HR.out]; rfl, rfl⟩
  · rcases isK_cases hk with rfl | rfl | rfl | rfl | rfl | rfl | rfl | rfl | rfl | rfl | rfl | rfl | rfl | rfl | rfl | rfl | rfl | rfl | rfl | rfl | rfl | rfl | rfl | rfl
    all_goals
      clear hk
      go_enter Try.func21, Try.ntmps21
      go_wp2
      go_ret2
      exact ⟨rfl, rfl⟩
end Go.Proofs.Ytdoodbaogmdloab
