/-
  Runes asked one by one: contracts that the statements' walks use.
-/
import Derived.Test.YthefijjdffafkaaDoorMem
import Derived.Test.YthefijjdffafkaaDoorMsM
import Derived.Lib.OthersKept
import Derived.BigQuiet
namespace Go.Proofs.YthefijjdffafkaaDoor
open Go.RowKit
set_option linter.unusedVariables false
set_option maxRecDepth 20000

theorem cap_any (r : Nat) (w : World) : Calls Tryd.prog 53 #[.int .i32 r] w fun e w' => e = .returned (.bool (cpB r)) ∧ w' = w := by
  go_enter Tryd.func53, Tryd.ntmps53
  by_cases h1 : 65 ≤ r
  · by_cases h2 : r ≤ 90
    · have hc : cpB r = true := by simp [cpB, h1, h2]
      have a1 : (65 : Int) ≤ (r : Int) := by omega
      have a2 : (r : Int) ≤ 90 := by omega
      rw [hc]
      go_wp2
      go_ret
      exact ⟨rfl, rfl⟩
    · have hc : cpB r = false := by simp [cpB, h2]
      have a1 : (65 : Int) ≤ (r : Int) := by omega
      have a2 : ¬ (r : Int) ≤ 90 := by omega
      rw [hc]
      go_wp2
      go_ret
      exact ⟨rfl, rfl⟩
  · have hc : cpB r = false := by simp [cpB, h1]
    have a1 : ¬ (65 : Int) ≤ (r : Int) := by omega
    rw [hc]
    go_wp2
    go_ret
    exact ⟨rfl, rfl⟩
theorem dig_any (r : Nat) (w : World) : Calls Tryd.prog 56 #[.int .i32 r] w fun e w' => e = .returned (.bool (dgB r)) ∧ w' = w := by
  go_enter Tryd.func56, Tryd.ntmps56
  by_cases h1 : 48 ≤ r
  · by_cases h2 : r ≤ 57
    · have hc : dgB r = true := by simp [dgB, h1, h2]
      have a1 : (48 : Int) ≤ (r : Int) := by omega
      have a2 : (r : Int) ≤ 57 := by omega
      rw [hc]
      go_wp2
      go_ret
      exact ⟨rfl, rfl⟩
    · have hc : dgB r = false := by simp [dgB, h2]
      have a1 : (48 : Int) ≤ (r : Int) := by omega
      have a2 : ¬ (r : Int) ≤ 57 := by omega
      rw [hc]
      go_wp2
      go_ret
      exact ⟨rfl, rfl⟩
  · have hc : dgB r = false := by simp [dgB, h1]
    have a1 : ¬ (48 : Int) ≤ (r : Int) := by omega
    rw [hc]
    go_wp2
    go_ret
    exact ⟨rfl, rfl⟩
theorem sml_any (r : Nat) (w : World) : Calls Tryd.prog 60 #[.int .i32 r] w fun e w' => e = .returned (.bool (smB r)) ∧ w' = w := by
  go_enter Tryd.func60, Tryd.ntmps60
  by_cases h1 : 97 ≤ r
  · by_cases h2 : r ≤ 122
    · have hc : smB r = true := by simp [smB, h1, h2]
      have a1 : (97 : Int) ≤ (r : Int) := by omega
      have a2 : (r : Int) ≤ 122 := by omega
      rw [hc]
      go_wp2
      go_ret
      exact ⟨rfl, rfl⟩
    · have hc : smB r = false := by simp [smB, h2]
      have a1 : (97 : Int) ≤ (r : Int) := by omega
      have a2 : ¬ (r : Int) ≤ 122 := by omega
      rw [hc]
      go_wp2
      go_ret
      exact ⟨rfl, rfl⟩
  · have hc : smB r = false := by simp [smB, h1]
    have a1 : ¬ (97 : Int) ≤ (r : Int) := by omega
    rw [hc]
    go_wp2
    go_ret
    exact ⟨rfl, rfl⟩
theorem nc_any (r : Nat) (w : World) : Calls Tryd.prog 52 #[.int .i32 r] w fun e w' => e = .returned (.bool (ncB r)) ∧ w' = w := by
  have h := hid (cap_any r w)
  have hn : ncB r = !cpB r := rfl
  rw [hn]
  generalize cpB r = b at *
  go_enter Tryd.func52, Tryd.ntmps52
  go_wp2_with (go_at_call 53; refine h.out.mono ?_; rintro e w1 ⟨rfl, rfl⟩)
  go_ret
  exact ⟨rfl, rfl⟩
theorem pt_any (r : Nat) (w : World) : Calls Tryd.prog 51 #[.int .i32 r] w fun e w' => e = .returned (.bool (ptB r)) ∧ w' = w := by
  go_enter Tryd.func51, Tryd.ntmps51
  by_cases h1 : 33 ≤ r
  · by_cases h2 : r ≤ 126
    · by_cases h3 : r = 35
      · have hc : ptB r = false := by simp [ptB, h3]
        rw [hc]
        subst h3
        go_wp2
        go_ret
        exact ⟨rfl, rfl⟩
      · have hc : ptB r = true := by simp [ptB, h1, h2, h3]
        have a1 : (33 : Int) ≤ (r : Int) := by omega
        have a2 : (r : Int) ≤ 126 := by omega
        have a3 : ((r : Int) != 35) = true := by simp; omega
        rw [hc]
        go_wp2
        go_ret
        exact ⟨rfl, rfl⟩
    · have hc : ptB r = false := by simp [ptB, h2]
      have a1 : (33 : Int) ≤ (r : Int) := by omega
      have a2 : ¬ (r : Int) ≤ 126 := by omega
      rw [hc]
      go_wp2
      go_ret
      exact ⟨rfl, rfl⟩
  · have hc : ptB r = false := by simp [ptB, h1]
    have a1 : ¬ (33 : Int) ≤ (r : Int) := by omega
    rw [hc]
    go_wp2
    go_ret
    exact ⟨rfl, rfl⟩
theorem ins_any (r : Nat) (w : World) : Calls Tryd.prog 54 #[.int .i32 r] w fun e w' => e = .returned (.bool (insB r)) ∧ w' = w := by
  go_enter Tryd.func54, Tryd.ntmps54
  by_cases h9 : r = 9
  · have hc : insB r = true := by simp [insB, h9]
    rw [hc]
    subst h9
    go_wp2
    go_ret
    exact ⟨rfl, rfl⟩
  · have b9 : ((r : Int) == 9) = false := by simp; omega
    by_cases h1 : 32 ≤ r
    · by_cases h2 : r = 127
      · have hc : insB r = false := by simp [insB, h2]
        rw [hc]
        subst h2
        go_wp2
        go_ret
        exact ⟨rfl, rfl⟩
      · have hc : insB r = true := by simp [insB, h1, h2]
        have a1 : (32 : Int) ≤ (r : Int) := by omega
        have a3 : ((r : Int) != 127) = true := by simp; omega
        rw [hc]
        go_wp2
        go_ret
        exact ⟨rfl, rfl⟩
    · have hc : insB r = false := by simp [insB, h9]; omega
      have a1 : ¬ (32 : Int) ≤ (r : Int) := by omega
      rw [hc]
      go_wp2
      go_ret
      exact ⟨rfl, rfl⟩
end Go.Proofs.YthefijjdffafkaaDoor
