/-
  What header.Width and the document's do: contracts that the statements' walks use.
-/
import Derived.Test.YtbhhajmfdffdbaaBase
import Derived.Test.YtbhhajmfdffdbaaNumM
import Derived.BigQuiet
import Derived.Deep.QuietTactic
namespace Go.Proofs.Ytbhhajmfdffdbaa
open Go.RowKit
set_option linter.unusedVariables false
set_option maxRecDepth 20000

theorem wid_bad {n told : Int} (h : n < 0 ∨ 4611686018427387903 < n ∨ told < -1 ∨ n ≤ told) : widM n told = 0 := by unfold widM; rw [if_pos h]

set_option maxHeartbeats 1000000 in
theorem width_no (n told : Int) (w : World) (h : n < 0 ∨ 4611686018427387903 < n ∨ told < -1 ∨ n ≤ told) : Calls Try.prog 22 #[.int .i64 n, .int .i64 told] w fun e w' => e = .returned (.int .i64 0) ∧ w = w' := by
  by_cases h1 : n < 0
  · clear h
    go_enter Try.func22, Try.ntmps22
    go_wp2
    go_ret
    exact ⟨rfl, rfl⟩
  by_cases h2 : 4611686018427387903 < n
  · clear h
    go_enter Try.func22, Try.ntmps22
    go_wp2
    go_ret
    exact ⟨rfl, rfl⟩
  by_cases h3 : told < -1
  · clear h
    go_enter Try.func22, Try.ntmps22
    go_wp2
    go_ret
    exact ⟨rfl, rfl⟩
  have h4 : n ≤ told := by omega
  clear h
  go_enter Try.func22, Try.ntmps22
  go_wp2
  go_ret
  exact ⟨rfl, rfl⟩
set_option maxHeartbeats 1000000 in
theorem width_ok (n told : Int) (w : World) (h1 : ¬ n < 0) (h2 : ¬ 4611686018427387903 < n) (h3 : ¬ told < -1) (h4 : ¬ n ≤ told) : Calls Try.prog 22 #[.int .i64 n, .int .i64 told] w fun e w' => e = .returned (.int .i64 (widM n told)) ∧ w = w' := by
  have HW := hid (show widM n told = if n - told < 128 then 1 else if n - told < 32768 then 2 else if n - told < 8388608 then 3 else if n - told < 2147483648 then 4 else 0 from by unfold widM; rw [if_neg (by omega)])
  go_enter Try.func22, Try.ntmps22
  go_wp2
  go_loopw [5] (fun i wr => w = wr ∧ (i = .int .i64 1 ∨ (i = .int .i64 2 ∧ 128 ≤ n - told) ∨ (i = .int .i64 3 ∧ 32768 ≤ n - told) ∨ (i = .int .i64 4 ∧ 8388608 ≤ n - told) ∨ (i = .int .i64 5 ∧ 2147483648 ≤ n - told))) (fun i _ => (5 - intOf i).toNat)
  case atStart => exact ⟨rfl, .inl rfl⟩
  case round =>
    obtain ⟨rfl, rfl | ⟨rfl, hd⟩ | ⟨rfl, hd⟩ | ⟨rfl, hd⟩ | ⟨rfl, hd⟩⟩ := hrel
    · by_cases hx : n - told < 128
      · go_wp2
        go_ret
        exact ⟨by rw [HW.out, if_pos hx]; rfl, rfl⟩
      · go_wp2
        go_roundw
        case rel => first | exact ⟨trivial, by simp; omega⟩ | (simp; omega)
        case measure => simp [intOf]
    · by_cases hx : n - told < 32768
      · go_wp2
        go_ret
        exact ⟨by rw [HW.out, if_neg (by omega), if_pos hx]; rfl, rfl⟩
      · go_wp2
        go_roundw
        case rel => first | exact ⟨trivial, by simp; omega⟩ | (simp; omega)
        case measure => simp [intOf]
    · by_cases hx : n - told < 8388608
      · go_wp2
        go_ret
        exact ⟨by rw [HW.out, if_neg (by omega), if_neg (by omega), if_pos hx]; rfl, rfl⟩
      · go_wp2
        go_roundw
        case rel => first | exact ⟨trivial, by simp; omega⟩ | (simp; omega)
        case measure => simp [intOf]
    · by_cases hx : n - told < 2147483648
      · go_wp2
        go_ret
        exact ⟨by rw [HW.out, if_neg (by omega), if_neg (by omega), if_neg (by omega), if_pos hx]; rfl, rfl⟩
      · go_wp2
        go_roundw
        case rel => first | exact ⟨trivial, by simp; omega⟩ | (simp; omega)
        case measure => simp [intOf]
    · go_wp2
      go_ret
      exact ⟨by rw [HW.out, if_neg (by omega), if_neg (by omega), if_neg (by omega), if_neg (by omega)]; rfl, rfl⟩
theorem width_any (n told : Int) (w : World) : Calls Try.prog 22 #[.int .i64 n, .int .i64 told] w fun e w' => e = .returned (.int .i64 (widM n told)) ∧ w = w' := by
  by_cases h : n < 0 ∨ 4611686018427387903 < n ∨ told < -1 ∨ n ≤ told
  · rw [wid_bad h]; exact width_no n told w h
  · exact width_ok n told w (by omega) (by omega) (by omega) (by omega)
set_option maxHeartbeats 1000000 in
theorem rwidth_no (n told : Int) (w : World) (h : n < 0 ∨ 4611686018427387903 < n ∨ told < -1 ∨ n ≤ told) : Calls Try.prog 23 #[.int .i64 n, .int .i64 told] w fun e w' => e = .returned (.int .i64 0) ∧ w = w' := by
  by_cases h1 : n < 0
  · clear h
    go_enter Try.func23, Try.ntmps23
    go_wp2
    go_ret
    exact ⟨rfl, rfl⟩
  by_cases h2 : 4611686018427387903 < n
  · clear h
    go_enter Try.func23, Try.ntmps23
    go_wp2
    go_ret
    exact ⟨rfl, rfl⟩
  by_cases h3 : told < -1
  · clear h
    go_enter Try.func23, Try.ntmps23
    go_wp2
    go_ret
    exact ⟨rfl, rfl⟩
  have h4 : n ≤ told := by omega
  clear h
  go_enter Try.func23, Try.ntmps23
  go_wp2
  go_ret
  exact ⟨rfl, rfl⟩
set_option maxHeartbeats 1000000 in
theorem rwidth_ok (n told : Int) (w : World) (h1 : ¬ n < 0) (h2 : ¬ 4611686018427387903 < n) (h3 : ¬ told < -1) (h4 : ¬ n ≤ told) : Calls Try.prog 23 #[.int .i64 n, .int .i64 told] w fun e w' => e = .returned (.int .i64 (widM n told)) ∧ w = w' := by
  have HW := hid (show widM n told = if n - told < 128 then 1 else if n - told < 32768 then 2 else if n - told < 8388608 then 3 else if n - told < 2147483648 then 4 else 0 from by unfold widM; rw [if_neg (by omega)])
  go_enter Try.func23, Try.ntmps23
  go_wp2
  go_loopw [5, 6] (fun h i wr => w = wr ∧ ((i = .int .i64 1 ∧ h = .int .i64 128) ∨ (i = .int .i64 2 ∧ h = .int .i64 32768 ∧ 128 ≤ n - told) ∨ (i = .int .i64 3 ∧ h = .int .i64 8388608 ∧ 32768 ≤ n - told) ∨ (i = .int .i64 4 ∧ h = .int .i64 2147483648 ∧ 8388608 ≤ n - told) ∨ (i = .int .i64 5 ∧ h = .int .i64 549755813888 ∧ 2147483648 ≤ n - told))) (fun _ i _ => (5 - intOf i).toNat)
  case atStart => exact ⟨rfl, .inl ⟨rfl, rfl⟩⟩
  case round =>
    obtain ⟨rfl, ⟨rfl, rfl⟩ | ⟨rfl, rfl, hd⟩ | ⟨rfl, rfl, hd⟩ | ⟨rfl, rfl, hd⟩ | ⟨rfl, rfl, hd⟩⟩ := hrel
    · by_cases hx : n - told < 128
      · go_wp2
        go_ret
        exact ⟨by rw [HW.out, if_pos hx]; rfl, rfl⟩
      · go_wp2
        go_roundw
        case rel => first | exact ⟨trivial, by simp; omega⟩ | (simp; omega)
        case measure => simp [intOf]
    · by_cases hx : n - told < 32768
      · go_wp2
        go_ret
        exact ⟨by rw [HW.out, if_neg (by omega), if_pos hx]; rfl, rfl⟩
      · go_wp2
        go_roundw
        case rel => first | exact ⟨trivial, by simp; omega⟩ | (simp; omega)
        case measure => simp [intOf]
    · by_cases hx : n - told < 8388608
      · go_wp2
        go_ret
        exact ⟨by rw [HW.out, if_neg (by omega), if_neg (by omega), if_pos hx]; rfl, rfl⟩
      · go_wp2
        go_roundw
        case rel => first | exact ⟨trivial, by simp; omega⟩ | (simp; omega)
        case measure => simp [intOf]
    · by_cases hx : n - told < 2147483648
      · go_wp2
        go_ret
        exact ⟨by rw [HW.out, if_neg (by omega), if_neg (by omega), if_neg (by omega), if_pos hx]; rfl, rfl⟩
      · go_wp2
        go_roundw
        case rel => first | exact ⟨trivial, by simp; omega⟩ | (simp; omega)
        case measure => simp [intOf]
    · go_wp2
      go_ret
      exact ⟨by rw [HW.out, if_neg (by omega), if_neg (by omega), if_neg (by omega), if_neg (by omega)]; rfl, rfl⟩
theorem rwidth_any (n told : Int) (w : World) : Calls Try.prog 23 #[.int .i64 n, .int .i64 told] w fun e w' => e = .returned (.int .i64 (widM n told)) ∧ w = w' := by
  by_cases h : n < 0 ∨ 4611686018427387903 < n ∨ told < -1 ∨ n ≤ told
  · rw [wid_bad h]; exact rwidth_no n told w h
  · exact rwidth_ok n told w (by omega) (by omega) (by omega) (by omega)
end Go.Proofs.Ytbhhajmfdffdbaa
