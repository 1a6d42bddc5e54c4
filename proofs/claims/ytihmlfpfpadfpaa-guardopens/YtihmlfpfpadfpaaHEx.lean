/-
  What header.Expand and the document's do at all numbers: contracts that the statements' walks use.
-/
import Derived.Test.YtihmlfpfpadfpaaHRExp
namespace Go.Proofs.Ytihmlfpfpadfpaa
open Go.RowKit
set_option linter.unusedVariables false
set_option maxRecDepth 20000

/-- What Expand tells. -/
def expM (high part width : Int) : Int := if width < 1 ∨ 4 < width ∨ high < -1 ∨ 4611686018427387903 < high ∨ part < 0 ∨ stp width ≤ part then 0 else expP high part (stp width)
theorem expM_bad {high part width : Int} (h : width < 1 ∨ 4 < width ∨ high < -1 ∨ 4611686018427387903 < high ∨ part < 0 ∨ stp width ≤ part) : expM high part width = 0 := by unfold expM; rw [if_pos h]
set_option maxHeartbeats 2000000 in
theorem expand_no (high part width : Int) (w : World) (h : width < 1 ∨ 4 < width ∨ high < -1 ∨ 4611686018427387903 < high ∨ part < 0) : Calls Try.prog 75 #[.int .i64 high, .int .i64 part, .int .i64 width] w fun e w' => e = .returned (.int .i64 0) ∧ w = w' := by
  by_cases h1 : width < 1
  · clear h
    go_enter Try.func75, Try.ntmps75
    go_wp2
    go_ret
    exact ⟨rfl, rfl⟩
  by_cases h2 : 4 < width
  · clear h
    go_enter Try.func75, Try.ntmps75
    go_wp2
    go_ret
    exact ⟨rfl, rfl⟩
  by_cases h3 : high < -1
  · clear h
    go_enter Try.func75, Try.ntmps75
    go_wp2
    go_ret
    exact ⟨rfl, rfl⟩
  by_cases h4 : 4611686018427387903 < high
  · clear h
    go_enter Try.func75, Try.ntmps75
    go_wp2
    go_ret
    exact ⟨rfl, rfl⟩
  have h5 : part < 0 := by omega
  have hw : width = 1 ∨ width = 2 ∨ width = 3 ∨ width = 4 := by omega
  clear h
  rcases hw with rfl | rfl | rfl | rfl
  all_goals
    go_enter Try.func75, Try.ntmps75
    go_wp2
    go_ret
    exact ⟨rfl, rfl⟩
set_option maxHeartbeats 2000000 in
theorem rexpand_no (high part width : Int) (w : World) (h : width < 1 ∨ 4 < width ∨ high < -1 ∨ 4611686018427387903 < high ∨ part < 0) : Calls Try.prog 79 #[.int .i64 high, .int .i64 part, .int .i64 width] w fun e w' => e = .returned (.int .i64 0) ∧ w = w' := by
  by_cases h1 : width < 1
  · clear h
    go_enter Try.func79, Try.ntmps79
    go_wp2
    go_ret
    exact ⟨rfl, rfl⟩
  by_cases h2 : 4 < width
  · clear h
    go_enter Try.func79, Try.ntmps79
    go_wp2
    go_ret
    exact ⟨rfl, rfl⟩
  by_cases h3 : high < -1
  · clear h
    go_enter Try.func79, Try.ntmps79
    go_wp2
    go_ret
    exact ⟨rfl, rfl⟩
  by_cases h4 : 4611686018427387903 < high
  · clear h
    go_enter Try.func79, Try.ntmps79
    go_wp2
    go_ret
    exact ⟨rfl, rfl⟩
  have h5 : part < 0 := by omega
  clear h
  go_enter Try.func79, Try.ntmps79
  go_wp2
  go_ret
  exact ⟨rfl, rfl⟩
set_option maxHeartbeats 2000000 in
theorem expand_no1 (high part : Int) (w : World) (h1 : -1 ≤ high) (h2 : high ≤ 4611686018427387903) (p0 : 0 ≤ part) (hp : 256 ≤ part) : Calls Try.prog 75 #[.int .i64 high, .int .i64 part, .int .i64 1] w fun e w' => e = .returned (.int .i64 0) ∧ w = w' := by
  go_enter Try.func75, Try.ntmps75
  go_wp2
  go_ret
  exact ⟨rfl, rfl⟩
set_option maxHeartbeats 2000000 in
theorem rexpand_no1 (high part : Int) (w : World) (h1 : -1 ≤ high) (h2 : high ≤ 4611686018427387903) (p0 : 0 ≤ part) (hp : 256 ≤ part) : Calls Try.prog 79 #[.int .i64 high, .int .i64 part, .int .i64 1] w fun e w' => e = .returned (.int .i64 0) ∧ w = w' := by
  go_enter Try.func79, Try.ntmps79
  go_wp2
  go_loopw [7, 8] (fun s j wr => w = wr ∧ ((j = .int .i64 0 ∧ s = .int .i64 1) ∨ (j = .int .i64 1 ∧ s = .int .i64 256))) (fun _ j _ => (1 - intOf j).toNat)
  case atStart => exact ⟨rfl, .inl ⟨rfl, rfl⟩⟩
  case round =>
    obtain ⟨rfl, ⟨rfl, rfl⟩ | ⟨rfl, rfl⟩⟩ := hrel
    · go_wp2
      go_roundw
      case rel => first | exact ⟨rfl, by simp⟩ | exact ⟨trivial, by simp⟩ | simp
      case measure => simp [intOf]
    · go_wp2
      go_ret
      exact ⟨rfl, rfl⟩
set_option maxHeartbeats 2000000 in
theorem expand_no2 (high part : Int) (w : World) (h1 : -1 ≤ high) (h2 : high ≤ 4611686018427387903) (p0 : 0 ≤ part) (hp : 65536 ≤ part) : Calls Try.prog 75 #[.int .i64 high, .int .i64 part, .int .i64 2] w fun e w' => e = .returned (.int .i64 0) ∧ w = w' := by
  go_enter Try.func75, Try.ntmps75
  go_wp2
  go_ret
  exact ⟨rfl, rfl⟩
set_option maxHeartbeats 2000000 in
theorem rexpand_no2 (high part : Int) (w : World) (h1 : -1 ≤ high) (h2 : high ≤ 4611686018427387903) (p0 : 0 ≤ part) (hp : 65536 ≤ part) : Calls Try.prog 79 #[.int .i64 high, .int .i64 part, .int .i64 2] w fun e w' => e = .returned (.int .i64 0) ∧ w = w' := by
  go_enter Try.func79, Try.ntmps79
  go_wp2
  go_loopw [7, 8] (fun s j wr => w = wr ∧ ((j = .int .i64 0 ∧ s = .int .i64 1) ∨ (j = .int .i64 1 ∧ s = .int .i64 256) ∨ (j = .int .i64 2 ∧ s = .int .i64 65536))) (fun _ j _ => (2 - intOf j).toNat)
  case atStart => exact ⟨rfl, .inl ⟨rfl, rfl⟩⟩
  case round =>
    obtain ⟨rfl, ⟨rfl, rfl⟩ | ⟨rfl, rfl⟩ | ⟨rfl, rfl⟩⟩ := hrel
    · go_wp2
      go_roundw
      case rel => first | exact ⟨rfl, by simp⟩ | exact ⟨trivial, by simp⟩ | simp
      case measure => simp [intOf]
    · go_wp2
      go_roundw
      case rel => first | exact ⟨rfl, by simp⟩ | exact ⟨trivial, by simp⟩ | simp
      case measure => simp [intOf]
    · go_wp2
      go_ret
      exact ⟨rfl, rfl⟩
set_option maxHeartbeats 2000000 in
theorem expand_no3 (high part : Int) (w : World) (h1 : -1 ≤ high) (h2 : high ≤ 4611686018427387903) (p0 : 0 ≤ part) (hp : 16777216 ≤ part) : Calls Try.prog 75 #[.int .i64 high, .int .i64 part, .int .i64 3] w fun e w' => e = .returned (.int .i64 0) ∧ w = w' := by
  go_enter Try.func75, Try.ntmps75
  go_wp2
  go_ret
  exact ⟨rfl, rfl⟩
set_option maxHeartbeats 2000000 in
theorem rexpand_no3 (high part : Int) (w : World) (h1 : -1 ≤ high) (h2 : high ≤ 4611686018427387903) (p0 : 0 ≤ part) (hp : 16777216 ≤ part) : Calls Try.prog 79 #[.int .i64 high, .int .i64 part, .int .i64 3] w fun e w' => e = .returned (.int .i64 0) ∧ w = w' := by
  go_enter Try.func79, Try.ntmps79
  go_wp2
  go_loopw [7, 8] (fun s j wr => w = wr ∧ ((j = .int .i64 0 ∧ s = .int .i64 1) ∨ (j = .int .i64 1 ∧ s = .int .i64 256) ∨ (j = .int .i64 2 ∧ s = .int .i64 65536) ∨ (j = .int .i64 3 ∧ s = .int .i64 16777216))) (fun _ j _ => (3 - intOf j).toNat)
  case atStart => exact ⟨rfl, .inl ⟨rfl, rfl⟩⟩
  case round =>
    obtain ⟨rfl, ⟨rfl, rfl⟩ | ⟨rfl, rfl⟩ | ⟨rfl, rfl⟩ | ⟨rfl, rfl⟩⟩ := hrel
    · go_wp2
      go_roundw
      case rel => first | exact ⟨rfl, by simp⟩ | exact ⟨trivial, by simp⟩ | simp
      case measure => simp [intOf]
    · go_wp2
      go_roundw
      case rel => first | exact ⟨rfl, by simp⟩ | exact ⟨trivial, by simp⟩ | simp
      case measure => simp [intOf]
    · go_wp2
      go_roundw
      case rel => first | exact ⟨rfl, by simp⟩ | exact ⟨trivial, by simp⟩ | simp
      case measure => simp [intOf]
    · go_wp2
      go_ret
      exact ⟨rfl, rfl⟩
set_option maxHeartbeats 2000000 in
theorem expand_no4 (high part : Int) (w : World) (h1 : -1 ≤ high) (h2 : high ≤ 4611686018427387903) (p0 : 0 ≤ part) (hp : 4294967296 ≤ part) : Calls Try.prog 75 #[.int .i64 high, .int .i64 part, .int .i64 4] w fun e w' => e = .returned (.int .i64 0) ∧ w = w' := by
  go_enter Try.func75, Try.ntmps75
  go_wp2
  go_ret
  exact ⟨rfl, rfl⟩
set_option maxHeartbeats 2000000 in
theorem rexpand_no4 (high part : Int) (w : World) (h1 : -1 ≤ high) (h2 : high ≤ 4611686018427387903) (p0 : 0 ≤ part) (hp : 4294967296 ≤ part) : Calls Try.prog 79 #[.int .i64 high, .int .i64 part, .int .i64 4] w fun e w' => e = .returned (.int .i64 0) ∧ w = w' := by
  go_enter Try.func79, Try.ntmps79
  go_wp2
  go_loopw [7, 8] (fun s j wr => w = wr ∧ ((j = .int .i64 0 ∧ s = .int .i64 1) ∨ (j = .int .i64 1 ∧ s = .int .i64 256) ∨ (j = .int .i64 2 ∧ s = .int .i64 65536) ∨ (j = .int .i64 3 ∧ s = .int .i64 16777216) ∨ (j = .int .i64 4 ∧ s = .int .i64 4294967296))) (fun _ j _ => (4 - intOf j).toNat)
  case atStart => exact ⟨rfl, .inl ⟨rfl, rfl⟩⟩
  case round =>
    obtain ⟨rfl, ⟨rfl, rfl⟩ | ⟨rfl, rfl⟩ | ⟨rfl, rfl⟩ | ⟨rfl, rfl⟩ | ⟨rfl, rfl⟩⟩ := hrel
    · go_wp2
      go_roundw
      case rel => first | exact ⟨rfl, by simp⟩ | exact ⟨trivial, by simp⟩ | simp
      case measure => simp [intOf]
    · go_wp2
      go_roundw
      case rel => first | exact ⟨rfl, by simp⟩ | exact ⟨trivial, by simp⟩ | simp
      case measure => simp [intOf]
    · go_wp2
      go_roundw
      case rel => first | exact ⟨rfl, by simp⟩ | exact ⟨trivial, by simp⟩ | simp
      case measure => simp [intOf]
    · go_wp2
      go_roundw
      case rel => first | exact ⟨rfl, by simp⟩ | exact ⟨trivial, by simp⟩ | simp
      case measure => simp [intOf]
    · go_wp2
      go_ret
      exact ⟨rfl, rfl⟩
theorem hexpand_any (high part width : Int) (w : World) : Calls Try.prog 75 #[.int .i64 high, .int .i64 part, .int .i64 width] w fun e w' => e = .returned (.int .i64 (expM high part width)) ∧ w = w' := by
  by_cases h : width < 1 ∨ 4 < width ∨ high < -1 ∨ 4611686018427387903 < high ∨ part < 0
  · rw [expM_bad (by omega)]; exact expand_no high part width w h
  have hs := stp_cases (w := width) (by omega) (by omega)
  by_cases hp : stp width ≤ part
  · rw [expM_bad (.inr (.inr (.inr (.inr (.inr hp)))))]
    rcases hs with ⟨rfl, e⟩ | ⟨rfl, e⟩ | ⟨rfl, e⟩ | ⟨rfl, e⟩ <;> rw [e] at hp
    · exact expand_no1 high part w (by omega) (by omega) (by omega) hp
    · exact expand_no2 high part w (by omega) (by omega) (by omega) hp
    · exact expand_no3 high part w (by omega) (by omega) (by omega) hp
    · exact expand_no4 high part w (by omega) (by omega) (by omega) hp
  have e0 : expM high part width = expP high part (stp width) := by unfold expM; rw [if_neg (by omega)]
  rw [e0]
  rcases hs with ⟨rfl, e⟩ | ⟨rfl, e⟩ | ⟨rfl, e⟩ | ⟨rfl, e⟩ <;> rw [e] at hp ⊢
  · have hN := near_bits 8 256 (high + 1) part (by decide) (by omega) (by omega) (by omega) (by omega) (by omega)
    have hr := near_range (S := 256) (want := high + 1) (part := part) (by omega) (by omega) (by omega) (by omega)
    exact expand_1 high part _ (high + 1) w rfl (by omega) (by omega) (by omega) (by omega) hN (by unfold nearE at *; omega) (by unfold nearE; omega)
  · have hN := near_bits 16 65536 (high + 1) part (by decide) (by omega) (by omega) (by omega) (by omega) (by omega)
    have hr := near_range (S := 65536) (want := high + 1) (part := part) (by omega) (by omega) (by omega) (by omega)
    exact expand_2 high part _ (high + 1) w rfl (by omega) (by omega) (by omega) (by omega) hN (by unfold nearE at *; omega) (by unfold nearE; omega)
  · have hN := near_bits 24 16777216 (high + 1) part (by decide) (by omega) (by omega) (by omega) (by omega) (by omega)
    have hr := near_range (S := 16777216) (want := high + 1) (part := part) (by omega) (by omega) (by omega) (by omega)
    exact expand_3 high part _ (high + 1) w rfl (by omega) (by omega) (by omega) (by omega) hN (by unfold nearE at *; omega) (by unfold nearE; omega)
  · have hN := near_bits 32 4294967296 (high + 1) part (by decide) (by omega) (by omega) (by omega) (by omega) (by omega)
    have hr := near_range (S := 4294967296) (want := high + 1) (part := part) (by omega) (by omega) (by omega) (by omega)
    exact expand_4 high part _ (high + 1) w rfl (by omega) (by omega) (by omega) (by omega) hN (by unfold nearE at *; omega) (by unfold nearE; omega)
theorem hrexpand_any (high part width : Int) (w : World) : Calls Try.prog 79 #[.int .i64 high, .int .i64 part, .int .i64 width] w fun e w' => e = .returned (.int .i64 (expM high part width)) ∧ w = w' := by
  by_cases h : width < 1 ∨ 4 < width ∨ high < -1 ∨ 4611686018427387903 < high ∨ part < 0
  · rw [expM_bad (by omega)]; exact rexpand_no high part width w h
  have hs := stp_cases (w := width) (by omega) (by omega)
  by_cases hp : stp width ≤ part
  · rw [expM_bad (.inr (.inr (.inr (.inr (.inr hp)))))]
    rcases hs with ⟨rfl, e⟩ | ⟨rfl, e⟩ | ⟨rfl, e⟩ | ⟨rfl, e⟩ <;> rw [e] at hp
    · exact rexpand_no1 high part w (by omega) (by omega) (by omega) hp
    · exact rexpand_no2 high part w (by omega) (by omega) (by omega) hp
    · exact rexpand_no3 high part w (by omega) (by omega) (by omega) hp
    · exact rexpand_no4 high part w (by omega) (by omega) (by omega) hp
  have e0 : expM high part width = expD high part (stp width) := by
    unfold expM; rw [if_neg (by omega)]
    exact exp_eq (by rcases hs with h | h | h | h <;> omega) (by omega) (by omega) (by omega) (by omega)
  rw [e0]
  rcases hs with ⟨rfl, e⟩ | ⟨rfl, e⟩ | ⟨rfl, e⟩ | ⟨rfl, e⟩ <;> rw [e] at hp ⊢
  · have e1 : expD high part 256 = (ds (high + 1) (ds (high + 1) (ds (high + 1) (0, false) (((high + 1) / 256 - 1) * 256 + part)) ((high + 1) / 256 * 256 + part)) (((high + 1) / 256 + 1) * 256 + part)).1 := by
      unfold expD nearE
      rw [show (high + 1) / 256 * 256 + part - 256 = ((high + 1) / 256 - 1) * 256 + part by omega, show (high + 1) / 256 * 256 + part + 256 = ((high + 1) / 256 + 1) * 256 + part by omega]
    rw [e1]
    exact rexpand_1 high part _ (high + 1) w rfl (by omega) (by omega) (by omega) (by omega) rfl
  · have e1 : expD high part 65536 = (ds (high + 1) (ds (high + 1) (ds (high + 1) (0, false) (((high + 1) / 65536 - 1) * 65536 + part)) ((high + 1) / 65536 * 65536 + part)) (((high + 1) / 65536 + 1) * 65536 + part)).1 := by
      unfold expD nearE
      rw [show (high + 1) / 65536 * 65536 + part - 65536 = ((high + 1) / 65536 - 1) * 65536 + part by omega, show (high + 1) / 65536 * 65536 + part + 65536 = ((high + 1) / 65536 + 1) * 65536 + part by omega]
    rw [e1]
    exact rexpand_2 high part _ (high + 1) w rfl (by omega) (by omega) (by omega) (by omega) rfl
  · have e1 : expD high part 16777216 = (ds (high + 1) (ds (high + 1) (ds (high + 1) (0, false) (((high + 1) / 16777216 - 1) * 16777216 + part)) ((high + 1) / 16777216 * 16777216 + part)) (((high + 1) / 16777216 + 1) * 16777216 + part)).1 := by
      unfold expD nearE
      rw [show (high + 1) / 16777216 * 16777216 + part - 16777216 = ((high + 1) / 16777216 - 1) * 16777216 + part by omega, show (high + 1) / 16777216 * 16777216 + part + 16777216 = ((high + 1) / 16777216 + 1) * 16777216 + part by omega]
    rw [e1]
    exact rexpand_3 high part _ (high + 1) w rfl (by omega) (by omega) (by omega) (by omega) rfl
  · have e1 : expD high part 4294967296 = (ds (high + 1) (ds (high + 1) (ds (high + 1) (0, false) (((high + 1) / 4294967296 - 1) * 4294967296 + part)) ((high + 1) / 4294967296 * 4294967296 + part)) (((high + 1) / 4294967296 + 1) * 4294967296 + part)).1 := by
      unfold expD nearE
      rw [show (high + 1) / 4294967296 * 4294967296 + part - 4294967296 = ((high + 1) / 4294967296 - 1) * 4294967296 + part by omega, show (high + 1) / 4294967296 * 4294967296 + part + 4294967296 = ((high + 1) / 4294967296 + 1) * 4294967296 + part by omega]
    rw [e1]
    exact rexpand_4 high part _ (high + 1) w rfl (by omega) (by omega) (by omega) (by omega) rfl
end Go.Proofs.Ytihmlfpfpadfpaa
