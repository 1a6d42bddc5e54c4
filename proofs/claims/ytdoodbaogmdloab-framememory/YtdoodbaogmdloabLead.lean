/-
  What frame.leading does: a contract that the statements' walks use.
-/
import Derived.Test.YtdoodbaogmdloabFr
namespace Go.Proofs.Ytdoodbaogmdloab
open Go.RowKit
set_option linter.unusedVariables false
set_option maxRecDepth 20000

/-- The places of the numbers that are a frame's first items. -/
def lead (k : Int) : List Nat :=
  if k = 4 then [1, 4, 3] else if k = 5 then [1, 4] else if k = 6 then [2] else if k = 8 then [1, 2] else if k = 17 ∨ k = 21 then [1, 3]
  else if k = 16 ∨ k = 18 ∨ k = 19 ∨ k = 20 ∨ k = 22 ∨ k = 23 ∨ k = 25 then [3] else if k = 24 then [3, 2] else if k = 28 then [4, 3] else if k = 29 then [4] else []

/-- A new row of pointers to the cells l of block fb. -/
def Ptrs (B : Nat) (w : World) (fb : Nat) (a : Option Addr) (l : List Nat) : Prop :=
  l ≠ [] → ∃ g, a = some ⟨g, 0, none⟩ ∧ B ≤ g ∧ w.heap[g]? = some (.cells (l.map fun o => Value.pointer (some ⟨fb, o, none⟩)).toArray 89 (0, 0))

theorem lead_no {k : Int} (h4 : k ≠ 4) (h5 : k ≠ 5) (h6 : k ≠ 6) (h8 : k ≠ 8) (h17 : k ≠ 17) (h21 : k ≠ 21) (h16 : k ≠ 16) (h18 : k ≠ 18) (h19 : k ≠ 19) (h20 : k ≠ 20) (h22 : k ≠ 22) (h23 : k ≠ 23) (h25 : k ≠ 25) (h24 : k ≠ 24) (h28 : k ≠ 28) (h29 : k ≠ 29) : lead k = [] := by
  unfold lead
  simp [*]

theorem lead_cases (k : Int) : lead k = [] ∨ k = 4 ∨ k = 5 ∨ k = 6 ∨ k = 8 ∨ k = 17 ∨ k = 21 ∨ k = 16 ∨ k = 18 ∨ k = 19 ∨ k = 20 ∨ k = 22 ∨ k = 23 ∨ k = 25 ∨ k = 24 ∨ k = 28 ∨ k = 29 := by
  by_cases h : k = 4 ∨ k = 5 ∨ k = 6 ∨ k = 8 ∨ k = 17 ∨ k = 21 ∨ k = 16 ∨ k = 18 ∨ k = 19 ∨ k = 20 ∨ k = 22 ∨ k = 23 ∨ k = 25 ∨ k = 24 ∨ k = 28 ∨ k = 29
  · exact .inr h
  · simp only [not_or] at h
    obtain ⟨h4, h5, h6, h8, h17, h21, h16, h18, h19, h20, h22, h23, h25, h24, h28, h29⟩ := h
    exact .inl (lead_no h4 h5 h6 h8 h17 h21 h16 h18 h19 h20 h22 h23 h25 h24 h28 h29)

set_option maxHeartbeats 800000 in
theorem leading_no (fb : Nat) (k : Int) (w : World) (c0 : w.cell? ⟨fb, 0, none⟩ = some (.int .i64 k)) (h : ¬ (k = 4 ∨ k = 5 ∨ k = 6 ∨ k = 8 ∨ k = 17 ∨ k = 21 ∨ k = 16 ∨ k = 18 ∨ k = 19 ∨ k = 20 ∨ k = 22 ∨ k = 23 ∨ k = 25 ∨ k = 24 ∨ k = 28 ∨ k = 29)) :
    Calls Try.prog 48 #[.pointer (some ⟨fb, 0, none⟩)] w fun e w' => e = .returned (.slice none 0 0) ∧ w = w' := by
  have h4 : (k == 4) = false := by simp; omega
  have h5 : (k == 5) = false := by simp; omega
  have h6 : (k == 6) = false := by simp; omega
  have h8 : (k == 8) = false := by simp; omega
  have h17 : (k == 17) = false := by simp; omega
  have h21 : (k == 21) = false := by simp; omega
  have h16 : (k == 16) = false := by simp; omega
  have h18 : (k == 18) = false := by simp; omega
  have h19 : (k == 19) = false := by simp; omega
  have h20 : (k == 20) = false := by simp; omega
  have h22 : (k == 22) = false := by simp; omega
  have h23 : (k == 23) = false := by simp; omega
  have h25 : (k == 25) = false := by simp; omega
  have h24 : (k == 24) = false := by simp; omega
  have h28 : (k == 28) = false := by simp; omega
  have h29 : (k == 29) = false := by simp; omega
  clear h
  go_enter Try.func48, Try.ntmps48
  go_wp2
  go_ret
  exact ⟨rfl, rfl⟩

set_option maxHeartbeats 1600000 in
theorem leading_yes (fb : Nat) (k : Int) (w : World) (c0 : w.cell? ⟨fb, 0, none⟩ = some (.int .i64 k)) (h : k = 4 ∨ k = 5 ∨ k = 6 ∨ k = 8 ∨ k = 17 ∨ k = 21 ∨ k = 16 ∨ k = 18 ∨ k = 19 ∨ k = 20 ∨ k = 22 ∨ k = 23 ∨ k = 25 ∨ k = 24 ∨ k = 28 ∨ k = 29) :
    Calls Try.prog 48 #[.pointer (some ⟨fb, 0, none⟩)] w fun e w' => ∃ a, e = .returned (.slice a (lead k).length (lead k).length) ∧ Q w w' ∧ Ptrs w.heap.size w' fb a (lead k) := by
  rcases h with rfl | rfl | rfl | rfl | rfl | rfl | rfl | rfl | rfl | rfl | rfl | rfl | rfl | rfl | rfl | rfl
  all_goals
    go_enter Try.func48, Try.ntmps48
    go_wp2
    try go_region
    all_goals (try go_wp2)
    all_goals go_ret
    all_goals first
      | exact ⟨some ⟨w.heap.size, 0, none⟩, rfl, ((Q.refl w).alloc _), fun _ => ⟨w.heap.size, rfl, Nat.le_refl _, heap_alloc_new w _⟩⟩
      | exact ⟨some ⟨w.heap.size, 0, none⟩, rfl, ((Q.refl w).drew.alloc _), fun _ => ⟨w.heap.size, rfl, Nat.le_refl _, heap_alloc_new w.drew _⟩⟩
      | exact ⟨some ⟨w.heap.size, 0, none⟩, rfl, ((Q.refl w).alloc _).drew, fun _ => ⟨w.heap.size, rfl, Nat.le_refl _, heap_alloc_new w.drew _⟩⟩
      | skip

theorem leading_any (fb : Nat) (k : Int) (w : World) (c0 : w.cell? ⟨fb, 0, none⟩ = some (.int .i64 k)) :
    Calls Try.prog 48 #[.pointer (some ⟨fb, 0, none⟩)] w fun e w' => ∃ a, e = .returned (.slice a (lead k).length (lead k).length) ∧ Q w w' ∧ Ptrs w.heap.size w' fb a (lead k) := by
  by_cases h : k = 4 ∨ k = 5 ∨ k = 6 ∨ k = 8 ∨ k = 17 ∨ k = 21 ∨ k = 16 ∨ k = 18 ∨ k = 19 ∨ k = 20 ∨ k = 22 ∨ k = 23 ∨ k = 25 ∨ k = 24 ∨ k = 28 ∨ k = 29
  · exact leading_yes fb k w c0 h
  · have e : lead k = [] := by
      rcases lead_cases k with h' | h'
      · exact h'
      · exact absurd h' h
    refine (leading_no fb k w c0 h).mono ?_
    rintro e1 w' ⟨rfl, rfl⟩
    rw [e]
    exact ⟨none, rfl, Q.refl _, fun h => absurd rfl h⟩
end Go.Proofs.Ytdoodbaogmdloab
