/-
  awake: the encoder that it makes, and what its parts do with one field.
-/
import Derived.Test.YtehejibllkmflaaQsF
import Derived.Test.YtehejibllkmflaaPfG
import Derived.Maps.Range
import Derived.Maps.RangeRun
namespace Go.Proofs.Ytehejibllkmflaa
open Go.RowKit
set_option linter.unusedVariables false
set_option maxRecDepth 20000

theorem within_any (n m : Int) (w : World) : Calls Try.prog 15 #[.int .i64 n, .int .i64 m] w fun e w' => e = .returned (.bool (decide (0 ≤ n ∧ n ≤ m))) ∧ w = w' := by
  by_cases h0 : 0 ≤ n
  · by_cases h1 : n ≤ m
    · rw [decide_eq_true (⟨h0, h1⟩ : 0 ≤ n ∧ n ≤ m)]
      go_enter Try.func15, Try.ntmps15
      go_wp2
      go_ret
      exact ⟨rfl, rfl⟩
    · rw [decide_eq_false (fun h => h1 h.2 : ¬ (0 ≤ n ∧ n ≤ m))]
      go_enter Try.func15, Try.ntmps15
      go_wp2
      go_ret
      exact ⟨rfl, rfl⟩
  · rw [decide_eq_false (fun h => h0 h.1 : ¬ (0 ≤ n ∧ n ≤ m))]
    go_enter Try.func15, Try.ntmps15
    go_wp2
    go_ret
    exact ⟨rfl, rfl⟩
/-- The encoder of awake. -/
abbrev e0C (mb : Nat) : Array Value := #[.int .i64 0, .int .i64 0, .int .i64 0, .int .i64 0, .slice none 0 0, .int .i64 0, .map (some mb), .slice none 0 0, .slice none 0 0, .int .i64 0]
structure E0 (w : World) (eb mb : Nat) : Prop where
  e : w.heap[eb]? = some (.cells (e0C mb) 67 (0, 0))
  m : w.heap[mb]? = some (.map #[] 0)
theorem E0.q {w w' : World} {eb mb : Nat} (h : E0 w eb mb) (q : Q w w') : E0 w' eb mb := ⟨(Below.block q _ (lt_of_block h.e)).trans h.e, (Below.block q _ (lt_of_block h.m)).trans h.m⟩
set_option maxHeartbeats 4000000 in
theorem newE_0 (w : World) : Calls Try.prog 13 #[.int .i64 0, .int .i64 0] w fun e w' => ∃ eb mb, e = .returned (.tuple #[.pointer (some ⟨eb, 0, none⟩), .int .i64 0]) ∧ Q w w' ∧ E0 w' eb mb := by
  have HP := hid (fun n m w => within_any n m w)
  have hmm := @run_makeMap Try.prog
  go_enter Try.func13, Try.ntmps13
  go_wp2_with (go_at_call 15; refine (HP.out _ _ _).mono ?_; rintro e w1 ⟨rfl, rfl⟩)
  go_ret2
  have e2 := heap_alloc_new (w.alloc (.map #[] 0)) (.cells (e0C w.heap.size) 67)
  rw [World.size_alloc] at e2
  exact ⟨w.heap.size + 1, w.heap.size, rfl, ((Q.refl w).alloc _).alloc _, e2, (Below.block ((Q.refl (w.alloc (.map #[] 0))).alloc _) _ (by simp)).trans (heap_alloc_new w _)⟩
theorem range_0 {w : World} {mb : Nat} (h : w.heap[mb]? = some (.map #[] 0)) : (Instr.range 65 (.map (some mb))).run Try.prog w = .ok (.pointer (some ⟨w.heap.size, 0, none⟩)) (w.alloc (.mapIter (some mb) 0 #[] 0)) :=
  run_range_map w 65 3 75 mb #[] 0 (by kernel_rfl) h
theorem next_0 {w : World} {mb r : Nat} (ty : TypeId) (h : w.heap[mb]? = some (.map #[] 0)) (hr : w.heap[r]? = some (.mapIter (some mb) 0 #[] 0)) : (Instr.next (.pointer (some ⟨r, 0, none⟩)) false ty).run Try.prog w = .ok (.tuple #[.bool false]) w := by
  rcases run_next_at (P := Try.prog) w ty r mb 0 0 #[] #[] 0 hr h (by simp) (Nat.le_refl _) with h1 | ⟨e, he, _⟩
  · exact h1.2
  · simp [leftOf] at he
set_option maxHeartbeats 4000000 in
theorem free_0 (eb mb : Nat) (w : World) (h : E0 w eb mb) : Calls Try.prog 26 #[.pointer (some ⟨eb, 0, none⟩)] w fun e w' => e = .returned (.int .i64 0) ∧ Q w w' := by
  have c5 : w.cell? ⟨eb, 5, none⟩ = some (.int .i64 0) := by rw [cell_of_row w _ 5 _ 67 (0, 0) h.e]; rfl
  have c6 : w.cell? ⟨eb, 6, none⟩ = some (.map (some mb)) := by rw [cell_of_row w _ 6 _ 67 (0, 0) h.e]; rfl
  have hrg := range_0 h.m
  have hnx := fun ty => next_0 (w := w.alloc (.mapIter (some mb) 0 #[] 0)) (r := w.heap.size) ty ((Below.block ((Q.refl w).alloc _) _ (lt_of_block h.m)).trans h.m) (heap_alloc_new w _)
  clear h
  go_enter Try.func26, Try.ntmps26
  go_wp2
  go_loopw [3] (fun f wr => f = .int .i64 0 ∧ wr = w.alloc (.mapIter (some mb) 0 #[] 0)) (fun _ _ => 0)
  case atStart => exact ⟨rfl, rfl⟩
  case round =>
    obtain ⟨rfl, rfl⟩ := hrel
    go_wp2
    go_ret
    exact ⟨rfl, (Q.refl w).alloc _⟩
theorem sizeF_any (s t : ByteArray) (w : World) (hs : s.size ≤ 1000000000) (ht : t.size ≤ 1000000000) : Calls Try.prog 45 #[.agg #[.string s, .string t]] w fun e w' => e = .returned (.int .i64 (32 + (s.size : Int) + (t.size : Int))) ∧ Q w w' := by
  go_enter Try.func45, Try.ntmps45
  go_wp2
  go_ret
  exact ⟨rfl, (Q.refl w).alloc _⟩
/-- A number behind a prefix, a text behind one. -/
theorem num_any (n b f : Int) (w : World) (h0 : 0 ≤ f) (h1 : f < 256) : Calls Try.prog 21 #[.int .i64 n, .int .i64 b, .int .u8 f] w fun e w' => ∃ x : Sv, e = .returned (.slice x.a x.n x.c) ∧ Q w w' ∧ Row w' x (puB n b f) ∧ New w.heap.size x := by
  have HP := hid (put_any n b f w h0 h1)
  go_enter Try.func21, Try.ntmps21
  go_wp2_with (go_at_call 42; refine HP.out.mono ?_; rintro e w1 ⟨⟨xa, xn, xc⟩, rfl, q1, r1, n1⟩)
  go_ret
  exact ⟨⟨xa, xn, xc⟩, rfl, q1, r1, n1⟩
theorem text_any (s : ByteArray) (b f : Int) (w : World) (h0 : 0 ≤ f) (h1 : f < 256) (hms : s.size ≤ 9223372036854775807) : Calls Try.prog 69 #[.string s, .int .i64 b, .int .u8 f] w fun e w' => ∃ x : Sv, e = .returned (.slice x.a x.n x.c) ∧ Q w w' ∧ Row w' x (ptB (sb s) b f) ∧ New w.heap.size x := by
  have HP := hid (putText_any s b f w h0 h1 hms)
  go_enter Try.func69, Try.ntmps69
  go_wp2_with (go_at_call 82; refine HP.out.mono ?_; rintro e w1 ⟨⟨xa, xn, xc⟩, rfl, q1, r1, n1⟩)
  go_ret
  exact ⟨⟨xa, xn, xc⟩, rfl, q1, r1, n1⟩
theorem count_0 (eb mb : Nat) (w : World) (h : E0 w eb mb) : Calls Try.prog 16 #[.pointer (some ⟨eb, 1, none⟩)] w fun e w' => e = .returned (.int .i64 0) ∧ Q w w' := by
  have c3 : w.cell? ⟨eb, 3, none⟩ = some (.int .i64 0) := by rw [cell_of_row w _ 3 _ 67 (0, 0) h.e]; rfl
  have c4 : w.cell? ⟨eb, 4, none⟩ = some (.slice none 0 0) := by rw [cell_of_row w _ 4 _ 67 (0, 0) h.e]; rfl
  go_enter Try.func16, Try.ntmps16
  go_wp2
  go_quiet (fail)
  go_wp2
  go_ret
  exact ⟨rfl, (Q.refl w).drewN _⟩
set_option maxHeartbeats 4000000 in
theorem last_0 (eb mb : Nat) (s t : ByteArray) (w : World) (h : E0 w eb mb) : Calls Try.prog 48 #[.pointer (some ⟨eb, 1, none⟩), .agg #[.string s, .string t], .int .i64 0] w fun e w' => e = .returned (.tuple #[.int .i64 0, .bool false]) ∧ Q w w' := by
  have HE := hid (h.q ((Q.refl w).alloc (.cells #[.string s, .string t] 23)))
  have HC := hid (count_0 eb mb _ HE.out)
  clear h
  go_enter Try.func48, Try.ntmps48
  go_wp2_with (go_at_call 16; refine HC.out.mono ?_; rintro e w1 ⟨rfl, q1⟩)
  have HE1 := hid (HE.out.q q1)
  have HQ1 := hid (((Q.refl w).alloc (.cells #[.string s, .string t] 23)).trans q1)
  go_loopw [8] (fun n wr => n = .int .i64 (-1) ∧ wr = w1) (fun _ _ => 0)
  case atStart => exact ⟨rfl, rfl⟩
  case round =>
    obtain ⟨rfl, rfl⟩ := hrel
    have c3 : wr.cell? ⟨eb, 3, none⟩ = some (.int .i64 0) := by rw [cell_of_row _ _ 3 _ 67 (0, 0) HE1.out.e]; rfl
    go_wp2
    go_ret2
    exact ⟨rfl, HQ1.out⟩
end Go.Proofs.Ytehejibllkmflaa
