/-
  A buffer in memory, and what the program's New, Final, Ready, Offset, High, Held and the inner breaksFinal answer: contracts that the statements' walks use.
-/
import Derived.Test.YtdgkeidpoodmeaaBase
import Derived.Test.YtdgkeidpoodmeaaMathTwo
import Derived.BigQuiet
import Derived.Deep.QuietTactic
namespace Go.Proofs.Ytdgkeidpoodmeaa
open Go.RowKit
set_option linter.unusedVariables false

theorem ret_int {k : IntKind} {a b : Int} (h : a = b) : Ending.returned (.int k a) = .returned (.int k b) := by rw [h]
theorem ret_bool {a b : Bool} (h : a = b) : Ending.returned (.bool a) = .returned (.bool b) := by rw [h]

/-! ### slots in memory -/
def flat2 (xs : Sl) : List Value := xs.flatMap fun o => [.int .u8 (o.getD 0), .bool o.isSome]
theorem flat2_cons (x : Option Int) (r : Sl) : flat2 (x :: r) = .int .u8 (x.getD 0) :: .bool x.isSome :: flat2 r := rfl
theorem flat2_len (xs : Sl) : (flat2 xs).length = xs.length * 2 := by
  induction xs with
  | nil => rfl
  | cons x r ih => rw [flat2_cons]; simp only [List.length_cons, ih]; omega
theorem flat2_append (xs ys : Sl) : flat2 (xs ++ ys) = flat2 xs ++ flat2 ys := by simp [flat2]
theorem flat2_drop (xs : Sl) (k : Nat) : (flat2 xs).drop (k * 2) = flat2 (xs.drop k) := by
  induction xs generalizing k with
  | nil => simp [flat2]
  | cons x r ih =>
    cases k with
    | zero => simp
    | succ k => rw [flat2_cons, show (k + 1) * 2 = k * 2 + 1 + 1 by omega, List.drop_succ_cons, List.drop_succ_cons, ih, List.drop_succ_cons]
theorem flat2_get0 (xs : Sl) (k : Nat) (h : k < xs.length) : (flat2 xs)[k * 2]? = some (.int .u8 ((at_ xs k).getD 0)) := by
  induction xs generalizing k with
  | nil => simp at h
  | cons x r ih =>
    cases k with
    | zero => rfl
    | succ k => rw [flat2_cons, show (k + 1) * 2 = k * 2 + 1 + 1 by omega, List.getElem?_cons_succ, List.getElem?_cons_succ, ih k (by simpa using h), at_succ]
theorem flat2_get1 (xs : Sl) (k : Nat) (h : k < xs.length) : (flat2 xs)[k * 2 + 1]? = some (.bool (at_ xs k).isSome) := by
  induction xs generalizing k with
  | nil => simp at h
  | cons x r ih =>
    cases k with
    | zero => rfl
    | succ k => rw [flat2_cons, show (k + 1) * 2 + 1 = k * 2 + 1 + 1 + 1 by omega, List.getElem?_cons_succ, List.getElem?_cons_succ, ih k (by simpa using h), at_succ]
theorem flat2_set (xs : Sl) (k : Nat) (v : Int) : ((flat2 xs).set (k * 2) (.int .u8 v)).set (k * 2 + 1) (.bool true) = flat2 (xs.set k (some v)) := by
  induction xs generalizing k with
  | nil => rfl
  | cons x r ih =>
    cases k with
    | zero => rfl
    | succ k =>
      rw [flat2_cons, show (k + 1) * 2 = k * 2 + 1 + 1 by omega, List.set_cons_succ, List.set_cons_succ, List.set_cons_succ, List.set_cons_succ, ih, List.set_cons_succ, flat2_cons]
theorem flat2_zeros (m : Nat) : (Builtin.zeroCells #[.int .u8 0, .bool false] m).toList = flat2 (List.replicate m none) := by
  apply List.ext_getElem?
  intro j
  by_cases hj : j < m * 2
  · have e1 : (Builtin.zeroCells #[.int .u8 0, .bool false] m).toList[j]? = some (#[Value.int .u8 0, Value.bool false][j % 2]!) := by
      simp [Builtin.zeroCells, hj]
    rw [e1]
    have hat : ∀ k, at_ (List.replicate m none) k = none := by
      intro k; unfold at_; rw [List.getD_eq_getElem?_getD, List.getElem?_replicate]; split <;> rfl
    have : j % 2 = 0 ∨ j % 2 = 1 := by omega
    rcases this with h | h
    · obtain ⟨k, rfl⟩ : ∃ k, j = k * 2 := ⟨j / 2, by omega⟩
      rw [flat2_get0 _ k (by simp; omega), hat, h]; rfl
    · obtain ⟨k, rfl⟩ : ∃ k, j = k * 2 + 1 := ⟨j / 2, by omega⟩
      rw [flat2_get1 _ k (by simp; omega), hat, h]; rfl
  · rw [List.getElem?_eq_none (by simp [Builtin.zeroCells]; omega), List.getElem?_eq_none (by rw [flat2_len]; simp; omega)]

/-- The cells of the slot number k. -/
theorem slot_cells {w : World} {a : Option Addr} {n c k : Nat} {xs : Sl} (h : Sub w 62 2 a n c (flat2 xs)) (hk : k < n) :
    ∃ g off, a = some ⟨g, off, none⟩ ∧ (∀ j, w.frozen? ⟨g, j, none⟩ = false) ∧ w.cell? ⟨g, off + k * 2, none⟩ = some (.int .u8 ((at_ xs k).getD 0)) ∧ w.cell? ⟨g, off + k * 2 + 1, none⟩ = some (.bool (at_ xs k).isSome) := by
  have hl : xs.length = n := by have := h.1; rw [flat2_len] at this; omega
  obtain ⟨g, off, rfl, hf, hc⟩ := h.some_ (by omega)
  exact ⟨g, off, rfl, hf, hc _ _ (flat2_get0 xs k (by omega)), by rw [Nat.add_assoc]; exact hc _ _ (flat2_get1 xs k (by omega))⟩

/-! ### the program's buffer -/
def Hd (w : World) (rb : Nat) (room off high fin : Int) (known : Bool) (ready held : Int) (a : Option Addr) (n c : Nat) : Prop :=
  w.heap[rb]? = some (.cells #[.int .i64 room, .int .i64 off, .int .i64 high, .int .i64 fin, .bool known, .int .i64 ready, .int .i64 held, .slice a n c] 60 (0, 0))
section
variable {w w' : World} {rb : Nat} {room off high fin : Int} {known : Bool} {ready held : Int} {a : Option Addr} {n c : Nat}
theorem Hd.c0 (h : Hd w rb room off high fin known ready held a n c) : w.cell? ⟨rb, 0, none⟩ = some (.int .i64 room) := by rw [cell_of_row w rb 0 _ 60 (0, 0) h]; rfl
theorem Hd.c1 (h : Hd w rb room off high fin known ready held a n c) : w.cell? ⟨rb, 1, none⟩ = some (.int .i64 off) := by rw [cell_of_row w rb 1 _ 60 (0, 0) h]; rfl
theorem Hd.c2 (h : Hd w rb room off high fin known ready held a n c) : w.cell? ⟨rb, 2, none⟩ = some (.int .i64 high) := by rw [cell_of_row w rb 2 _ 60 (0, 0) h]; rfl
theorem Hd.c3 (h : Hd w rb room off high fin known ready held a n c) : w.cell? ⟨rb, 3, none⟩ = some (.int .i64 fin) := by rw [cell_of_row w rb 3 _ 60 (0, 0) h]; rfl
theorem Hd.c4 (h : Hd w rb room off high fin known ready held a n c) : w.cell? ⟨rb, 4, none⟩ = some (.bool known) := by rw [cell_of_row w rb 4 _ 60 (0, 0) h]; rfl
theorem Hd.c5 (h : Hd w rb room off high fin known ready held a n c) : w.cell? ⟨rb, 5, none⟩ = some (.int .i64 ready) := by rw [cell_of_row w rb 5 _ 60 (0, 0) h]; rfl
theorem Hd.c6 (h : Hd w rb room off high fin known ready held a n c) : w.cell? ⟨rb, 6, none⟩ = some (.int .i64 held) := by rw [cell_of_row w rb 6 _ 60 (0, 0) h]; rfl
theorem Hd.c7 (h : Hd w rb room off high fin known ready held a n c) : w.cell? ⟨rb, 7, none⟩ = some (.slice a n c) := by rw [cell_of_row w rb 7 _ 60 (0, 0) h]; rfl
theorem Hd.free (h : Hd w rb room off high fin known ready held a n c) (j : Nat) : w.frozen? ⟨rb, j, none⟩ = false := frozen_of_row w rb j _ 60 h
theorem Hd.lt (h : Hd w rb room off high fin known ready held a n c) : rb < w.heap.size := lt_of_block h
theorem Hd.off_ (h : Hd w rb room off high fin known ready held a n c) (q : Int) : Hd (w.setCell ⟨rb, 1, none⟩ (.int .i64 q)) rb room q high fin known ready held a n c := by
  have := heap_setCell_same w rb 1 _ 60 (.int .i64 q) h
  simpa [Hd] using this
theorem Hd.high_ (h : Hd w rb room off high fin known ready held a n c) (q : Int) : Hd (w.setCell ⟨rb, 2, none⟩ (.int .i64 q)) rb room off q fin known ready held a n c := by
  have := heap_setCell_same w rb 2 _ 60 (.int .i64 q) h
  simpa [Hd] using this
theorem Hd.fin_ (h : Hd w rb room off high fin known ready held a n c) (q : Int) : Hd (w.setCell ⟨rb, 3, none⟩ (.int .i64 q)) rb room off high q known ready held a n c := by
  have := heap_setCell_same w rb 3 _ 60 (.int .i64 q) h
  simpa [Hd] using this
theorem Hd.known_ (h : Hd w rb room off high fin known ready held a n c) (q : Bool) : Hd (w.setCell ⟨rb, 4, none⟩ (.bool q)) rb room off high fin q ready held a n c := by
  have := heap_setCell_same w rb 4 _ 60 (.bool q) h
  simpa [Hd] using this
theorem Hd.ready_ (h : Hd w rb room off high fin known ready held a n c) (q : Int) : Hd (w.setCell ⟨rb, 5, none⟩ (.int .i64 q)) rb room off high fin known q held a n c := by
  have := heap_setCell_same w rb 5 _ 60 (.int .i64 q) h
  simpa [Hd] using this
theorem Hd.held_ (h : Hd w rb room off high fin known ready held a n c) (q : Int) : Hd (w.setCell ⟨rb, 6, none⟩ (.int .i64 q)) rb room off high fin known ready q a n c := by
  have := heap_setCell_same w rb 6 _ 60 (.int .i64 q) h
  simpa [Hd] using this
theorem Hd.list_ (h : Hd w rb room off high fin known ready held a n c) (a' : Option Addr) (n' c' : Nat) : Hd (w.setCell ⟨rb, 7, none⟩ (.slice a' n' c')) rb room off high fin known ready held a' n' c' := by
  have := heap_setCell_same w rb 7 _ 60 (.slice a' n' c') h
  simpa [Hd] using this
theorem Hd.keep {F : Nat → Prop} (h : Hd w rb room off high fin known ready held a n c) (k : Keep F w w') (hF : ¬ F rb) : Hd w' rb room off high fin known ready held a n c := (k.block rb h.lt hF).trans h
theorem Hd.q (h : Hd w rb room off high fin known ready held a n c) (k : Q w w') : Hd w' rb room off high fin known ready held a n c := h.keep (Keep.ofQ (F := fun _ => False) k) id
end

/-- The blocks that are a buffer's own. -/
def Fp (rb : Nat) (a : Option Addr) (k : Nat) : Prop := k = rb ∨ blk a = some k

/-- The program's buffer holds the state s. -/
structure Bf (w : World) (rb : Nat) (a : Option Addr) (n c : Nat) (room : Int) (s : S) : Prop where
  hd : Hd w rb room s.off s.high s.fin s.known (rdy s.xs) (heldN s.xs) a n c
  sub : Sub w 62 2 a n c (flat2 s.xs)
  sep : blk a ≠ some rb
theorem Bf.len {w : World} {rb n c : Nat} {a : Option Addr} {room : Int} {s : S} (h : Bf w rb a n c room s) : s.xs.length = n := by have := h.sub.1; rw [flat2_len] at this; omega
theorem Bf.keep {F : Nat → Prop} {w w' : World} {rb n c : Nat} {a : Option Addr} {room : Int} {s : S} (h : Bf w rb a n c room s) (k : Keep F w w') (hF : ∀ i, Fp rb a i → ¬ F i) : Bf w' rb a n c room s :=
  ⟨h.hd.keep k (hF rb (.inl rfl)), h.sub.keep k (fun b hb => hF b (.inr hb)), h.sep⟩
theorem Bf.q {w w' : World} {rb n c : Nat} {a : Option Addr} {room : Int} {s : S} (h : Bf w rb a n c room s) (k : Q w w') : Bf w' rb a n c room s := h.keep (Keep.ofQ (F := fun _ => False) k) (fun _ _ => id)
theorem Bf.lt {w : World} {rb n c : Nat} {a : Option Addr} {room : Int} {s : S} (h : Bf w rb a n c room s) : ∀ i, Fp rb a i → i < w.heap.size := by
  rintro i (rfl | hi)
  · exact h.hd.lt
  · exact h.sub.lt i hi

set_option maxHeartbeats 400000 in
theorem new_bad (room : Int) (w : World) (h : ¬ (1 ≤ room ∧ room ≤ 65536)) :
    Calls Try.prog 8 #[.int .i64 room] w fun e w' => e = .returned (.tuple #[.pointer none, .int .i64 20]) ∧ w = w' := by
  by_cases h1 : room < 1
  · have hb : decide (room < 1) = true := by simp [h1]
    go_enter Try.func8, Try.ntmps8
    go_wp2
    go_ret2
    exact ⟨rfl, rfl⟩
  · have hb : decide (room < 1) = false := by simp [h1]
    have hc : (65536 : Int) < room := by omega
    go_enter Try.func8, Try.ntmps8
    go_wp2
    go_ret2
    exact ⟨rfl, rfl⟩

set_option maxHeartbeats 400000 in
theorem new_good (room : Int) (w : World) (h0 : 1 ≤ room) (h1 : room ≤ 65536) :
    Calls Try.prog 8 #[.int .i64 room] w fun e w' => e = .returned (.tuple #[.pointer (some ⟨w.heap.size, 0, none⟩), .int .i64 0]) ∧ Bf w' w.heap.size none 0 0 room s0 ∧ Q w w' ∧ w.heap.size < w'.heap.size := by
  have hb : decide (room < 1) = false := by simp; omega
  have hc : ¬ (65536 : Int) < room := by omega
  go_enter Try.func8, Try.ntmps8
  go_wp2
  go_ret2
  exact ⟨rfl, ⟨heap_alloc_new w _, sub_nil _ _ _, by simp [blk]⟩, (Q.refl w).alloc _, by simp⟩

set_option maxHeartbeats 400000 in
theorem good_any (room : Int) (w : World) : Calls Try.prog 9 #[.int .i64 room] w fun e w' => e = .returned (.bool (decide (1 ≤ room ∧ room ≤ 65536))) ∧ w = w' := by
  by_cases h1 : 1 ≤ room
  · have hb : decide (room ≥ 1) = true := by simp; omega
    go_enter Try.func9, Try.ntmps9
    go_wp2
    go_ret
    exact ⟨ret_bool (by simp [h1]), rfl⟩
  · have hb : decide (room ≥ 1) = false := by simp; omega
    go_enter Try.func9, Try.ntmps9
    go_wp2
    go_ret
    exact ⟨ret_bool (by simp), rfl⟩

section
variable (rb : Nat) (room off high fin : Int) (known : Bool) (ready held : Int) (a : Option Addr) (n c : Nat) (w : World)
theorem ready_any (hr : Hd w rb room off high fin known ready held a n c) : Calls Try.prog 13 #[.pointer (some ⟨rb, 0, none⟩)] w fun e w' => e = .returned (.int .i64 ready) ∧ w = w' := by
  have c := hr.c5
  clear hr
  go_enter Try.func13, Try.ntmps13
  go_wp2
  go_ret
  exact ⟨rfl, rfl⟩
theorem offset_any (hr : Hd w rb room off high fin known ready held a n c) : Calls Try.prog 14 #[.pointer (some ⟨rb, 0, none⟩)] w fun e w' => e = .returned (.int .i64 off) ∧ w = w' := by
  have c := hr.c1
  clear hr
  go_enter Try.func14, Try.ntmps14
  go_wp2
  go_ret
  exact ⟨rfl, rfl⟩
theorem high_any (hr : Hd w rb room off high fin known ready held a n c) : Calls Try.prog 15 #[.pointer (some ⟨rb, 0, none⟩)] w fun e w' => e = .returned (.int .i64 high) ∧ w = w' := by
  have c := hr.c2
  clear hr
  go_enter Try.func15, Try.ntmps15
  go_wp2
  go_ret
  exact ⟨rfl, rfl⟩
theorem held_any (hr : Hd w rb room off high fin known ready held a n c) : Calls Try.prog 16 #[.pointer (some ⟨rb, 0, none⟩)] w fun e w' => e = .returned (.int .i64 held) ∧ w = w' := by
  have c := hr.c6
  clear hr
  go_enter Try.func16, Try.ntmps16
  go_wp2
  go_ret
  exact ⟨rfl, rfl⟩
theorem final_any (hr : Hd w rb room off high fin known ready held a n c) : Calls Try.prog 12 #[.pointer (some ⟨rb, 0, none⟩)] w fun e w' => e = .returned (.tuple #[.int .i64 fin, .bool known]) ∧ ∃ k, w' = w.drewN k := by
  have c := hr.c3
  have c' := hr.c4
  clear hr
  go_enter Try.func12, Try.ntmps12
  go_wp2
  go_quiet (fail)
  go_wp2
  go_ret2
  exact ⟨rfl, _, rfl⟩
end
end Go.Proofs.Ytdgkeidpoodmeaa
