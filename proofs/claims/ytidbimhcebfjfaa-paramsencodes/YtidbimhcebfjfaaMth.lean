/-
  What the methods of the program's kinds of values do: contracts that the statements' walks use.
-/
import Derived.Test.YtidbimhcebfjfaaPm
import Derived.Test.YtidbimhcebfjfaaGet
import Derived.BigQuiet
import Derived.Deep.QuietTactic
namespace Go.Proofs.Ytidbimhcebfjfaa
open Go.RowKit
set_option linter.unusedVariables false
set_option maxRecDepth 20000

abbrev numA (pb c : Nat) (u l m : Int) : Value := .agg #[.pointer (some ⟨pb, c, none⟩), .int .i64 u, .int .i64 l, .int .i64 m]
abbrev datA (pb h c : Nat) (l m : Int) : Value := .agg #[.pointer (some ⟨pb, h, none⟩), .pointer (some ⟨pb, c, none⟩), .int .i64 l, .int .i64 m]
abbrev mrkA (pb c : Nat) : Value := .agg #[.pointer (some ⟨pb, c, none⟩)]

set_option maxHeartbeats 4000000 in
theorem nright_any (pb c : Nat) (u l m n : Int) (s : Bool) (w : World) (hc : w.cell? ⟨pb, c, none⟩ = some (.int .i64 n)) :
    Calls Try.prog 72 #[numA pb c u l m, .bool s] w fun e w' => e = .returned (.bool (decide (l ≤ n) && decide (n ≤ m))) ∧ Q w w' := by
  have hlt := lt_of_cell hc
  by_cases h1 : l ≤ n
  · have hd : decide (l ≤ n) = true := by simpa using h1
    go_enter Try.func72, Try.ntmps72
    go_wp2
    go_quiet (fail)
    go_wp2
    go_ret
    exact ⟨by simp [h1], ((Q.refl w).alloc _).drewN _⟩
  · have hd : decide (l ≤ n) = false := by simpa using h1
    go_enter Try.func72, Try.ntmps72
    go_wp2
    go_quiet (fail)
    go_wp2
    go_ret
    exact ⟨by rw [hd]; rfl, ((Q.refl w).alloc _).drewN _⟩

set_option maxHeartbeats 4000000 in
theorem ntold_any (pb c : Nat) (u l m n : Int) (w : World) (hc : w.cell? ⟨pb, c, none⟩ = some (.int .i64 n)) :
    Calls Try.prog 74 #[numA pb c u l m] w fun e w' => e = .returned (.bool (n != u)) ∧ Q w w' := by
  have hlt := lt_of_cell hc
  go_enter Try.func74, Try.ntmps74
  go_wp2
  go_quiet (fail)
  go_wp2
  go_ret
  exact ⟨rfl, ((Q.refl w).alloc _).drewN _⟩

set_option maxHeartbeats 4000000 in
theorem dright_any (pb h c : Nat) (l m : Int) (hb : Bool) (x : Sv) (s : Bool) (w : World) (hh : w.cell? ⟨pb, h, none⟩ = some (.bool hb)) (hc : w.cell? ⟨pb, c, none⟩ = some (sv x)) :
    Calls Try.prog 67 #[datA pb h c l m, .bool s] w fun e w' => e = .returned (.bool (!hb || (decide (l ≤ (x.n : Int)) && decide ((x.n : Int) ≤ m)))) ∧ Q w w' := by
  have hlt := lt_of_cell hc
  obtain ⟨xa, xn, xc⟩ := x
  dsimp only at *
  cases hb with
  | false =>
    go_enter Try.func67, Try.ntmps67
    go_wp2
    go_quiet (fail)
    go_wp2
    go_ret
    exact ⟨by simp, ((Q.refl w).alloc _).drewN _⟩
  | true =>
    by_cases h1 : l ≤ (xn : Int)
    · have hd : decide (l ≤ (xn : Int)) = true := by simpa using h1
      go_enter Try.func67, Try.ntmps67
      go_wp2
      go_quiet (fail)
      go_wp2
      go_ret
      exact ⟨by simp [h1], ((Q.refl w).alloc _).drewN _⟩
    · have hd : decide (l ≤ (xn : Int)) = false := by simpa using h1
      go_enter Try.func67, Try.ntmps67
      go_wp2
      go_quiet (fail)
      go_wp2
      go_ret
      exact ⟨by rw [hd]; rfl, ((Q.refl w).alloc _).drewN _⟩

set_option maxHeartbeats 4000000 in
theorem dtold_any (pb h c : Nat) (l m : Int) (hb : Bool) (w : World) (hh : w.cell? ⟨pb, h, none⟩ = some (.bool hb)) :
    Calls Try.prog 69 #[datA pb h c l m] w fun e w' => e = .returned (.bool hb) ∧ Q w w' := by
  have hlt := lt_of_cell hh
  go_enter Try.func69, Try.ntmps69
  go_wp2
  go_ret
  exact ⟨rfl, (Q.refl w).alloc _⟩

set_option maxHeartbeats 4000000 in
theorem dbytes_any (pb h c : Nat) (l m : Int) (x : Sv) (w : World) (hc : w.cell? ⟨pb, c, none⟩ = some (sv x)) :
    Calls Try.prog 66 #[datA pb h c l m] w fun e w' => e = .returned (sv x) ∧ Q w w' := by
  have hlt := lt_of_cell hc
  go_enter Try.func66, Try.ntmps66
  go_wp2
  go_ret
  exact ⟨rfl, (Q.refl w).alloc _⟩

set_option maxHeartbeats 4000000 in
theorem sright_any (pb h c : Nat) (l m : Int) (hb : Bool) (x : Sv) (s : Bool) (w : World) (hh : w.cell? ⟨pb, h, none⟩ = some (.bool hb)) (hc : w.cell? ⟨pb, c, none⟩ = some (sv x)) :
    Calls Try.prog 70 #[datA pb h c l m, .bool s] w fun e w' => e = .returned (.bool ((!hb || (decide (l ≤ (x.n : Int)) && decide ((x.n : Int) ≤ m))) && (s || !hb))) ∧ Q w w' := by
  have hlt := lt_of_cell hc
  have hD := fun (W : World) (q : Q w W) => dright_any pb h c l m hb x s W ((q.cell (p := ⟨pb, h, none⟩) hlt).trans hh) ((q.cell (p := ⟨pb, c, none⟩) hlt).trans hc)
  have HD := hid hD
  clear hD
  generalize (!hb || (decide (l ≤ (x.n : Int)) && decide ((x.n : Int) ≤ m))) = t at *
  cases t <;> cases s
  all_goals
    go_enter Try.func70, Try.ntmps70
    go_wp2_with (go_at_call 67; refine (HD.out _ ((Q.refl w).alloc _)).mono ?_; rintro e w1 ⟨rfl, q1⟩; have c1 := (q1.cell (p := ⟨pb, h, none⟩) (by simp; omega)).trans ((((Q.refl w).alloc _).cell (p := ⟨pb, h, none⟩) hlt).trans hh); have Q1 := hid (((Q.refl w).alloc _).trans q1); have c0 := q1.cell (p := ⟨w.heap.size, 0, none⟩) (by simp); clear q1)
    go_ret
    exact ⟨by cases hb <;> rfl, Q1.out⟩

set_option maxHeartbeats 4000000 in
theorem mright_any (pb c : Nat) (s : Bool) (w : World) :
    Calls Try.prog 76 #[mrkA pb c, .bool s] w fun e w' => e = .returned (.bool true) ∧ Q w w' := by
  go_enter Try.func76, Try.ntmps76
  go_wp2
  go_ret
  exact ⟨rfl, (Q.refl w).alloc _⟩

set_option maxHeartbeats 4000000 in
theorem mtold_any (pb c : Nat) (b : Bool) (w : World) (hc : w.cell? ⟨pb, c, none⟩ = some (.bool b)) :
    Calls Try.prog 78 #[mrkA pb c] w fun e w' => e = .returned (.bool b) ∧ Q w w' := by
  have hlt := lt_of_cell hc
  go_enter Try.func78, Try.ntmps78
  go_wp2
  go_ret
  exact ⟨rfl, (Q.refl w).alloc _⟩

set_option maxHeartbeats 4000000 in
theorem mbytes_any (pb c : Nat) (w : World) :
    Calls Try.prog 75 #[mrkA pb c] w fun e w' => e = .returned (sv nilS) ∧ Q w w' := by
  go_enter Try.func75, Try.ntmps75
  go_wp2
  go_ret
  exact ⟨rfl, (Q.refl w).alloc _⟩
end Go.Proofs.Ytidbimhcebfjfaa
