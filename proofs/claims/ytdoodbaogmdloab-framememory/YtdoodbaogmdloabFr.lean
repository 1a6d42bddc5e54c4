/-
  A frame as plain data, what a frame's words in memory are, and what frame.isKind, isNumber, marksHold and Elicits answer: contracts that the statements' walks use.
-/
import Derived.Test.YtdoodbaogmdloabMem
import Derived.Test.YtdoodbaogmdloabPut
import Derived.BigQuiet
import Derived.Deep.QuietTactic
namespace Go.Proofs.Ytdoodbaogmdloab
open Go.RowKit
set_option linter.unusedVariables false
set_option maxRecDepth 20000

/-- A slice's words. -/
structure Sv where
  a : Option Addr
  n : Nat
  c : Nat
/-- Bytes in a row. -/
abbrev u8s (zs : List Int) : List Value := zs.map (.int .u8)
abbrev Row (w : World) (d : Sv) (zs : List Int) : Prop := Sub w 5 1 d.a d.n d.c (u8s zs)
theorem Row.len {w : World} {d : Sv} {zs : List Int} (h : Row w d zs) : zs.length = d.n := by simpa using h.1

/-- A frame. -/
structure Fr where
  kind : Int
  id : Int
  pl : Int
  num : Int
  code : Int
  fin : Bool
  data : List Int
  cid : List Int
  sp : List (Int × Int)
  dl : Int
  e0 : Int
  e1 : Int
  e2 : Int

/-- Its words. -/
abbrev fcells (f : Fr) (d c s : Sv) : Array Value := #[.int .i64 f.kind, .int .i64 f.id, .int .i64 f.pl, .int .i64 f.num, .int .i64 f.code, .bool f.fin, .slice d.a d.n d.c, .slice c.a c.n c.c, .slice s.a s.n s.c, .int .i64 f.dl, .int .i64 f.e0, .int .i64 f.e1, .int .i64 f.e2]
abbrev fv (f : Fr) (d c s : Sv) : Value := .agg (fcells f d c s)

/-- Its kind is one of the table. -/
def isK (k : Int) : Bool := decide (0 ≤ k ∧ k ≤ 8 ∨ 16 ≤ k ∧ k ≤ 30)
def isN (n : Int) : Bool := decide (0 ≤ n ∧ n ≤ 4611686018427387903)
def eliB (k : Int) : Bool := isK k && !(decide (k = 0 ∨ k = 2 ∨ k = 3 ∨ k = 28 ∨ k = 29))

set_option maxHeartbeats 400000 in
theorem isKind_any (k : Int) (w : World) : Calls Try.prog 44 #[.int .i64 k] w fun e w' => e = .returned (.bool (isK k)) ∧ w = w' := by
  by_cases h1 : (0 : Int) ≤ k
  · by_cases h2 : k ≤ 8
    · have HR := hid (show isK k = true from by unfold isK; simp; omega)
      go_enter Try.func44, Try.ntmps44
      go_wp2
      go_ret
      exact ⟨ret_bool HR.out.symm, rfl⟩
    · by_cases h3 : (16 : Int) ≤ k
      · by_cases h4 : k ≤ 30
        · have HR := hid (show isK k = true from by unfold isK; simp; omega)
          go_enter Try.func44, Try.ntmps44
          go_wp2
          go_ret
          exact ⟨ret_bool HR.out.symm, rfl⟩
        · have HR := hid (show isK k = false from by unfold isK; simp; omega)
          go_enter Try.func44, Try.ntmps44
          go_wp2
          go_ret
          exact ⟨ret_bool HR.out.symm, rfl⟩
      · have HR := hid (show isK k = false from by unfold isK; simp; omega)
        go_enter Try.func44, Try.ntmps44
        go_wp2
        go_ret
        exact ⟨ret_bool HR.out.symm, rfl⟩
  · have HR := hid (show isK k = false from by unfold isK; simp; omega)
    go_enter Try.func44, Try.ntmps44
    go_wp2
    go_ret
    exact ⟨ret_bool HR.out.symm, rfl⟩

set_option maxHeartbeats 400000 in
theorem isNumber_any (n : Int) (w : World) : Calls Try.prog 56 #[.int .i64 n] w fun e w' => e = .returned (.bool (isN n)) ∧ w = w' := by
  go_enter Try.func56, Try.ntmps56
  go_wp2_with fail
  refine (size_any _ _).mono ?_
  rintro e w' ⟨rfl, rfl⟩
  go_wp2
  go_ret
  refine ⟨ret_bool ?_, rfl⟩
  unfold isN
  rw [Bool.eq_iff_iff]
  rcases sz_cases n with h | h | h | h | h <;> (rw [h.1]; simp; omega)

set_option maxHeartbeats 400000 in
theorem marks_any (a b c : Int) (w : World) : Calls Try.prog 57 #[.agg #[.int .i64 a, .int .i64 b, .int .i64 c]] w fun e w' => e = .returned (.bool (isN a && isN b && isN c)) ∧ Q w w' := by
  cases h1 : isN a
  · have H1 := hid h1
    clear h1
    go_enter Try.func57, Try.ntmps57
    go_wp2_with (go_at_call 56; refine (isNumber_any _ _).mono ?_; rintro e w' ⟨rfl, rfl⟩; first | rw [H1.out])
    go_ret
    exact ⟨by simp, (Q.refl _).alloc _⟩
  · cases h2 : isN b
    · have H1 := hid h1
      have H2 := hid h2
      clear h1 h2
      go_enter Try.func57, Try.ntmps57
      go_wp2_with (go_at_call 56; refine (isNumber_any _ _).mono ?_; rintro e w' ⟨rfl, rfl⟩; first | rw [H1.out] | rw [H2.out])
      go_ret
      exact ⟨by simp, (Q.refl _).alloc _⟩
    · have H1 := hid h1
      have H2 := hid h2
      clear h1 h2
      go_enter Try.func57, Try.ntmps57
      go_wp2_with (go_at_call 56; refine (isNumber_any _ _).mono ?_; rintro e w' ⟨rfl, rfl⟩; first | rw [H1.out] | rw [H2.out] | skip)
      go_ret
      exact ⟨by simp, (Q.refl _).alloc _⟩

end Go.Proofs.Ytdoodbaogmdloab
