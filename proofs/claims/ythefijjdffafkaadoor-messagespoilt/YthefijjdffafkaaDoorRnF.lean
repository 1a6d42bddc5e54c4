/-
  Which texts are tokens, names, authorities, digits, paths: contracts that the statements' walks use.
-/
import Derived.Test.YthefijjdffafkaaDoorRnE
namespace Go.Proofs.YthefijjdffafkaaDoor
open Go.RowKit
set_option linter.unusedVariables false
set_option maxRecDepth 20000

theorem cr_any (m : ByteArray) (r : Nat) (w : World) (h : Asc m) : Calls Tryd.prog 61 #[.string m, .int .i32 r] w fun e w' => e = .returned (.bool (hasR m r)) ∧ Q w w' := by
  by_cases hr : r < 128
  · exact (cr_low m r w hr).mono (by rintro e v ⟨rfl, rfl⟩; exact ⟨rfl, Q.refl _⟩)
  · have HX : Hid (∀ W, Calls Tryd.prog 74 #[.string m, .int .i32 r] W fun e w' => e = .returned (.int .i64 (-1)) ∧ Q W w') := by
      refine hid (fun W => ?_)
      by_cases he : r = 65533
      · subst he; exact ir_err m W h
      · exact ir_high m r W h (by omega) he
    rw [hasR_high h (by omega)]
    clear h hr
    go_enter Tryd.func61, Tryd.ntmps61
    go_wp2_with (go_at_call 74; refine (HX.out _).mono ?_; rintro e w1 ⟨rfl, q1⟩)
    go_ret
    exact ⟨rfl, q1⟩
/-- A rune that is a letter, a digit or one of the marks. -/
def orB (m : ByteArray) (r : Nat) : Bool := smB r || cpB r || dgB r || hasR m r
set_option maxHeartbeats 4000000 in
theorem por_any (m : ByteArray) (r bx : Nat) (w : World) (h : Asc m) (hb : w.cell? ⟨bx, 0, none⟩ = some (.string m)) : Calls Tryd.prog 59 #[.int .i32 r, .pointer (some ⟨bx, 0, none⟩)] w fun e w' => e = .returned (.bool (orB m r)) ∧ Q w w' := by
  have H1 := hid (fun W => sml_any r W)
  have H2 := hid (fun W => cap_any r W)
  have H3 := hid (fun W => dig_any r W)
  have H4 := hid (fun W => cr_any m r W h)
  have ho : orB m r = (smB r || cpB r || dgB r || hasR m r) := rfl
  rw [ho]
  clear ho h
  generalize smB r = b1 at *
  generalize cpB r = b2 at *
  generalize dgB r = b3 at *
  generalize hasR m r = b4 at *
  go_enter Tryd.func59, Tryd.ntmps59
  cases b1 <;> cases b2 <;> cases b3
  all_goals
    go_wp2_with (first
      | (go_at_call 60; refine (H1.out _).mono ?_; rintro e w1 ⟨rfl, rfl⟩)
      | (go_at_call 53; refine (H2.out _).mono ?_; rintro e w1 ⟨rfl, rfl⟩)
      | (go_at_call 56; refine (H3.out _).mono ?_; rintro e w1 ⟨rfl, rfl⟩)
      | (go_at_call 61; refine (H4.out _).mono ?_; rintro e w4 ⟨rfl, q4⟩))
    go_ret
    first | exact ⟨rfl, Q.refl _⟩ | exact ⟨rfl, q4⟩ | (refine ⟨?_, q4⟩; cases b4 <;> rfl)
end Go.Proofs.YthefijjdffafkaaDoor
