/-
  Which texts are tokens, names, authorities, digits, paths: contracts that the statements' walks use.
-/
import Derived.Test.YtclapheglgiokaaDoorRnE
namespace Go.Proofs.YtclapheglgiokaaDoor
open Go.RowKit
set_option linter.unusedVariables false
set_option maxRecDepth 20000

theorem cr_any (m : ByteArray) (r : Nat) (w : World) (h : Asc m) : Calls Tryd.prog 117 #[.string m, .int .i32 r] w fun e w' => e = .returned (.bool (hasR m r)) ∧ Q w w' := by
  by_cases hr : r < 128
  · exact (cr_low m r w hr).mono (by rintro e v ⟨rfl, rfl⟩; exact ⟨rfl, Q.refl _⟩)
  · have HX : Hid (∀ W, Calls Tryd.prog 121 #[.string m, .int .i32 r] W fun e w' => e = .returned (.int .i64 (-1)) ∧ Q W w') := by
      refine hid (fun W => ?_)
      by_cases he : r = 65533
      · subst he; exact ir_err m W h
      · exact ir_high m r W h (by omega) he
    rw [hasR_high h (by omega)]
    clear h hr
    go_enter Tryd.func117, Tryd.ntmps117
    go_wp2_with (go_at_call 121; refine (HX.out _).mono ?_; rintro e w1 ⟨rfl, q1⟩)
    go_ret
    exact ⟨rfl, q1⟩
/-- A rune that is a letter, a digit or one of the marks. -/
def orB (m : ByteArray) (r : Nat) : Bool := smB r || cpB r || dgB r || hasR m r
end Go.Proofs.YtclapheglgiokaaDoor
