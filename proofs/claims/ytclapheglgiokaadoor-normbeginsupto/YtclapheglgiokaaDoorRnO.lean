/-
  checkPlace: contracts that the statements' walks use.
-/
import Derived.Test.YtclapheglgiokaaDoorRnN
namespace Go.Proofs.YtclapheglgiokaaDoor
open Go.RowKit
set_option linter.unusedVariables false
set_option maxRecDepth 20000

/-- There is no field ahead, or the last one is a pseudo field. -/
def laS (pre : List Fd) : Bool := match pre.getLast? with | none => true | some f => psS f.1
def plP (pre : List Fd) (n : ByteArray) : Int := if laS pre then (if knS n then (if (fnd pre n).isSome then 182 else 0) else 182) else 182
/-- If the last one is a pseudo field, all are. -/
def psOrd (pre : List Fd) : Prop := laS pre = true → ∀ g ∈ pre, psS g.1 = true
theorem fnd_isSome (pre : List Fd) (n : ByteArray) : (fnd pre n).isSome = pre.any fun g => eqS g.1 n := by
  unfold fnd
  rw [Option.isSome_map]
  induction pre with
  | nil => rfl
  | cons f r ih =>
    rw [List.find?_cons, List.any_cons]
    cases h : eqS f.1 n with
    | true => rfl
    | false => rw [Bool.false_or]; exact ih
theorem any_or (pre : List Fd) (n : ByteArray) (h : ∀ g ∈ pre, psS g.1 = true) : (pre.any fun g => !psS g.1 || eqS g.1 n) = pre.any fun g => eqS g.1 n := by
  induction pre with
  | nil => rfl
  | cons f r ih => rw [List.any_cons, List.any_cons, ih (fun g hg => h g (by simp [hg])), h f (by simp)]; rfl
theorem plE_P (pre : List Fd) (n : ByteArray) (h : psOrd pre) : plE pre n = plP pre n := by
  unfold plE plP
  cases hl : laS pre with
  | true =>
    rw [any_or pre n (h hl), ← fnd_isSome]
    cases knS n <;> cases (fnd pre n).isSome <;> rfl
  | false =>
    have : (pre.any fun g => !psS g.1 || eqS g.1 n) = true := by
      unfold laS at hl
      cases hg : pre.getLast? with
      | none => rw [hg] at hl; cases hl
      | some f =>
        rw [hg] at hl
        rw [List.any_eq_true]
        exact ⟨f, List.mem_of_getLast? hg, by simp [hl]⟩
    rw [this]
    cases knS n <;> rfl
theorem psOrd_nil : psOrd [] := fun _ g hg => by cases hg
theorem psOrd_snoc (pre : List Fd) (f : Fd) (h : oneE pre f = 0) : psOrd (pre ++ [f]) := by
  intro hl g hg
  have hf : psS f.1 = true := by
    unfold laS at hl
    rw [List.getLast?_append] at hl
    simpa using hl
  have h1 := (orE_zero h).1
  rw [hf, if_pos rfl] at h1
  unfold plE at h1
  split at h1
  · rename_i hc
    simp only [Bool.and_eq_true, Bool.not_eq_true', List.any_eq_false] at hc
    rw [List.mem_append] at hg
    rcases hg with hg | hg
    · have := hc.2 g hg
      simp at this
      exact this.1
    · simp at hg; subst hg; exact hf
  · cases h1

theorem plP_cases (pre : List Fd) (n : ByteArray) : plP pre n = 0 ∨ plP pre n = 182 := by
  unfold plP
  split
  · split
    · split
      · exact .inr rfl
      · exact .inl rfl
    · exact .inr rfl
  · exact .inr rfl
end Go.Proofs.YtclapheglgiokaaDoor
