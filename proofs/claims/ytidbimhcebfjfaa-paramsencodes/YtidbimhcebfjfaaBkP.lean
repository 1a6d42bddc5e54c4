/-
  Parameters that are right for a side are read back from their bytes: plain mathematics.
-/
import Derived.Test.YtidbimhcebfjfaaEncM
import Derived.Test.YtidbimhcebfjfaaTwiM
namespace Go.Proofs.Ytidbimhcebfjfaa
open Go.RowKit
set_option linter.unusedVariables false

/-- What is known when the first k parameters of the table have been read. -/
def st (m : Pm) (k : Nat) : Pm :=
  ⟨fun i => if i ∈ idl.take k ∧ kd i = 1 then m.num i else usM.num i, fun i => if i ∈ idl.take k ∧ (kd i = 2 ∨ kd i = 3) then m.has i else false,
    fun i => if i ∈ idl.take k ∧ (kd i = 2 ∨ kd i = 3) ∧ m.has i = true then m.byt i else [], if 12 ∈ idl.take k then m.mv else false⟩
theorem pm_ext {a b : Pm} (h1 : ∀ i, a.num i = b.num i) (h2 : ∀ i, a.has i = b.has i) (h3 : ∀ i, a.byt i = b.byt i) (h4 : a.mv = b.mv) : a = b := by
  obtain ⟨a1, a2, a3, a4⟩ := a
  obtain ⟨b1, b2, b3, b4⟩ := b
  simp only at h1 h2 h3 h4
  rw [show a1 = b1 from funext h1, show a2 = b2 from funext h2, show a3 = b3 from funext h3, h4]
theorem st_zero (m : Pm) : st m 0 = usM := by
  refine pm_ext (fun i => ?_) (fun i => ?_) (fun i => ?_) ?_
  · show (if i ∈ idl.take 0 ∧ kd i = 1 then m.num i else usM.num i) = _
    rw [if_neg (by simp)]
  · show (if i ∈ idl.take 0 ∧ (kd i = 2 ∨ kd i = 3) then m.has i else false) = _
    rw [if_neg (by simp)]; rfl
  · show (if i ∈ idl.take 0 ∧ (kd i = 2 ∨ kd i = 3) ∧ m.has i = true then m.byt i else []) = _
    rw [if_neg (by simp)]; rfl
  · show (if 12 ∈ idl.take 0 then m.mv else false) = _
    rw [if_neg (by simp)]; rfl
theorem take_mem {k j : Nat} (hk : k < 16) : j ∈ idl.take (k + 1) ↔ j ∈ idl.take k ∨ j = idl.getD k 0 := by
  have hk' : k < idl.length := hk
  rw [List.take_succ_eq_append_getElem hk', List.mem_append, List.mem_singleton, List.getD_eq_getElem?_getD, List.getElem?_eq_getElem hk', Option.getD_some]
theorem not_mem {k : Nat} (hk : k < 16) : ¬ idl.getD k 0 ∈ idl.take k := by
  have h : ∀ k : Fin 16, ¬ idl.getD k.1 0 ∈ idl.take k.1 := by decide
  exact h ⟨k, hk⟩
section
variable {m : Pm} {srv : Bool} {k : Nat}
/-- One that is not told changes nothing. -/
theorem st_skip (hk : k < 16) (ht : tld m (idl.getD k 0) = false) : st m (k + 1) = st m k := by
  have hkd := idl_kd k hk
  have hmem := fun j => take_mem (j := j) hk
  have hno := not_mem hk
  generalize idl.getD k 0 = i at *
  unfold tld at ht
  refine pm_ext (fun j => ?_) (fun j => ?_) (fun j => ?_) ?_
  · show (if j ∈ idl.take (k + 1) ∧ kd j = 1 then m.num j else usM.num j) = (if j ∈ idl.take k ∧ kd j = 1 then m.num j else usM.num j)
    by_cases e : j = i
    · subst e
      rw [if_neg (c := j ∈ idl.take k ∧ kd j = 1) (fun h => hno h.1)]
      by_cases h1 : kd j = 1
      · rw [if_pos h1] at ht
        rw [if_pos ⟨(hmem j).2 (.inr rfl), h1⟩]; simpa using ht
      · rw [if_neg (fun h => h1 h.2)]
    · by_cases hj : j ∈ idl.take k ∧ kd j = 1
      · rw [if_pos hj, if_pos ⟨(hmem j).2 (.inl hj.1), hj.2⟩]
      · rw [if_neg hj, if_neg (fun h => hj ⟨((hmem j).1 h.1).resolve_right e, h.2⟩)]
  · show (if j ∈ idl.take (k + 1) ∧ (kd j = 2 ∨ kd j = 3) then m.has j else false) = (if j ∈ idl.take k ∧ (kd j = 2 ∨ kd j = 3) then m.has j else false)
    by_cases e : j = i
    · subst e
      rw [if_neg (c := j ∈ idl.take k ∧ (kd j = 2 ∨ kd j = 3)) (fun h => hno h.1)]
      by_cases h1 : kd j = 2 ∨ kd j = 3
      · rw [if_neg (by omega), if_neg (by omega)] at ht
        rw [if_pos ⟨(hmem j).2 (.inr rfl), h1⟩]; exact ht
      · rw [if_neg (fun h => h1 h.2)]
    · by_cases hj : j ∈ idl.take k ∧ (kd j = 2 ∨ kd j = 3)
      · rw [if_pos hj, if_pos ⟨(hmem j).2 (.inl hj.1), hj.2⟩]
      · rw [if_neg hj, if_neg (fun h => hj ⟨((hmem j).1 h.1).resolve_right e, h.2⟩)]
  · show (if j ∈ idl.take (k + 1) ∧ (kd j = 2 ∨ kd j = 3) ∧ m.has j = true then m.byt j else []) = (if j ∈ idl.take k ∧ (kd j = 2 ∨ kd j = 3) ∧ m.has j = true then m.byt j else [])
    by_cases e : j = i
    · subst e
      rw [if_neg (c := j ∈ idl.take k ∧ (kd j = 2 ∨ kd j = 3) ∧ m.has j = true) (fun h => hno h.1), if_neg]
      intro h
      rw [if_neg (by omega), if_neg (by omega), h.2.2] at ht
      cases ht
    · by_cases hj : j ∈ idl.take k ∧ (kd j = 2 ∨ kd j = 3) ∧ m.has j = true
      · rw [if_pos hj, if_pos ⟨(hmem j).2 (.inl hj.1), hj.2⟩]
      · rw [if_neg hj, if_neg (fun h => hj ⟨((hmem j).1 h.1).resolve_right e, h.2⟩)]
  · show (if 12 ∈ idl.take (k + 1) then m.mv else false) = (if 12 ∈ idl.take k then m.mv else false)
    by_cases e : 12 = i
    · subst e
      rw [if_neg (c := 12 ∈ idl.take k) hno]
      rw [if_neg (by decide), if_pos (by decide)] at ht
      rw [ht]; simp
    · by_cases hj : 12 ∈ idl.take k
      · rw [if_pos hj, if_pos ((hmem 12).2 (.inl hj))]
      · rw [if_neg hj, if_neg (fun h => hj (((hmem 12).1 h).resolve_right e))]
end
end Go.Proofs.Ytidbimhcebfjfaa
