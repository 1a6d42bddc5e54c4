/-
  What the program's own Encode does: a contract that the statements' walks use.
-/
import Derived.Test.YtidbimhcebfjfaaChk
import Derived.Test.YtidbimhcebfjfaaCat
import Derived.Test.YtidbimhcebfjfaaStdM
namespace Go.Proofs.Ytidbimhcebfjfaa
open Go.RowKit
set_option linter.unusedVariables false
set_option maxRecDepth 20000

/-- A parameter as bytes; all that are told, so far. -/
def parB (m : Pm) (i : Nat) : List Int := if tld m i then form (i : Int) ++ form ((bts m i).length : Int) ++ bts m i else []
def encT (m : Pm) : Nat → List Int
  | 0 => []
  | k + 1 => encT m k ++ parB m (idl.getD k 0)
def encB (m : Pm) (srv : Bool) : List Int := if allR m srv then encT m 16 else []
theorem idl_le : ∀ k, k < 16 → idl.getD k 0 ≤ 16 := by
  have h : ∀ k : Fin 16, idl.getD k.1 0 ≤ 16 := by decide
  intro k hk
  exact h ⟨k, hk⟩
theorem form_len (n : Int) : (form n).length ≤ 8 := by
  rcases sz_cases n with h | h | h | h | h
  all_goals first | (rw [form_length]; omega) | (have := sz_le n; rw [form_length]; omega)
theorem allR_at {m : Pm} {srv : Bool} (h : allR m srv = true) {k : Nat} (hk : k < 16) : rgt m (idl.getD k 0) srv = true := by
  unfold allR at h
  rw [List.all_eq_true] at h
  apply h
  rw [List.getD_eq_getElem?_getD, List.getElem?_eq_getElem hk]
  exact List.getElem_mem _
theorem bts_len {m : Pm} {srv : Bool} (h : allR m srv = true) {k : Nat} (hk : k < 16) (ht : tld m (idl.getD k 0) = true) : (bts m (idl.getD k 0)).length ≤ 20 := by
  have hr := allR_at h hk
  have hkd := idl_kd k hk
  have hle := kd_le (idl.getD k 0)
  generalize idl.getD k 0 = i at *
  unfold rgt at hr
  unfold tld at ht
  unfold bts
  by_cases h1 : kd i = 1
  · rw [if_pos h1]; have := form_len (m.num i); omega
  · rw [if_neg h1] at ht ⊢
    by_cases h4 : kd i = 4
    · rw [if_pos h4]; simp
    · rw [if_neg h4] at ht ⊢
      have hh : hi i ≤ 20 := by
        have h23 : kd i = 2 ∨ kd i = 3 := by omega
        unfold kd at h23
        unfold hi
        by_cases a1 : i = 0 ∨ i = 2 ∨ i = 16
        · rcases a1 with e | e | e <;> subst e <;> decide
        · by_cases a2 : i = 15
          · subst a2; decide
          · rw [if_neg a1, if_neg a2] at h23
            by_cases a3 : i = 12
            · rw [if_pos a3] at h23; omega
            · rw [if_neg a3] at h23
              by_cases a4 : i = 13 ∨ 16 < i
              · rw [if_pos a4] at h23; omega
              · rw [if_neg a4] at h23; omega
      rw [if_neg h1] at hr
      rw [ht] at hr
      by_cases h2 : kd i = 2
      · rw [if_pos h2] at hr; simp at hr; omega
      · rw [if_neg h2, if_pos (by omega)] at hr; simp at hr; omega
theorem parB_len {m : Pm} {srv : Bool} (h : allR m srv = true) {k : Nat} (hk : k < 16) : (parB m (idl.getD k 0)).length ≤ 36 := by
  unfold parB
  by_cases ht : tld m (idl.getD k 0) = true
  · rw [if_pos ht, List.length_append, List.length_append]
    have := bts_len h hk ht
    have := form_len ((idl.getD k 0 : Nat) : Int)
    have := form_len ((bts m (idl.getD k 0)).length : Int)
    omega
  · rw [if_neg ht]; simp
theorem encT_len {m : Pm} {srv : Bool} (h : allR m srv = true) : ∀ k, k ≤ 16 → (encT m k).length ≤ 36 * k := by
  intro k
  induction k with
  | zero => intro _; simp [encT]
  | succ k ih => intro hk; have := ih (by omega); have := parB_len h (k := k) (by omega); simp only [encT, List.length_append]; omega
end Go.Proofs.Ytidbimhcebfjfaa
