/-
  What hframe writes, as plain mathematics.
-/
import Derived.Test.YtdlefmlienfjhaaHfM
namespace Go.Proofs.Ytdlefmlienfjhaa
set_option linter.unusedVariables false

abbrev okN (n : Int) : Prop := 0 ≤ n ∧ n ≤ 4611686018427387903
def nmE (zs : List Int) : Int := if ∀ n ∈ zs, okN n then 0 else 10
def nmB (zs : List Int) : List Int := if nmE zs = 0 then zs.flatMap form else []
def frE (k : Int) (n : Nat) : Int := if ¬ okN k then 10 else if 1048576 < n then 52 else 0
def frB (k : Int) (p : List Int) : List Int := if frE k p.length = 0 then form k ++ (form p.length ++ p) else []
def stL (c b l : Int) : List Int := (if c = 0 then [] else [1, c]) ++ (if b = 0 then [] else [7, b]) ++ (if l = -1 then [] else [6, l])
theorem nmE_ok {zs : List Int} (h : ∀ n ∈ zs, okN n) : nmE zs = 0 := by unfold nmE; rw [if_pos h]
theorem nmE_no {zs : List Int} {n : Int} (hn : n ∈ zs) (h : ¬ okN n) : nmE zs = 10 := by unfold nmE; rw [if_neg (fun x => h (x n hn))]
theorem nmB_ok {zs : List Int} (h : ∀ n ∈ zs, okN n) : nmB zs = zs.flatMap form := by unfold nmB; rw [nmE_ok h, if_pos rfl]
theorem nmB_no {zs : List Int} (h : nmE zs = 10) : nmB zs = [] := by unfold nmB; rw [h, if_neg (by decide)]
theorem nmE_two (zs : List Int) : nmE zs = 0 ∨ nmE zs = 10 := by unfold nmE; split; exact .inl rfl; exact .inr rfl
theorem nmE_zero {zs : List Int} (h : nmE zs = 0) : ∀ n ∈ zs, okN n := by
  unfold nmE at h
  split at h
  · assumption
  · cases h
theorem form1 : form 1 = [1] := by decide +kernel
theorem form4 : form 4 = [4] := by decide +kernel
theorem form6 : form 6 = [6] := by decide +kernel
theorem form7 : form 7 = [7] := by decide +kernel
/-- The settings' payload, piece by piece. -/
def stP (i v z : Int) : List Int := if v = z then [] else i :: form v
theorem stL_flat (c b l : Int) : (stL c b l).flatMap form = stP 1 c 0 ++ (stP 7 b 0 ++ stP 6 l (-1)) := by
  unfold stL stP
  by_cases h1 : c = 0 <;> by_cases h2 : b = 0 <;> by_cases h3 : l = -1 <;> simp [h1, h2, h3, form1, form6, form7]
/-- The document's test of the settings. -/
theorem stE_iff (c b l : Int) : nmE (stL c b l) = if c < 0 ∨ b < 0 ∨ l < -1 ∨ 4611686018427387903 < c ∨ 4611686018427387903 < b ∨ 4611686018427387903 < l then 10 else 0 := by
  by_cases h : c < 0 ∨ b < 0 ∨ l < -1 ∨ 4611686018427387903 < c ∨ 4611686018427387903 < b ∨ 4611686018427387903 < l
  · rw [if_pos h]
    have hm : (c ≠ 0 → c ∈ stL c b l) ∧ (b ≠ 0 → b ∈ stL c b l) ∧ (l ≠ -1 → l ∈ stL c b l) := by
      unfold stL
      refine ⟨fun h => ?_, fun h => ?_, fun h => ?_⟩
      · rw [if_neg h]; simp
      · rw [if_neg h]; simp
      · rw [if_neg h]; simp
    rcases h with h | h | h | h | h | h
    · exact nmE_no (hm.1 (by omega)) (by omega)
    · exact nmE_no (hm.2.1 (by omega)) (by omega)
    · exact nmE_no (hm.2.2 (by omega)) (by omega)
    · exact nmE_no (hm.1 (by omega)) (by omega)
    · exact nmE_no (hm.2.1 (by omega)) (by omega)
    · exact nmE_no (hm.2.2 (by omega)) (by omega)
  · rw [if_neg h]
    refine nmE_ok (fun n hn => ?_)
    unfold stL at hn
    simp only [List.mem_append] at hn
    rcases hn with (hn | hn) | hn
    · split at hn
      · cases hn
      · simp at hn; omega
    · split at hn
      · cases hn
      · simp at hn; omega
    · split at hn
      · cases hn
      · simp at hn; omega
theorem stL_len (c b l : Int) : (stL c b l).length ≤ 6 := by
  unfold stL
  simp only [List.length_append]
  split <;> split <;> split <;> simp
theorem flat_len : ∀ (zs : List Int), (zs.flatMap form).length ≤ 8 * zs.length
  | [] => by simp
  | z :: r => by
    have h1 := form_length z
    have h2 := sz_le z
    have h3 := flat_len r
    simp only [List.flatMap_cons, List.length_append, List.length_cons]
    omega
theorem nmB_len (zs : List Int) : (nmB zs).length ≤ 8 * zs.length := by
  unfold nmB
  split
  · exact flat_len zs
  · simp
theorem flat_bytes (zs : List Int) : ∀ y ∈ zs.flatMap form, 0 ≤ y ∧ y < 256 := by
  intro y hy
  obtain ⟨n, _, hn⟩ := List.mem_flatMap.1 hy
  exact form_bytes n y hn
/-- PutSettings. -/
def stE (c b l : Int) : Int := nmE (stL c b l)
def stB (c b l : Int) : List Int := if stE c b l = 0 then frB 4 (nmB (stL c b l)) else []
theorem fr4 (c b l : Int) : frE 4 (nmB (stL c b l)).length = 0 := by
  have h1 := nmB_len (stL c b l)
  have h2 := stL_len c b l
  unfold frE
  rw [if_neg (by decide), if_neg (by omega)]
/-- PutGoaway. -/
def gaE (n : Int) : Int := nmE [n]
def gaB (n : Int) : List Int := if gaE n = 0 then frB 7 (nmB [n]) else []
theorem fr7 (n : Int) : frE 7 (nmB [n]).length = 0 := by
  have h1 := nmB_len [n]
  unfold frE
  rw [if_neg (by decide), if_neg (by simp at h1; omega)]
theorem gaE_eq (n : Int) : gaE n = if n < 0 ∨ 4611686018427387903 < n then 10 else 0 := by
  unfold gaE nmE
  by_cases h : n < 0 ∨ 4611686018427387903 < n
  · rw [if_pos h, if_neg (by intro x; have := x n (by simp); omega)]
  · rw [if_neg h, if_pos (by intro m hm; simp at hm; subst hm; omega)]
theorem frB_len (k : Int) (p : List Int) : (frB k p).length ≤ 16 + p.length := by
  unfold frB
  have h1 := form_length k
  have h2 := sz_le k
  have h3 := form_length (p.length : Int)
  have h4 := sz_le (p.length : Int)
  split
  · simp only [List.length_append]; omega
  · simp
theorem frB_bytes {k : Int} {p : List Int} (h : ∀ y ∈ p, 0 ≤ y ∧ y < 256) : ∀ y ∈ frB k p, 0 ≤ y ∧ y < 256 := by
  intro y hy
  unfold frB at hy
  split at hy
  · simp only [List.mem_append] at hy
    rcases hy with hy | hy | hy
    · exact form_bytes _ y hy
    · exact form_bytes _ y hy
    · exact h y hy
  · cases hy
end Go.Proofs.Ytdlefmlienfjhaa
