/-
  Decoding parameters as plain mathematics: one parameter at a place, and all of them.
-/
import Derived.Test.YtidbimhcebfjfaaTab
import Derived.Test.YtidbimhcebfjfaaReaderTwo
namespace Go.Proofs.Ytidbimhcebfjfaa
open Go.RowKit
set_option linter.unusedVariables false

theorem rd_in {zs : List Int} {p m e : Int} (h : rd zs p = (m, e, 0)) (hz : ∀ y ∈ zs, 0 ≤ y ∧ y < 256) : 0 ≤ p ∧ p + 1 ≤ e ∧ e ≤ zs.length ∧ 0 ≤ m ∧ m ≤ 4611686018427387903 := by
  unfold rd at h
  by_cases hp : p < 0 ∨ (zs.length : Int) < p
  · rw [if_pos hp] at h; simp at h
  · rw [if_neg hp] at h
    rcases rdAt_ok h with ⟨_, x, r, hl, hw, hm, he⟩ | ⟨hf, _⟩
    · have hb : ∀ y ∈ x :: r, 0 ≤ y ∧ y < 256 := by intro y hy; rw [← hl] at hy; exact hz y (List.mem_of_mem_drop hy)
      have hl2 : (zs.drop p.toNat).length = zs.length - p.toNat := List.length_drop
      rw [hl] at hw hl2
      have := least hb hw
      simp only at this
      rw [← hm] at this
      have hwx : 1 ≤ width x := by unfold width; repeat' split
                                   all_goals omega
      omega
    · cases hf
theorem numR_place {zs : List Int} {p f : Int} (hz : ∀ y ∈ zs, 0 ≤ y ∧ y < 256) (h0 : 0 ≤ p) (h1 : p ≤ zs.length) : 0 ≤ (numR zs p f).2.1 ∧ (numR zs p f).2.1 ≤ zs.length ∧ p ≤ (numR zs p f).2.1 ∧ 0 ≤ (numR zs p f).1 ∧ (numR zs p f).1 ≤ 4611686018427387903 := by
  unfold numR
  by_cases hf : f = 0
  · rw [if_pos hf]
    by_cases he : (rd zs p).2.2 = 0
    · rw [if_pos he]
      have := rd_in (zs := zs) (p := p) (m := (rd zs p).1) (e := (rd zs p).2.1) (by rw [← he]) hz
      dsimp only
      omega
    · rw [if_neg he]; dsimp only; omega
  · rw [if_neg hf]; dsimp only; omega
theorem takeR_place {zs : List Int} {p f k : Int} (h0 : 0 ≤ p) (h1 : p ≤ zs.length) : 0 ≤ (takeR zs p f k).2.1 ∧ (takeR zs p f k).2.1 ≤ zs.length ∧ p ≤ (takeR zs p f k).2.1 := by
  unfold takeR
  repeat' split
  all_goals (dsimp only; omega)

/-- A parameter at a place: its id, its value, the place behind it, the fault. -/
def parO (zs : List Int) (p : Int) : Int × List Int × Int × Int :=
  ((numR zs p 0).1, (takeR zs (numR zs (numR zs p 0).2.1 (numR zs p 0).2.2).2.1 (numR zs (numR zs p 0).2.1 (numR zs p 0).2.2).2.2 (numR zs (numR zs p 0).2.1 (numR zs p 0).2.2).1))
theorem numR_on {zs : List Int} {p : Int} (hz : ∀ y ∈ zs, 0 ≤ y ∧ y < 256) (h : (numR zs p 0).2.2 = 0) : rd zs p = ((numR zs p 0).1, (numR zs p 0).2.1, 0) ∧ p + 1 ≤ (numR zs p 0).2.1 := by
  have e : rd zs p = ((rd zs p).1, (rd zs p).2.1, (rd zs p).2.2) := rfl
  unfold numR at h ⊢
  rw [if_pos rfl] at h ⊢
  by_cases he : (rd zs p).2.2 = 0
  · rw [if_pos he]
    rw [he] at e
    exact ⟨e, (rd_in e hz).2.1⟩
  · rw [if_neg he] at h; exact absurd h he
theorem numR_f {zs : List Int} {p f : Int} (h : (numR zs p f).2.2 = 0) : f = 0 := by
  unfold numR at h
  by_cases hf : f = 0
  · exact hf
  · rw [if_neg hf] at h; exact absurd h hf
theorem takeR_f {zs : List Int} {p f k : Int} (h : (takeR zs p f k).2.2 = 0) : f = 0 := by
  unfold takeR at h
  by_cases hf : f = 0
  · exact hf
  · rw [if_pos hf] at h; exact absurd h hf
/-- A parameter that is there whole: the place goes on. -/
theorem parO_on {zs : List Int} {p : Int} (hz : ∀ y ∈ zs, 0 ≤ y ∧ y < 256) (h0 : 0 ≤ p) (h1 : p ≤ zs.length) (h : (parO zs p).2.2.2 = 0) : p + 2 ≤ (parO zs p).2.2.1 ∧ (parO zs p).2.2.1 ≤ zs.length := by
  unfold parO at h ⊢
  dsimp only at h ⊢
  have a1 := takeR_f h
  have a2 := numR_f a1
  obtain ⟨r1, r2⟩ := numR_on hz a2
  have b1 := numR_place (f := 0) hz h0 h1
  rw [a2] at a1 h ⊢
  obtain ⟨r3, r4⟩ := numR_on hz a1
  have b2 := numR_place (f := 0) hz b1.1 b1.2.1
  rw [a1] at h ⊢
  have b3 := takeR_place (zs := zs) (p := (numR zs (numR zs p 0).2.1 0).2.1) (f := 0) (k := (numR zs (numR zs p 0).2.1 0).1) b2.1 b2.2.1
  omega
theorem parO_id {zs : List Int} {p : Int} (hz : ∀ y ∈ zs, 0 ≤ y ∧ y < 256) (h0 : 0 ≤ p) (h1 : p ≤ zs.length) : 0 ≤ (parO zs p).1 ∧ (parO zs p).1 ≤ 4611686018427387903 := (numR_place (f := 0) hz h0 h1).2.2.2
theorem parO_val {zs : List Int} {p : Int} (hz : ∀ y ∈ zs, 0 ≤ y ∧ y < 256) : ∀ y ∈ (parO zs p).2.1, 0 ≤ y ∧ y < 256 := takeR_bytes hz

/-- All parameters from a place on, those of seen having been there. -/
def decM (zs : List Int) (srv : Bool) : Nat → Int → List Nat → Pm → Pm × Int × Int
  | 0, _, _, m => (m, 0, 0)
  | k + 1, p, seen, m =>
    if (zs.length : Int) ≤ p then (m, 0, 0)
    else if (parO zs p).2.2.2 ≠ 0 then (zeM, p, 12)
    else if (parO zs p).1.toNat ∈ seen then (zeM, p, 90)
    else match takesM m (parO zs p).1.toNat (parO zs p).2.1 srv with
      | none => (zeM, p, 91)
      | some m' => decM zs srv k (parO zs p).2.2.1 ((parO zs p).1.toNat :: seen) m'
/-- What Decode tells. -/
def decA (zs : List Int) (srv : Bool) : Pm × Int × Int := if 16384 < zs.length then (zeM, 0, 52) else decM zs srv (zs.length + 1) 0 [] usM
section
variable {zs : List Int} {srv : Bool} {k : Nat} {p : Int} {seen : List Nat} {m : Pm}
theorem decM_end (h : (zs.length : Int) ≤ p) : decM zs srv k p seen m = (m, 0, 0) := by
  cases k with
  | zero => rfl
  | succ k => unfold decM; rw [if_pos h]
theorem decM_short (h : ¬ (zs.length : Int) ≤ p) (h1 : (parO zs p).2.2.2 ≠ 0) : decM zs srv (k + 1) p seen m = (zeM, p, 12) := by
  unfold decM; rw [if_neg h, if_pos h1]
theorem decM_twice (h : ¬ (zs.length : Int) ≤ p) (h1 : (parO zs p).2.2.2 = 0) (h2 : (parO zs p).1.toNat ∈ seen) : decM zs srv (k + 1) p seen m = (zeM, p, 90) := by
  unfold decM; rw [if_neg h, if_neg (by omega), if_pos h2]
theorem decM_no (h : ¬ (zs.length : Int) ≤ p) (h1 : (parO zs p).2.2.2 = 0) (h2 : ¬ (parO zs p).1.toNat ∈ seen) (h3 : takesM m (parO zs p).1.toNat (parO zs p).2.1 srv = none) : decM zs srv (k + 1) p seen m = (zeM, p, 91) := by
  unfold decM; rw [if_neg h, if_neg (by omega), if_neg h2, h3]
theorem decM_on {m' : Pm} (h : ¬ (zs.length : Int) ≤ p) (h1 : (parO zs p).2.2.2 = 0) (h2 : ¬ (parO zs p).1.toNat ∈ seen) (h3 : takesM m (parO zs p).1.toNat (parO zs p).2.1 srv = some m') : decM zs srv (k + 1) p seen m = decM zs srv k (parO zs p).2.2.1 ((parO zs p).1.toNat :: seen) m' := by
  rw [decM, if_neg h, if_neg (by omega), if_neg h2, h3]
end
end Go.Proofs.Ytidbimhcebfjfaa
