/-
  What the law that reads twice needs of the mathematics: bytes that are read are bytes; an error leaves nothing behind; what was read back is alike.
-/
import Derived.Test.YtidbimhcebfjfaaBkR
import Derived.Test.YtidbimhcebfjfaaDcB
namespace Go.Proofs.Ytidbimhcebfjfaa
open Go.RowKit
set_option linter.unusedVariables false
set_option maxRecDepth 20000

theorem takeR_le1 {zs : List Int} {p f k : Int} : (takeR zs p f k).1.length ≤ zs.length := by
  unfold takeR
  repeat' split
  all_goals first | exact Nat.zero_le _ | (rw [List.length_take, List.length_drop]; omega)
/-- Bytes that are read are bytes, and not more than were given. -/
def Rng (n : Nat) (v : List Int) : Prop := v.length ≤ n ∧ ∀ y ∈ v, 0 ≤ y ∧ y < 256
theorem rng_nil (n : Nat) : Rng n [] := ⟨Nat.zero_le _, fun y hy => by cases hy⟩
theorem rng_dec {zs : List Int} {srv : Bool} (hz : ∀ y ∈ zs, 0 ≤ y ∧ y < 256) : ∀ (k : Nat) (p : Int) (seen : List Nat) (m : Pm), (∀ i, kd i = 2 ∨ kd i = 3 → Rng zs.length (m.byt i)) → ∀ i, kd i = 2 ∨ kd i = 3 → Rng zs.length ((decM zs srv k p seen m).1.byt i) := by
  intro k
  induction k with
  | zero => intro p seen m h; exact h
  | succ k ih =>
    intro p seen m h
    by_cases h1 : (zs.length : Int) ≤ p
    · rw [decM_end h1]; exact h
    · by_cases h2 : (parO zs p).2.2.2 = 0
      · by_cases h3 : (parO zs p).1.toNat ∈ seen
        · rw [decM_twice h1 h2 h3]; exact fun _ _ => rng_nil _
        · cases h4 : takesM m (parO zs p).1.toNat (parO zs p).2.1 srv with
          | none => rw [decM_no h1 h2 h3 h4]; exact fun _ _ => rng_nil _
          | some m' =>
            rw [decM_on h1 h2 h3 h4]
            refine ih _ _ _ (fun i hi => ?_)
            rw [tk_byt h4 i hi]
            by_cases e : i = (parO zs p).1.toNat
            · rw [if_pos e]; exact ⟨takeR_le1, parO_val hz⟩
            · rw [if_neg e]; exact h i hi
      · rw [decM_short h1 h2]; exact fun _ _ => rng_nil _
theorem rng_decA {zs : List Int} (hz : ∀ y ∈ zs, 0 ≤ y ∧ y < 256) (srv : Bool) (i : Nat) (hi : kd i = 2 ∨ kd i = 3) : Rng zs.length ((decA zs srv).1.byt i) := by
  unfold decA
  by_cases h : 16384 < zs.length
  · rw [if_pos h]; exact rng_nil _
  · rw [if_neg h]; exact rng_dec hz _ _ _ _ (fun _ _ => rng_nil _) i hi
theorem bad_dec {zs : List Int} {srv : Bool} (hz : ∀ y ∈ zs, 0 ≤ y ∧ y < 256) : ∀ (k : Nat) (p : Int) (seen : List Nat) (m : Pm), 0 ≤ p → p ≤ zs.length → (decM zs srv k p seen m).2.2 ≠ 0 → (decM zs srv k p seen m).1 = zeM ∧ 0 ≤ (decM zs srv k p seen m).2.1 ∧ (decM zs srv k p seen m).2.1 ≤ zs.length := by
  intro k
  induction k with
  | zero => intro p seen m h0 h1 h; exact absurd rfl h
  | succ k ih =>
    intro p seen m h0 hp h
    by_cases h1 : (zs.length : Int) ≤ p
    · rw [decM_end h1] at h; exact absurd rfl h
    · by_cases h2 : (parO zs p).2.2.2 = 0
      · by_cases h3 : (parO zs p).1.toNat ∈ seen
        · rw [decM_twice h1 h2 h3]; exact ⟨rfl, h0, hp⟩
        · cases h4 : takesM m (parO zs p).1.toNat (parO zs p).2.1 srv with
          | none => rw [decM_no h1 h2 h3 h4]; exact ⟨rfl, h0, hp⟩
          | some m' =>
            have hon := parO_on hz h0 hp h2
            rw [decM_on h1 h2 h3 h4] at h ⊢
            exact ih _ _ _ (by omega) hon.2 h
      · rw [decM_short h1 h2]; exact ⟨rfl, h0, hp⟩
theorem bad_decA {zs : List Int} {srv : Bool} (hz : ∀ y ∈ zs, 0 ≤ y ∧ y < 256) (h : (decA zs srv).2.2 ≠ 0) : (decA zs srv).1 = zeM ∧ 0 ≤ (decA zs srv).2.1 ∧ (decA zs srv).2.1 ≤ zs.length := by
  unfold decA at h ⊢
  by_cases hl : 16384 < zs.length
  · rw [if_pos hl]; exact ⟨rfl, by show (0 : Int) ≤ 0; omega, by show (0 : Int) ≤ _; omega⟩
  · rw [if_neg hl] at h ⊢; exact bad_dec hz _ _ _ _ (by omega) (by omega) h
theorem bts_bytes {m : Pm} (hb : ∀ i, kd i = 2 ∨ kd i = 3 → ∀ y ∈ m.byt i, 0 ≤ y ∧ y < 256) {i : Nat} (hi : kd i ≠ 0) : ∀ y ∈ bts m i, 0 ≤ y ∧ y < 256 := by
  have hle := kd_le i
  unfold bts
  by_cases h1 : kd i = 1
  · rw [if_pos h1]; exact form_bytes _
  · rw [if_neg h1]
    by_cases h4 : kd i = 4
    · rw [if_pos h4]; intro y hy; cases hy
    · rw [if_neg h4]; exact hb i (by omega)
theorem encT_bytes {m : Pm} (hb : ∀ i, kd i = 2 ∨ kd i = 3 → ∀ y ∈ m.byt i, 0 ≤ y ∧ y < 256) : ∀ k, k ≤ 16 → ∀ y ∈ encT m k, 0 ≤ y ∧ y < 256 := by
  intro k
  induction k with
  | zero => intro _ y hy; cases hy
  | succ k ih =>
    intro hk y hy
    have hy' : y ∈ encT m k ++ parB m (idl.getD k 0) := hy
    rcases List.mem_append.1 hy' with h | h
    · exact ih (by omega) y h
    · unfold parB at h
      by_cases ht : tld m (idl.getD k 0) = true
      · rw [if_pos ht] at h
        rcases List.mem_append.1 h with h | h
        · rcases List.mem_append.1 h with h | h
          · exact form_bytes _ y h
          · exact form_bytes _ y h
        · exact bts_bytes hb (idl_kd k (by omega)) y h
      · rw [if_neg ht] at h; cases h
theorem alike_ze (W : World) (s1 : Nat → Sv) : Alike W (nrm zeM) zeM (nrS s1) (fun _ => nilS) := by
  refine ⟨fun i _ => ?_, fun i _ => ?_, fun i _ hh => ?_, rfl⟩
  · show (if kd i = 1 then (0 : Int) else 0) = 0
    by_cases h : kd i = 1
    · rw [if_pos h]
    · rw [if_neg h]
  · show (if kd i = 2 ∨ kd i = 3 then false else false) = false
    by_cases h : kd i = 2 ∨ kd i = 3
    · rw [if_pos h]
    · rw [if_neg h]
  · have hh' : (if kd i = 2 ∨ kd i = 3 then false else false) = true := hh
    by_cases h : kd i = 2 ∨ kd i = 3
    · rw [if_pos h] at hh'; cases hh'
    · rw [if_neg h] at hh'; cases hh'
/-- What was read back of any parameters is alike. -/
theorem alike_st {W : World} {M : Pm} {s1 s2 : Nat → Sv} (b1 : By W M s1) (b2 : By W (st M 16) s2) (hb : ∀ i, kd i = 2 ∨ kd i = 3 → (M.byt i).length ≤ 140737488355328) : Alike W (nrm M) (nrm (st M 16)) (nrS s1) (nrS s2) := by
  refine ⟨fun i h17 => ?_, fun i h17 => ?_, fun i h17 hh => ?_, ?_⟩
  · show (if kd i = 1 then M.num i else 0) = (if kd i = 1 then (st M 16).num i else 0)
    by_cases h : kd i = 1
    · rw [if_pos h, if_pos h, (st_like M h17).1 h]
    · rw [if_neg h, if_neg h]
  · show (if kd i = 2 ∨ kd i = 3 then M.has i else false) = (if kd i = 2 ∨ kd i = 3 then (st M 16).has i else false)
    by_cases h : kd i = 2 ∨ kd i = 3
    · rw [if_pos h, if_pos h, ((st_like M h17).2.1 h).1]
    · rw [if_neg h, if_neg h]
  · have hh' : (if kd i = 2 ∨ kd i = 3 then M.has i else false) = true := hh
    by_cases hk : kd i = 2 ∨ kd i = 3
    · rw [if_pos hk] at hh'
      have e1 : nrS s1 i = s1 i := by show (if kd i = 2 ∨ kd i = 3 then s1 i else nilS) = s1 i; rw [if_pos hk]
      have e2 : nrS s2 i = s2 i := by show (if kd i = 2 ∨ kd i = 3 then s2 i else nilS) = s2 i; rw [if_pos hk]
      have hst := ((st_like M h17).2.1 hk).2 hh'
      obtain ⟨c1, c2⟩ := b2 i hk
      rw [hst] at c1 c2
      rw [e1, e2]
      exact ⟨(b1 i hk).1, (b1 i hk).2, c1, c2, by rw [← (b1 i hk).2]; exact hb i hk⟩
    · rw [if_neg hk] at hh'; cases hh'
  · exact ((st_like M (i := 0) (by omega)).2.2).symm
end Go.Proofs.Ytidbimhcebfjfaa
