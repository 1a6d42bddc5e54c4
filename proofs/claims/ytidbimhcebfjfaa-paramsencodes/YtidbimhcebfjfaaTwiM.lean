/-
  Parameters that were read are read alike with more bytes behind them, and bytes behind others as those alone: plain mathematics.
-/
import Derived.Test.YtidbimhcebfjfaaDecM
namespace Go.Proofs.Ytidbimhcebfjfaa
open Go.RowKit
set_option linter.unusedVariables false

theorem rdAt_cons (x : Int) (r : List Int) (p : Int) : rdAt (x :: r) p = if r.length + 1 < width x then (0, 0, 12) else (val (x % 64) (r.take (width x - 1)), p + width x, 0) := rfl
theorem rd_app {zs ys : List Int} {p m e : Int} (h : rd zs p = (m, e, 0)) : rd (zs ++ ys) p = (m, e, 0) := by
  unfold rd at h ⊢
  by_cases hp : p < 0 ∨ (zs.length : Int) < p
  · rw [if_pos hp] at h; simp at h
  · rw [if_neg hp] at h
    rw [if_neg (by rw [List.length_append]; omega), List.drop_append_of_le_length (by omega)]
    rcases rdAt_ok h with ⟨_, x, r, hl, hw, hm, he⟩ | ⟨hf, _⟩
    · rw [hl]
      rw [hl] at hw
      simp only [List.length_cons] at hw
      rw [List.cons_append, rdAt_cons, if_neg (by rw [List.length_append]; omega), hm, he, List.take_append_of_le_length (by omega)]
    · cases hf
theorem rd_shift {xs zs : List Int} {p m e : Int} (h0 : 0 ≤ p) (h : rd zs p = (m, e, 0)) : rd (xs ++ zs) (xs.length + p) = (m, xs.length + e, 0) := by
  unfold rd at h ⊢
  by_cases hp : p < 0 ∨ (zs.length : Int) < p
  · rw [if_pos hp] at h; simp at h
  · rw [if_neg hp] at h
    have e1 : ((xs.length : Int) + p).toNat = xs.length + p.toNat := by omega
    rw [if_neg (by rw [List.length_append]; omega), e1, List.drop_append, List.drop_of_length_le (by omega), List.nil_append, Nat.add_sub_cancel_left]
    rcases rdAt_ok h with ⟨_, x, r, hl, hw, hm, he⟩ | ⟨hf, _⟩
    · rw [hl]
      rw [hl] at hw
      simp only [List.length_cons] at hw
      rw [rdAt_cons, if_neg (by omega), hm, he]
      congr 2
      omega
    · cases hf
section
variable {zs ys xs : List Int} {p : Int}
theorem numR_zero {q : Int} {m : Int} (h : rd zs p = (m, q, 0)) : numR zs p 0 = (m, q, 0) := by unfold numR; rw [if_pos rfl, h]; rfl
theorem takeR_zero {k : Int} (h : (takeR zs p 0 k).2.2 = 0) : 0 ≤ k ∧ k ≤ zs.length - p ∧ takeR zs p 0 k = ((zs.drop p.toNat).take k.toNat, p + k, 0) := by
  unfold takeR at h ⊢
  rw [if_neg (by simp)] at h ⊢
  by_cases h1 : k < 0
  · rw [if_pos h1] at h; simp at h
  · rw [if_neg h1] at h ⊢
    by_cases h2 : (zs.length : Int) - p < k
    · rw [if_pos h2] at h; simp at h
    · rw [if_neg h2]; exact ⟨by omega, by omega, rfl⟩
theorem takeR_of {k : Int} (h0 : 0 ≤ k) (h1 : k ≤ zs.length - p) : takeR zs p 0 k = ((zs.drop p.toNat).take k.toNat, p + k, 0) := by
  unfold takeR; rw [if_neg (by simp), if_neg (by omega), if_neg (by omega)]
/-- What a whole parameter is made of. -/
theorem parO_ok (hz : ∀ y ∈ zs, 0 ≤ y ∧ y < 256) (h0 : 0 ≤ p) (h1 : p ≤ zs.length) (h : (parO zs p).2.2.2 = 0) :
    ∃ i a l b, rd zs p = (i, a, 0) ∧ rd zs a = (l, b, 0) ∧ 0 ≤ a ∧ 0 ≤ b ∧ 0 ≤ l ∧ l ≤ zs.length - b ∧ parO zs p = (i, (zs.drop b.toNat).take l.toNat, b + l, 0) := by
  unfold parO at h ⊢
  dsimp only at h
  have a1 := takeR_f h
  have a2 := numR_f a1
  obtain ⟨r1, r2⟩ := numR_on hz a2
  have b1 := numR_place (f := 0) hz h0 h1
  rw [a2] at a1 h ⊢
  obtain ⟨r3, r4⟩ := numR_on hz a1
  have b2 := numR_place (f := 0) hz b1.1 b1.2.1
  rw [a1] at h ⊢
  obtain ⟨c1, c2, c3⟩ := takeR_zero h
  rw [c3]
  exact ⟨_, _, _, _, r1, r3, b1.1, b2.1, c1, c2, rfl⟩
theorem parO_mk {i a l b : Int} (r1 : rd zs p = (i, a, 0)) (r2 : rd zs a = (l, b, 0)) (h0 : 0 ≤ l) (h1 : l ≤ zs.length - b) : parO zs p = (i, (zs.drop b.toNat).take l.toNat, b + l, 0) := by
  unfold parO
  rw [numR_zero r1]
  dsimp only
  rw [numR_zero r2]
  dsimp only
  rw [takeR_of h0 h1]
theorem parO_app (hz : ∀ y ∈ zs, 0 ≤ y ∧ y < 256) (h0 : 0 ≤ p) (h1 : p ≤ zs.length) (h : (parO zs p).2.2.2 = 0) : parO (zs ++ ys) p = parO zs p := by
  obtain ⟨i, a, l, b, r1, r2, ha, hb, hl, hl2, e⟩ := parO_ok hz h0 h1 h
  rw [e, parO_mk (rd_app r1) (rd_app r2) hl (by rw [List.length_append]; omega)]
  have : ((zs ++ ys).drop b.toNat).take l.toNat = (zs.drop b.toNat).take l.toNat := by
    rw [List.drop_append_of_le_length (by omega), List.take_append_of_le_length (by rw [List.length_drop]; omega)]
  rw [this]
theorem parO_shift (hz : ∀ y ∈ zs, 0 ≤ y ∧ y < 256) (h0 : 0 ≤ p) (h1 : p ≤ zs.length) (h : (parO zs p).2.2.2 = 0) : parO (xs ++ zs) (xs.length + p) = ((parO zs p).1, (parO zs p).2.1, xs.length + (parO zs p).2.2.1, 0) := by
  obtain ⟨i, a, l, b, r1, r2, ha, hb, hl, hl2, e⟩ := parO_ok hz h0 h1 h
  rw [e, parO_mk (rd_shift h0 r1) (rd_shift ha r2) hl (by rw [List.length_append]; omega)]
  have e1 : ((xs.length : Int) + b).toNat = xs.length + b.toNat := by omega
  have : ((xs ++ zs).drop ((xs.length : Int) + b).toNat).take l.toNat = (zs.drop b.toNat).take l.toNat := by
    rw [e1, List.drop_append, List.drop_of_length_le (by omega), List.nil_append, Nat.add_sub_cancel_left]
  rw [this]
  show (i, _, (xs.length : Int) + b + l, (0 : Int)) = (i, _, (xs.length : Int) + (b + l), (0 : Int))
  rw [Int.add_assoc]
end
/-- Bytes that are read whole are read so far with more behind them; the ids have then been there. -/
theorem dec_far {zs ys : List Int} {srv : Bool} (hz : ∀ y ∈ zs, 0 ≤ y ∧ y < 256) : ∀ (k : Nat) (p : Int) (seen : List Nat) (m : Pm), 0 ≤ p → p ≤ zs.length → (zs.length : Int) - p < k → (decM zs srv k p seen m).2.2 = 0 →
    ∀ K, ∃ k1 seen1, decM (zs ++ ys) srv (k + K) p seen m = decM (zs ++ ys) srv (k1 + K) zs.length seen1 (decM zs srv k p seen m).1 ∧ (∀ i, i ∈ seen → i ∈ seen1) ∧ (p < zs.length → (parO zs p).2.2.2 = 0 ∧ (parO zs p).1.toNat ∈ seen1) ∧ ∀ i, i ∈ seen1 → i ∈ seen ∨ ∃ q : Int, 0 ≤ q ∧ q ≤ zs.length ∧ (parO zs q).2.2.2 = 0 ∧ (parO zs q).1.toNat = i := by
  intro k
  induction k with
  | zero => intro p seen m h0 h1 hk; omega
  | succ k ih =>
    intro p seen m h0 h1 hk h K
    by_cases he : (zs.length : Int) ≤ p
    · have hp : p = zs.length := by omega
      subst hp
      rw [decM_end he]
      exact ⟨k + 1, seen, rfl, fun i hi => hi, fun h => by omega, fun i hi => .inl hi⟩
    · by_cases h3 : (parO zs p).2.2.2 = 0
      · by_cases h4 : (parO zs p).1.toNat ∈ seen
        · rw [decM_twice he h3 h4] at h; simp at h
        · cases ht : takesM m (parO zs p).1.toNat (parO zs p).2.1 srv with
          | none => rw [decM_no he h3 h4 ht] at h; simp at h
          | some m' =>
            have hon := parO_on hz h0 h1 h3
            rw [decM_on he h3 h4 ht] at h ⊢
            obtain ⟨k1, s1, e1, s2, _, s3⟩ := ih _ _ _ (by omega) hon.2 (by omega) h K
            have hap := parO_app (ys := ys) hz h0 h1 h3
            have he' : ¬ (((zs ++ ys).length : Nat) : Int) ≤ p := by rw [List.length_append]; omega
            refine ⟨k1, s1, ?_, fun i hi => s2 i (List.mem_cons_of_mem _ hi), fun _ => ⟨h3, s2 _ (List.mem_cons_self ..)⟩, fun i hi => ?_⟩
            · have ek : k + 1 + K = (k + K) + 1 := by omega
              rw [ek, decM_on he' (by rw [hap]; exact h3) (by rw [hap]; exact h4) (by rw [hap]; exact ht), hap]
              exact e1
            · rcases s3 i hi with h5 | h5
              · rcases List.mem_cons.1 h5 with h6 | h6
                · exact .inr ⟨p, h0, h1, h3, h6.symm⟩
                · exact .inl h6
              · exact .inr h5
      · rw [decM_short he h3] at h; simp at h
theorem dec_twice {zs : List Int} {srv : Bool} (hz : ∀ y ∈ zs, 0 ≤ y ∧ y < 256) (h0 : 0 < zs.length) (h1 : zs.length ≤ 8192) (h : (decA zs srv).2.2 = 0) : decA (zs ++ zs) srv = (zeM, (zs.length : Int), 90) := by
  unfold decA at h ⊢
  rw [if_neg (by omega)] at h
  rw [if_neg (by rw [List.length_append]; omega)]
  obtain ⟨k1, s1, e1, _, s2, _⟩ := dec_far (ys := zs) hz (zs.length + 1) 0 [] usM (by omega) (by omega) (by omega) h zs.length
  obtain ⟨f0, f1⟩ := s2 (by omega)
  have hsh := parO_shift (xs := zs) hz (by omega) (by omega) f0
  rw [Int.add_zero] at hsh
  have ek : (zs ++ zs).length + 1 = zs.length + 1 + zs.length := by rw [List.length_append]; omega
  have ek2 : k1 + zs.length = (k1 + (zs.length - 1)) + 1 := by omega
  rw [ek, e1, ek2, decM_twice (by rw [List.length_append]; omega) (by rw [hsh]) (by rw [hsh]; exact f1)]
end Go.Proofs.Ytidbimhcebfjfaa
