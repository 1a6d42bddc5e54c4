/-
  Parameters that are right for a side are read back from their bytes, also with a parameter behind them that the table does not name; what is read is right: plain mathematics.
-/
import Derived.Test.YtidbimhcebfjfaaBkQ
namespace Go.Proofs.Ytidbimhcebfjfaa
open Go.RowKit
set_option linter.unusedVariables false

theorem encT_pre (m : Pm) (k : Nat) : ∀ d, ∃ r, encT m (k + d) = encT m k ++ r
  | 0 => ⟨[], by simp⟩
  | d + 1 => by
    obtain ⟨r, h⟩ := encT_pre m k d
    refine ⟨r ++ parB m (idl.getD (k + d) 0), ?_⟩
    show encT m (k + d) ++ parB m (idl.getD (k + d) 0) = _
    rw [h, List.append_assoc]
section
variable {m : Pm} {srv : Bool} {tail : List Int}
/-- The first k parameters are read as they were written. -/
theorem enc_far (hr : allR m srv = true) : ∀ k, k ≤ 16 → ∃ K seen, decM (encT m 16 ++ tail) srv ((encT m 16 ++ tail).length + 1) 0 [] usM = decM (encT m 16 ++ tail) srv K ((encT m k).length : Int) seen (st m k) ∧ (encT m 16 ++ tail).length < K + (encT m k).length ∧ ∀ j, j ∈ seen → j ∈ idl.take k := by
  intro k
  induction k with
  | zero =>
    intro _
    refine ⟨(encT m 16 ++ tail).length + 1, [], ?_, by simp [encT], by simp⟩
    rw [st_zero]; rfl
  | succ k ih =>
    intro hk
    obtain ⟨K, seen, e, hK, hs⟩ := ih (by omega)
    obtain ⟨r, hp⟩ := encT_pre m (k + 1) (16 - (k + 1))
    rw [show k + 1 + (16 - (k + 1)) = 16 by omega] at hp
    by_cases ht : tld m (idl.getD k 0) = true
    · have hB : parB m (idl.getD k 0) = form ((idl.getD k 0 : Nat) : Int) ++ form ((bts m (idl.getD k 0)).length : Int) ++ bts m (idl.getD k 0) := by unfold parB; rw [if_pos ht]
      have hT : encT m (k + 1) = encT m k ++ (form ((idl.getD k 0 : Nat) : Int) ++ form ((bts m (idl.getD k 0)).length : Int) ++ bts m (idl.getD k 0)) := by rw [← hB]; rfl
      have hz : encT m 16 ++ tail = encT m k ++ (form ((idl.getD k 0 : Nat) : Int) ++ form ((bts m (idl.getD k 0)).length : Int) ++ bts m (idl.getD k 0)) ++ (r ++ tail) := by rw [hp, hT]; simp only [List.append_assoc]
      have hl := bts_len hr (k := k) (by omega) ht
      have hi := idl_le k (by omega)
      have hP : parO (encT m 16 ++ tail) ((encT m k).length : Int) = (((idl.getD k 0 : Nat) : Int), bts m (idl.getD k 0), ((encT m (k + 1)).length : Int), 0) := by
        rw [hz, parO_at (by omega) (by omega) (by omega), ← hT]
      have hlen : (encT m (k + 1)).length ≤ (encT m 16 ++ tail).length := by rw [hp]; simp only [List.length_append]; omega
      have hf : 0 < (form ((idl.getD k 0 : Nat) : Int)).length := by
        rw [form_length]
        have := sz_some (n := ((idl.getD k 0 : Nat) : Int)) (by omega) (by omega)
        omega
      have hmore : (encT m k).length < (encT m (k + 1)).length := by rw [hT]; simp only [List.length_append]; omega
      obtain ⟨K', rfl⟩ : ∃ K', K = K' + 1 := ⟨K - 1, by omega⟩
      refine ⟨K', idl.getD k 0 :: seen, ?_, by omega, ?_⟩
      · rw [e, decM_on (m' := st m (k + 1)) (by omega) (by rw [hP]) (by rw [hP]; show ¬ (((idl.getD k 0 : Nat) : Int)).toNat ∈ seen; rw [Int.toNat_natCast]; exact fun h => not_mem (by omega) (hs _ h)) (by rw [hP]; show takesM (st m k) (((idl.getD k 0 : Nat) : Int)).toNat _ srv = _; rw [Int.toNat_natCast]; exact st_told hr (by omega) ht), hP]
        show decM _ srv K' _ ((((idl.getD k 0 : Nat) : Int)).toNat :: seen) _ = _
        rw [Int.toNat_natCast]
      · intro j hj
        rcases List.mem_cons.1 hj with h | h
        · exact (take_mem (by omega)).2 (.inr h)
        · exact (take_mem (by omega)).2 (.inl (hs j h))
    · have hf : tld m (idl.getD k 0) = false := by simpa using ht
      have hT : encT m (k + 1) = encT m k := by
        show encT m k ++ parB m (idl.getD k 0) = _
        unfold parB; rw [if_neg ht, List.append_nil]
      refine ⟨K, seen, ?_, by rw [hT]; exact hK, fun j hj => (take_mem (by omega)).2 (.inl (hs j hj))⟩
      rw [e, hT, st_skip (by omega) hf]
/-- .. all of them; and one more behind them that the table does not name. -/
theorem dec_enc (hr : allR m srv = true) : decA (encT m 16) srv = (st m 16, 0, 0) := by
  have hl := encT_len hr 16 (by omega)
  obtain ⟨K, seen, e, hK, hs⟩ := enc_far (tail := []) hr 16 (by omega)
  rw [List.append_nil] at e hK
  unfold decA
  rw [if_neg (by omega), e, decM_end (by omega)]
theorem dec_enc_more {i : Nat} {v : List Int} (hr : allR m srv = true) (h0 : 16 < i) (h1 : (i : Int) ≤ 4611686018427387903) (hv : v.length ≤ 15000) :
    decA (encT m 16 ++ (form (i : Int) ++ form (v.length : Int) ++ v)) srv = (st m 16, 0, 0) := by
  have hl := encT_len hr 16 (by omega)
  obtain ⟨K, seen, e, hK, hs⟩ := enc_far (tail := form (i : Int) ++ form (v.length : Int) ++ v) hr 16 (by omega)
  have hP := parO_at (i := (i : Int)) (v := v) (z0 := encT m 16) (z2 := []) (by omega) h1 (by omega)
  rw [List.append_nil] at hP
  have f1 := form_len (i : Int)
  have f2 := form_len (v.length : Int)
  have f3 : 0 < (form (i : Int)).length := by
    rw [form_length]
    have := sz_some (n := (i : Int)) (by omega) h1
    omega
  have L : (encT m 16 ++ (form (i : Int) ++ form (v.length : Int) ++ v)).length = (encT m 16).length + ((form (i : Int)).length + (form (v.length : Int)).length + v.length) := by simp only [List.length_append]
  obtain ⟨K', rfl⟩ : ∃ K', K = K' + 1 := ⟨K - 1, by omega⟩
  have hk0 : kd i = 0 := by unfold kd; rw [if_neg (by omega), if_neg (by omega), if_neg (by omega), if_pos (by omega)]
  have hno : ¬ i ∈ seen := by
    intro h
    have h2 := hs i h
    have h3 : ∀ j ∈ idl.take 16, j ≤ 16 := by decide
    have := h3 i h2
    omega
  have htk : takesM (st m 16) i v srv = some (st m 16) := by
    unfold takesM tkn rgt
    simp [hk0]
  unfold decA
  rw [if_neg (by omega), e, decM_on (m' := st m 16) (by omega) (by rw [hP]) (by rw [hP]; show ¬ ((i : Int)).toNat ∈ seen; rw [Int.toNat_natCast]; exact hno) (by rw [hP]; show takesM (st m 16) ((i : Int)).toNat _ srv = _; rw [Int.toNat_natCast]; exact htk), hP]
  rw [decM_end (Int.le_refl _)]
end

/-! ### what is read is right -/
theorem rgt_key {a m : Pm} {i : Nat} {srv : Bool} (q1 : a.num i = m.num i) (q3 : a.has i = m.has i) (q4 : a.byt i = m.byt i) : rgt a i srv = rgt m i srv := rgt_like q1 q3 (fun _ => q4)
theorem tkn_other {m m1 : Pm} {i j : Nat} {v : List Int} (ht : tkn m i v = some m1) (hj : j ≠ i) : m1.num j = m.num j ∧ m1.has j = m.has j ∧ m1.byt j = m.byt j := by
  unfold tkn at ht
  by_cases h1 : kd i = 1
  · rw [if_pos h1] at ht
    by_cases hr : ((rd v 0).2.2 == 0 && (rd v 0).2.1 == (v.length : Int)) = true
    · rw [if_pos hr] at ht
      rw [← Option.some.inj ht]
      refine ⟨?_, rfl, rfl⟩
      show (if j = i then (rd v 0).1 else m.num j) = _
      rw [if_neg hj]
    · rw [if_neg hr] at ht; cases ht
  · rw [if_neg h1] at ht
    by_cases h2 : kd i = 2 ∨ kd i = 3
    · rw [if_pos h2] at ht
      rw [← Option.some.inj ht]
      refine ⟨rfl, ?_, ?_⟩
      · show (if j = i then true else m.has j) = _
        rw [if_neg hj]
      · show (if j = i then v else m.byt j) = _
        rw [if_neg hj]
    · rw [if_neg h2] at ht
      by_cases h4 : kd i = 4
      · rw [if_pos h4] at ht
        by_cases hv : v = []
        · rw [if_pos hv] at ht; rw [← Option.some.inj ht]; exact ⟨rfl, rfl, rfl⟩
        · rw [if_neg hv] at ht; cases ht
      · rw [if_neg h4] at ht; rw [← Option.some.inj ht]; exact ⟨rfl, rfl, rfl⟩
theorem allR_takes {m m1 : Pm} {i : Nat} {v : List Int} {srv : Bool} (hm : allR m srv = true) (ht : takesM m i v srv = some m1) : allR m1 srv = true := by
  obtain ⟨h1, h2⟩ := takesM_some ht
  unfold allR at hm ⊢
  rw [List.all_eq_true] at hm ⊢
  intro j hj
  by_cases e : j = i
  · rw [e]; exact h2
  · obtain ⟨a, b, c⟩ := tkn_other h1 e
    rw [rgt_key a b c]; exact hm j hj
theorem allR_us (srv : Bool) : allR usM srv = true := by cases srv <;> decide
theorem allR_dec {zs : List Int} {srv : Bool} : ∀ (k : Nat) (p : Int) (seen : List Nat) (m : Pm), allR m srv = true → (decM zs srv k p seen m).2.2 = 0 → allR (decM zs srv k p seen m).1 srv = true := by
  intro k
  induction k with
  | zero => intro p seen m h _; exact h
  | succ k ih =>
    intro p seen m h hz
    by_cases h1 : (zs.length : Int) ≤ p
    · rw [decM_end h1]; exact h
    · by_cases h2 : (parO zs p).2.2.2 = 0
      · by_cases h3 : (parO zs p).1.toNat ∈ seen
        · rw [decM_twice h1 h2 h3] at hz; simp at hz
        · cases h4 : takesM m (parO zs p).1.toNat (parO zs p).2.1 srv with
          | none => rw [decM_no h1 h2 h3 h4] at hz; simp at hz
          | some m' => rw [decM_on h1 h2 h3 h4] at hz ⊢; exact ih _ _ _ (allR_takes h h4) hz
      · rw [decM_short h1 h2] at hz; simp at hz
theorem allR_decA {zs : List Int} {srv : Bool} (h : (decA zs srv).2.2 = 0) : allR (decA zs srv).1 srv = true := by
  unfold decA at h ⊢
  by_cases hl : 16384 < zs.length
  · rw [if_pos hl] at h; simp at h
  · rw [if_neg hl] at h ⊢; exact allR_dec _ _ _ _ (allR_us srv) h
/-- What was read back of parameters is like them: numbers, marks, and the bytes that they have. -/
theorem st_like (m : Pm) {i : Nat} (h : i < 17) : (kd i = 1 → (st m 16).num i = m.num i) ∧ (kd i = 2 ∨ kd i = 3 → (st m 16).has i = m.has i ∧ (m.has i = true → (st m 16).byt i = m.byt i)) ∧ (st m 16).mv = m.mv := by
  have hin : kd i ≠ 0 → i ∈ idl.take 16 := by
    have h3 : ∀ i : Fin 17, kd i.1 ≠ 0 → i.1 ∈ idl.take 16 := by decide
    exact h3 ⟨i, h⟩
  refine ⟨fun h1 => ?_, fun h2 => ⟨?_, fun hb => ?_⟩, ?_⟩
  · show (if i ∈ idl.take 16 ∧ kd i = 1 then m.num i else usM.num i) = _
    rw [if_pos ⟨hin (by omega), h1⟩]
  · show (if i ∈ idl.take 16 ∧ (kd i = 2 ∨ kd i = 3) then m.has i else false) = _
    rw [if_pos ⟨hin (by omega), h2⟩]
  · show (if i ∈ idl.take 16 ∧ (kd i = 2 ∨ kd i = 3) ∧ m.has i = true then m.byt i else []) = _
    rw [if_pos ⟨hin (by omega), h2, hb⟩]
  · show (if 12 ∈ idl.take 16 then m.mv else false) = _
    rw [if_pos (by decide)]
/-- Of parameters that hold nothing beyond the table, all is read back. -/
theorem st_std {m : Pm} (hm : Std m) : (∀ i, (st m 16).num i = m.num i) ∧ (∀ i, (st m 16).has i = m.has i) ∧ (∀ i, m.has i = true → (st m 16).byt i = m.byt i) ∧ (st m 16).mv = m.mv := by
  have hin : ∀ i, kd i ≠ 0 → i < 17 := by
    intro i hi
    obtain ⟨k, hk, e⟩ := kd_ids hi
    have := idl_le k hk
    omega
  refine ⟨fun i => ?_, fun i => ?_, fun i hb => ?_, (st_like m (i := 0) (by omega)).2.2⟩
  · by_cases h1 : kd i = 1
    · exact (st_like m (hin i (by omega))).1 h1
    · rw [hm.n i h1]
      show (if i ∈ idl.take 16 ∧ kd i = 1 then m.num i else usM.num i) = _
      rw [if_neg (fun h => h1 h.2), std_us.n i h1]
  · by_cases h2 : kd i = 2 ∨ kd i = 3
    · exact ((st_like m (hin i (by omega))).2.1 h2).1
    · rw [hm.h i h2]
      show (if i ∈ idl.take 16 ∧ (kd i = 2 ∨ kd i = 3) then m.has i else false) = _
      rw [if_neg (fun h => h2 h.2)]
  · by_cases h2 : kd i = 2 ∨ kd i = 3
    · exact ((st_like m (hin i (by omega))).2.1 h2).2 hb
    · rw [hm.h i h2] at hb; cases hb
end Go.Proofs.Ytidbimhcebfjfaa
