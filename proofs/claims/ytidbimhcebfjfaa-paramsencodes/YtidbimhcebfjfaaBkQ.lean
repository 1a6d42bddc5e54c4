/-
  Parameters that are right for a side are read back from their bytes, one told after another: plain mathematics.
-/
import Derived.Test.YtidbimhcebfjfaaBkP
namespace Go.Proofs.Ytidbimhcebfjfaa
open Go.RowKit
set_option linter.unusedVariables false

theorem rgt_like {a b : Pm} {i : Nat} {srv : Bool} (h1 : a.num i = b.num i) (h2 : a.has i = b.has i) (h3 : b.has i = true → a.byt i = b.byt i) : rgt a i srv = rgt b i srv := by
  unfold rgt
  by_cases k1 : kd i = 1
  · rw [if_pos k1, if_pos k1, h1]
  · rw [if_neg k1, if_neg k1, h2]
    by_cases hb : b.has i = true
    · rw [h3 hb]
    · have hf : b.has i = false := by simpa using hb
      rw [hf]; simp
theorem kd_num {i : Nat} (h : kd i = 1) : 0 ≤ lo i ∧ hi i ≤ 4611686018427387903 := by
  obtain ⟨k, hk, e⟩ := kd_ids (i := i) (by omega)
  have := kinds 0 k hk
  rw [e] at this
  rcases this with ⟨_, _, _, a, b⟩ | ⟨a, _⟩ | ⟨a, _⟩ | ⟨a, _⟩
  · exact ⟨a, b⟩
  · omega
  · omega
  · omega
theorem kd_twelve {i : Nat} (h : kd i = 4) : i = 12 := by
  unfold kd at h
  by_cases a1 : i = 0 ∨ i = 2 ∨ i = 16
  · rw [if_pos a1] at h; omega
  · rw [if_neg a1] at h
    by_cases a2 : i = 15
    · rw [if_pos a2] at h; omega
    · rw [if_neg a2] at h
      by_cases a3 : i = 12
      · exact a3
      · rw [if_neg a3] at h
        by_cases a4 : i = 13 ∨ 16 < i
        · rw [if_pos a4] at h; omega
        · rw [if_neg a4] at h; omega
section
variable {m : Pm} {srv : Bool} {k : Nat}
/-- One that is told is taken. -/
theorem tkn_told (hr : allR m srv = true) (hk : k < 16) (ht : tld m (idl.getD k 0) = true) : tkn (st m k) (idl.getD k 0) (bts m (idl.getD k 0)) = some (st m (k + 1)) := by
  have hr' := allR_at hr hk
  have hkd := idl_kd k hk
  have hle := kd_le (idl.getD k 0)
  have hmem := fun j => take_mem (j := j) hk
  have hno := not_mem hk
  generalize idl.getD k 0 = i at *
  unfold tld at ht
  unfold tkn bts
  by_cases h1 : kd i = 1
  · have hn := kd_num h1
    unfold rgt at hr'
    rw [if_pos h1] at hr' ht ⊢
    rw [if_pos h1]
    have hb : lo i ≤ m.num i ∧ m.num i ≤ hi i := by simpa using hr'
    have hf : rd (form (m.num i)) 0 = (m.num i, ((form (m.num i)).length : Int), 0) := by
      have := rd_form (n := m.num i) (by omega) (by omega) [] []
      rw [form_length]
      simpa using this
    rw [hf, if_pos (by simp)]
    congr 1
    refine pm_ext (fun j => ?_) (fun j => ?_) (fun j => ?_) ?_
    · show (if j = i then m.num i else if j ∈ idl.take k ∧ kd j = 1 then m.num j else usM.num j) = (if j ∈ idl.take (k + 1) ∧ kd j = 1 then m.num j else usM.num j)
      by_cases e : j = i
      · subst e
        rw [if_pos rfl, if_pos ⟨(hmem j).2 (.inr rfl), h1⟩]
      · rw [if_neg e]
        by_cases hj : j ∈ idl.take k ∧ kd j = 1
        · rw [if_pos hj, if_pos ⟨(hmem j).2 (.inl hj.1), hj.2⟩]
        · rw [if_neg hj, if_neg (fun h => hj ⟨((hmem j).1 h.1).resolve_right e, h.2⟩)]
    · show (if j ∈ idl.take k ∧ (kd j = 2 ∨ kd j = 3) then m.has j else false) = (if j ∈ idl.take (k + 1) ∧ (kd j = 2 ∨ kd j = 3) then m.has j else false)
      by_cases hj : j ∈ idl.take k ∧ (kd j = 2 ∨ kd j = 3)
      · rw [if_pos hj, if_pos ⟨(hmem j).2 (.inl hj.1), hj.2⟩]
      · rw [if_neg hj, if_neg (fun h => hj ⟨((hmem j).1 h.1).resolve_right (fun e => by rw [e] at h; omega), h.2⟩)]
    · show (if j ∈ idl.take k ∧ (kd j = 2 ∨ kd j = 3) ∧ m.has j = true then m.byt j else []) = (if j ∈ idl.take (k + 1) ∧ (kd j = 2 ∨ kd j = 3) ∧ m.has j = true then m.byt j else [])
      by_cases hj : j ∈ idl.take k ∧ (kd j = 2 ∨ kd j = 3) ∧ m.has j = true
      · rw [if_pos hj, if_pos ⟨(hmem j).2 (.inl hj.1), hj.2⟩]
      · rw [if_neg hj, if_neg (fun h => hj ⟨((hmem j).1 h.1).resolve_right (fun e => by rw [e] at h; omega), h.2⟩)]
    · show (if 12 ∈ idl.take k then m.mv else false) = (if 12 ∈ idl.take (k + 1) then m.mv else false)
      have e : 12 ≠ i := fun e => by rw [← e] at h1; exact absurd h1 (by decide)
      by_cases hj : 12 ∈ idl.take k
      · rw [if_pos hj, if_pos ((hmem 12).2 (.inl hj))]
      · rw [if_neg hj, if_neg (fun h => hj (((hmem 12).1 h).resolve_right e))]
  · rw [if_neg h1] at ht
    rw [if_neg h1, if_neg h1]
    by_cases h4 : kd i = 4
    · rw [if_pos h4] at ht
      rw [if_neg (by omega), if_pos h4, if_pos h4, if_pos rfl]
      have e := kd_twelve h4
      subst e
      congr 1
      refine pm_ext (fun j => ?_) (fun j => ?_) (fun j => ?_) ?_
      · show (if j ∈ idl.take k ∧ kd j = 1 then m.num j else usM.num j) = (if j ∈ idl.take (k + 1) ∧ kd j = 1 then m.num j else usM.num j)
        by_cases hj : j ∈ idl.take k ∧ kd j = 1
        · rw [if_pos hj, if_pos ⟨(hmem j).2 (.inl hj.1), hj.2⟩]
        · rw [if_neg hj, if_neg (fun h => hj ⟨((hmem j).1 h.1).resolve_right (fun e => by rw [e] at h; omega), h.2⟩)]
      · show (if j ∈ idl.take k ∧ (kd j = 2 ∨ kd j = 3) then m.has j else false) = (if j ∈ idl.take (k + 1) ∧ (kd j = 2 ∨ kd j = 3) then m.has j else false)
        by_cases hj : j ∈ idl.take k ∧ (kd j = 2 ∨ kd j = 3)
        · rw [if_pos hj, if_pos ⟨(hmem j).2 (.inl hj.1), hj.2⟩]
        · rw [if_neg hj, if_neg (fun h => hj ⟨((hmem j).1 h.1).resolve_right (fun e => by rw [e] at h; omega), h.2⟩)]
      · show (if j ∈ idl.take k ∧ (kd j = 2 ∨ kd j = 3) ∧ m.has j = true then m.byt j else []) = (if j ∈ idl.take (k + 1) ∧ (kd j = 2 ∨ kd j = 3) ∧ m.has j = true then m.byt j else [])
        by_cases hj : j ∈ idl.take k ∧ (kd j = 2 ∨ kd j = 3) ∧ m.has j = true
        · rw [if_pos hj, if_pos ⟨(hmem j).2 (.inl hj.1), hj.2⟩]
        · rw [if_neg hj, if_neg (fun h => hj ⟨((hmem j).1 h.1).resolve_right (fun e => by rw [e] at h; omega), h.2⟩)]
      · show true = (if 12 ∈ idl.take (k + 1) then m.mv else false)
        rw [if_pos ((hmem 12).2 (.inr rfl)), ht]
    · have h23 : kd i = 2 ∨ kd i = 3 := by omega
      rw [if_neg h4] at ht
      rw [if_pos h23, if_neg h4]
      congr 1
      refine pm_ext (fun j => ?_) (fun j => ?_) (fun j => ?_) ?_
      · show (if j ∈ idl.take k ∧ kd j = 1 then m.num j else usM.num j) = (if j ∈ idl.take (k + 1) ∧ kd j = 1 then m.num j else usM.num j)
        by_cases hj : j ∈ idl.take k ∧ kd j = 1
        · rw [if_pos hj, if_pos ⟨(hmem j).2 (.inl hj.1), hj.2⟩]
        · rw [if_neg hj, if_neg (fun h => hj ⟨((hmem j).1 h.1).resolve_right (fun e => by rw [e] at h; omega), h.2⟩)]
      · show (if j = i then true else if j ∈ idl.take k ∧ (kd j = 2 ∨ kd j = 3) then m.has j else false) = (if j ∈ idl.take (k + 1) ∧ (kd j = 2 ∨ kd j = 3) then m.has j else false)
        by_cases e : j = i
        · subst e
          rw [if_pos rfl, if_pos ⟨(hmem j).2 (.inr rfl), h23⟩, ht]
        · rw [if_neg e]
          by_cases hj : j ∈ idl.take k ∧ (kd j = 2 ∨ kd j = 3)
          · rw [if_pos hj, if_pos ⟨(hmem j).2 (.inl hj.1), hj.2⟩]
          · rw [if_neg hj, if_neg (fun h => hj ⟨((hmem j).1 h.1).resolve_right e, h.2⟩)]
      · show (if j = i then m.byt i else if j ∈ idl.take k ∧ (kd j = 2 ∨ kd j = 3) ∧ m.has j = true then m.byt j else []) = (if j ∈ idl.take (k + 1) ∧ (kd j = 2 ∨ kd j = 3) ∧ m.has j = true then m.byt j else [])
        by_cases e : j = i
        · subst e
          rw [if_pos rfl, if_pos ⟨(hmem j).2 (.inr rfl), h23, ht⟩]
        · rw [if_neg e]
          by_cases hj : j ∈ idl.take k ∧ (kd j = 2 ∨ kd j = 3) ∧ m.has j = true
          · rw [if_pos hj, if_pos ⟨(hmem j).2 (.inl hj.1), hj.2⟩]
          · rw [if_neg hj, if_neg (fun h => hj ⟨((hmem j).1 h.1).resolve_right e, h.2⟩)]
      · show (if 12 ∈ idl.take k then m.mv else false) = (if 12 ∈ idl.take (k + 1) then m.mv else false)
        have e : 12 ≠ i := fun e => by rw [← e] at h4; exact absurd rfl h4
        by_cases hj : 12 ∈ idl.take k
        · rw [if_pos hj, if_pos ((hmem 12).2 (.inl hj))]
        · rw [if_neg hj, if_neg (fun h => hj (((hmem 12).1 h).resolve_right e))]
/-- Behind the k-th, it is right as the given ones are. -/
theorem st_right (hr : allR m srv = true) (hk : k < 16) : rgt (st m (k + 1)) (idl.getD k 0) srv = true := by
  have hr' := allR_at hr hk
  have hin : idl.getD k 0 ∈ idl.take (k + 1) := (take_mem hk).2 (.inr rfl)
  generalize idl.getD k 0 = i at *
  have key : ∀ a : Pm, (kd i = 1 → a.num i = m.num i) → (kd i = 2 ∨ kd i = 3 → a.has i = m.has i ∧ (m.has i = true → a.byt i = m.byt i)) → rgt a i srv = rgt m i srv := by
    intro a q1 q2
    unfold rgt
    by_cases k1 : kd i = 1
    · rw [if_pos k1, if_pos k1, q1 k1]
    · rw [if_neg k1, if_neg k1]
      by_cases k2 : kd i = 2
      · obtain ⟨q3, q4⟩ := q2 (.inl k2)
        rw [if_pos k2, if_pos k2, q3]
        by_cases hb : m.has i = true
        · rw [q4 hb]
        · rw [show m.has i = false by simpa using hb]; simp
      · rw [if_neg k2, if_neg k2]
        by_cases k3 : kd i = 3
        · obtain ⟨q3, q4⟩ := q2 (.inr k3)
          rw [if_pos k3, if_pos k3, q3]
          by_cases hb : m.has i = true
          · rw [q4 hb]
          · rw [show m.has i = false by simpa using hb]; simp
        · rw [if_neg k3, if_neg k3]
  rw [key, hr']
  · intro h1
    show (if i ∈ idl.take (k + 1) ∧ kd i = 1 then m.num i else usM.num i) = _
    rw [if_pos ⟨hin, h1⟩]
  · intro h2
    refine ⟨?_, fun hb => ?_⟩
    · show (if i ∈ idl.take (k + 1) ∧ (kd i = 2 ∨ kd i = 3) then m.has i else false) = _
      rw [if_pos ⟨hin, h2⟩]
    · show (if i ∈ idl.take (k + 1) ∧ (kd i = 2 ∨ kd i = 3) ∧ m.has i = true then m.byt i else []) = _
      rw [if_pos ⟨hin, h2, hb⟩]
theorem st_told (hr : allR m srv = true) (hk : k < 16) (ht : tld m (idl.getD k 0) = true) : takesM (st m k) (idl.getD k 0) (bts m (idl.getD k 0)) srv = some (st m (k + 1)) := by
  unfold takesM
  rw [tkn_told hr hk ht]
  show (if rgt (st m (k + 1)) (idl.getD k 0) srv then some (st m (k + 1)) else none) = _
  rw [if_pos (st_right hr hk)]
end
/-- A parameter that stands behind some bytes and ahead of others. -/
theorem parO_at {i : Int} {v z0 z2 : List Int} (h0 : 0 ≤ i) (h1 : i ≤ 4611686018427387903) (hv : (v.length : Int) ≤ 4611686018427387903) :
    parO (z0 ++ (form i ++ form (v.length : Int) ++ v) ++ z2) z0.length = (i, v, ((z0 ++ (form i ++ form (v.length : Int) ++ v)).length : Int), 0) := by
  have e1 : z0 ++ (form i ++ form (v.length : Int) ++ v) ++ z2 = z0 ++ form i ++ (form (v.length : Int) ++ (v ++ z2)) := by simp only [List.append_assoc]
  have e2 : z0 ++ (form i ++ form (v.length : Int) ++ v) ++ z2 = (z0 ++ form i) ++ form (v.length : Int) ++ (v ++ z2) := by simp only [List.append_assoc]
  have e3 : z0 ++ (form i ++ form (v.length : Int) ++ v) ++ z2 = (z0 ++ form i ++ form (v.length : Int)) ++ (v ++ z2) := by simp only [List.append_assoc]
  have r1 := rd_form h0 h1 z0 (form (v.length : Int) ++ (v ++ z2))
  have r2 := rd_form (n := (v.length : Int)) (by omega) hv (z0 ++ form i) (v ++ z2)
  rw [← e1] at r1
  rw [← e2] at r2
  rw [List.length_append, form_length] at r2
  have L : ((z0 ++ (form i ++ form (v.length : Int) ++ v) ++ z2).length : Int) = z0.length + sz i + sz (v.length : Int) + v.length + z2.length := by
    simp only [List.length_append, form_length]; omega
  rw [parO_mk r1 (a := (z0.length : Int) + sz i) (by rw [← r2]; congr 1) (b := ((z0.length + sz i : Nat) : Int) + sz (v.length : Int)) (by omega) (by rw [L]; omega)]
  have e4 : ((((z0.length + sz i : Nat) : Int) + sz (v.length : Int)).toNat) = (z0 ++ form i ++ form (v.length : Int)).length := by simp only [List.length_append, form_length]; omega
  rw [e4, Int.toNat_natCast]
  have e5 : ((z0 ++ (form i ++ form (v.length : Int) ++ v) ++ z2).drop (z0 ++ form i ++ form (v.length : Int)).length).take v.length = v := by
    rw [e3, List.drop_left, List.take_left]
  rw [e5]
  congr 3
  simp only [List.length_append, form_length]; omega
end Go.Proofs.Ytidbimhcebfjfaa
