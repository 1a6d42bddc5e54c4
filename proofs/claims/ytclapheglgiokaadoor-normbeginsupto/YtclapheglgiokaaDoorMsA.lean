/-
  Texts by bytes and by runes: a test that does not part the runes from 128 on holds of all runes just where it holds of all bytes.
-/
import Derived.Laws.RangeAny
namespace Go.Proofs.YtclapheglgiokaaDoor
open Go
set_option linter.unusedVariables false

/-- All bytes pass. -/
def allB (p : Nat → Bool) (s : ByteArray) : Bool := s.data.toList.all fun b => p b.toNat
theorem allB_iff (p : Nat → Bool) (s : ByteArray) : allB p s = true ↔ ∀ j (h : j < s.size), p (s[j]'h).toNat = true := by
  unfold allB
  rw [List.all_eq_true]
  constructor
  · intro h j hj
    exact h _ (by rw [show s[j] = s.data.toList[j]'(by simpa using hj) from rfl]; exact List.getElem_mem _)
  · intro h b hb
    obtain ⟨j, hj, rfl⟩ := List.mem_iff_getElem.1 hb
    exact h j (by simpa using hj)
theorem allB_no {p : Nat → Bool} {s : ByteArray} {j : Nat} (h : j < s.size) (hp : p (s[j]'h).toNat = false) : allB p s = false := by
  cases ha : allB p s with
  | false => rfl
  | true => rw [(allB_iff p s).1 ha j h] at hp; cases hp
/-- The bytes ahead of a place pass. -/
def okTo (p : Nat → Bool) (s : ByteArray) (pos : Nat) : Prop := ∀ j (h : j < s.size), j < pos → p (s[j]'h).toNat = true
theorem okTo_zero (p : Nat → Bool) (s : ByteArray) : okTo p s 0 := fun j h k => by omega
theorem okTo_succ {p : Nat → Bool} {s : ByteArray} {k : Nat} (h : okTo p s k) (hk : k < s.size) (hp : p (s[k]'hk).toNat = true) : okTo p s (k + 1) := by
  intro j hj hlt
  by_cases e : j = k
  · subst e; exact hp
  · exact h j hj (by omega)
theorem okTo_end {p : Nat → Bool} {s : ByteArray} {k : Nat} (h : okTo p s k) (hk : s.size ≤ k) : allB p s = true :=
  (allB_iff p s).2 fun j hj => h j hj (by omega)
theorem get_bang (s : ByteArray) (j : Nat) (h : j < s.size) : s.get! j = s[j]'h := by
  simp [ByteArray.get!, getElem!_pos, h]
  rfl
set_option maxHeartbeats 1000000 in
theorem decode_cont (s : ByteArray) (pos : Nat) (h : pos < s.size) (ha : 128 ≤ (s[pos]'h).toNat) : pos + (Utf8.decode s pos).2 ≤ s.size ∧ ∀ j (hj : j < s.size), pos ≤ j → j < pos + (Utf8.decode s pos).2 → 128 ≤ (s[j]'hj).toNat := by
  have hn : ¬ (s[pos]'h).toNat < 128 := by omega
  have one : pos + 1 ≤ s.size ∧ ∀ j (hj : j < s.size), pos ≤ j → j < pos + 1 → 128 ≤ (s[j]'hj).toNat :=
    ⟨by omega, fun j hj h1 h2 => by obtain rfl : j = pos := by omega
                                    exact ha⟩
  have c : ∀ k, (decide (pos + k < s.size) && (s.get! (pos + k)).toNat / 64 == 2) = true → pos + k < s.size ∧ ∀ j (hj : j < s.size), j = pos + k → 128 ≤ (s[j]'hj).toNat := by
    intro k hk
    simp only [Bool.and_eq_true, decide_eq_true_eq, beq_iff_eq] at hk
    refine ⟨hk.1, fun j hj e => ?_⟩
    subst e
    rw [← get_bang s _ hj]
    omega
  simp only [Utf8.decode, get_at s pos h, hn, if_false]
  split
  · rename_i h1
    rw [Bool.and_eq_true] at h1
    have c1 := c 1 h1.2
    split
    · refine ⟨by show pos + 2 ≤ _; omega, fun j hj h2 h3 => ?_⟩
      have h3' : j < pos + 2 := h3
      by_cases e : j = pos
      · subst e; exact ha
      · exact c1.2 j hj (by omega)
    · exact one
  · split
    · rename_i _ h1
      simp only [Bool.and_eq_true (_ && _)] at h1
      rw [Bool.and_eq_true] at h1
      have c1 := c 1 h1.1.2
      have c2 := c 2 h1.2
      split
      · refine ⟨by show pos + 3 ≤ _; omega, fun j hj h2 h3 => ?_⟩
        have h3' : j < pos + 3 := h3
        by_cases e : j = pos
        · subst e; exact ha
        · by_cases e2 : j = pos + 1
          · exact c1.2 j hj e2
          · exact c2.2 j hj (by omega)
      · exact one
    · split
      · rename_i _ _ h1
        rw [Bool.and_eq_true, Bool.and_eq_true, Bool.and_eq_true] at h1
        have c1 := c 1 h1.1.1.2
        have c2 := c 2 h1.1.2
        have c3 := c 3 h1.2
        split
        · refine ⟨by show pos + 4 ≤ _; omega, fun j hj h2 h3 => ?_⟩
          have h3' : j < pos + 4 := h3
          by_cases e : j = pos
          · subst e; exact ha
          · by_cases e2 : j = pos + 1
            · exact c1.2 j hj e2
            · by_cases e3 : j = pos + 2
              · exact c2.2 j hj e3
              · exact c3.2 j hj (by omega)
        · exact one
      · exact one
/-- A test that says one thing of all runes from 128 on. -/
def Flat (p : Nat → Bool) : Prop := ∃ c, ∀ r, 128 ≤ r → p r = c
theorem rune_no {p : Nat → Bool} {s : ByteArray} {pos : Nat} (hf : Flat p) (h : pos < s.size) (hp : p (Utf8.decode s pos).1 = false) : allB p s = false := by
  obtain ⟨c, hc⟩ := hf
  refine allB_no h ?_
  by_cases ha : (s[pos]'h).toNat < 128
  · rw [decode_ascii s pos h ha] at hp; exact hp
  · rw [hc _ (decode_high s pos h (by omega)).1] at hp
    rw [hc _ (by omega)]; exact hp
theorem rune_ok {p : Nat → Bool} {s : ByteArray} {pos : Nat} (hf : Flat p) (h : pos < s.size) (hk : okTo p s pos) (hp : p (Utf8.decode s pos).1 = true) : okTo p s (pos + (Utf8.decode s pos).2) := by
  obtain ⟨c, hc⟩ := hf
  by_cases ha : (s[pos]'h).toNat < 128
  · rw [decode_ascii s pos h ha] at hp ⊢
    exact okTo_succ hk h hp
  · have h2 := decode_cont s pos h (by omega)
    rw [hc _ (decode_high s pos h (by omega)).1] at hp
    intro j hj hlt
    by_cases e : j < pos
    · exact hk j hj e
    · rw [hc _ (h2.2 j hj (by omega) hlt)]; exact hp
theorem rune_end {s : ByteArray} {pos : Nat} (h : pos < s.size) : pos + (Utf8.decode s pos).2 ≤ s.size ∧ 1 ≤ (Utf8.decode s pos).2 := by
  by_cases ha : (s[pos]'h).toNat < 128
  · rw [decode_ascii s pos h ha]; exact ⟨h, Nat.le_refl _⟩
  · exact ⟨(decode_cont s pos h (by omega)).1, (decode_high s pos h (by omega)).2⟩
end Go.Proofs.YtclapheglgiokaaDoor
