/-
  Which places of a source the pieces have covered, as a row of marks, beside a buffer that was fed with them and not read: for the walk of the law ReasmWhole. No Go in it.
-/
import Derived.Test.YtdgkeidpoodmeaaFed
namespace Go.Proofs.Ytdgkeidpoodmeaa
set_option linter.unusedVariables false

/-- The marks say what was taken. -/
def Cov (bs : List Bool) (xs : Sl) : Prop := ∀ j, bs.getD j false = (at_ xs j).isSome

theorem cov0 (n : Nat) : Cov (List.replicate n false) [] := by
  intro j
  rw [at_nil, List.getD_eq_getElem?_getD, List.getElem?_replicate]
  split <;> rfl

/-- The marks from p on, i of them set. -/
def mark (bs : List Bool) (p : Nat) : Nat → List Bool
  | 0 => bs
  | i + 1 => (mark bs p i).set (p + i) true
theorem mark_len (bs : List Bool) (p i : Nat) : (mark bs p i).length = bs.length := by
  induction i with
  | zero => rfl
  | succ i ih => rw [mark, List.length_set, ih]
theorem mark_get {bs : List Bool} {p : Nat} (i : Nat) (h : p + i ≤ bs.length) (j : Nat) : (mark bs p i).getD j false = (bs.getD j false || decide (p ≤ j ∧ j < p + i)) := by
  induction i with
  | zero => rw [mark]; simp; omega
  | succ i ih =>
    rw [mark, List.getD_eq_getElem?_getD, List.getElem?_set]
    by_cases hj : p + i = j
    · subst hj
      rw [if_pos rfl, mark_len, if_pos (by omega)]
      simp
    · rw [if_neg hj, ← List.getD_eq_getElem?_getD, ih (by omega)]
      have : decide (p ≤ j ∧ j < p + i) = decide (p ≤ j ∧ j < p + (i + 1)) := by
        by_cases h1 : p ≤ j ∧ j < p + i
        · have h2 : p ≤ j ∧ j < p + (i + 1) := by omega
          simp [h1, h2]
        · have h2 : ¬ (p ≤ j ∧ j < p + (i + 1)) := by omega
          simp [h1, h2]
      rw [this]

section
variable {zs : List Int} {s : S} {p n : Nat}
theorem skip0 (n : Nat) : skip (0 : Int) (p : Int) n = 0 := by unfold skip; omega
theorem fst0 (n : Nat) : fstP (0 : Int) (p : Int) n = p := by unfold fstP; rw [skip0]; omega
/-- A piece more. -/
theorem Cov.put {bs : List Bool} (h : Cov bs s.xs) (hf : Fed zs 0 s) (hpn : p + n ≤ zs.length) (hb : bs.length = zs.length) {f : Bool} (hff : f = true → p + n = zs.length) : Cov (mark bs p n) (putAll 65536 s p ((zs.drop p).take n) f).xs := by
  have hl := Fed.cut_len hpn
  have he := hf.err hpn hff
  have hx : (putAll 65536 s p ((zs.drop p).take n) f).xs = putS s.xs p ((zs.drop p).take n) := by
    unfold putAll
    rw [hl, if_pos he]
    show putX s.off s.xs p ((zs.drop p).take n) = _
    unfold putX
    rw [hf.off, hl]
    show putS s.xs (fstP (0 : Int) (p : Int) n) (((zs.drop p).take n).drop (skip (0 : Int) (p : Int) n)) = _
    rw [skip0, fst0, List.drop_zero]
  intro j
  rw [hx, putS_at, hl, mark_get n (by omega), h j]
  by_cases hc : at_ s.xs j = none ∧ p ≤ j ∧ j < p + n
  · rw [if_pos hc, hc.1]
    simp [hc.2.1, hc.2.2]
  · rw [if_neg hc]
    by_cases hn : at_ s.xs j = none
    · have h2 : ¬ (p ≤ j ∧ j < p + n) := fun e => hc ⟨hn, e⟩
      simp [h2]
    · cases hv : at_ s.xs j with
      | none => exact absurd hv hn
      | some v => simp
end

/-- How many marks are set, and how far without a gap. -/
def cnt (bs : List Bool) : Nat → Nat
  | 0 => 0
  | i + 1 => cnt bs i + if bs.getD i false then 1 else 0
def run (bs : List Bool) : Nat → Nat
  | 0 => 0
  | i + 1 => if bs.getD i false = true ∧ run bs i = i then run bs i + 1 else run bs i
theorem cnt_le (bs : List Bool) (i : Nat) : cnt bs i ≤ i := by
  induction i with
  | zero => exact Nat.le_refl _
  | succ i ih => rw [cnt]; split <;> omega
theorem run_le (bs : List Bool) (i : Nat) : run bs i ≤ i := by
  induction i with
  | zero => exact Nat.le_refl _
  | succ i ih => rw [run]; split <;> omega
theorem held_at (xs : Sl) (n : Nat) : heldN (xs.take n) = cnt (xs.map (·.isSome)) n := by
  induction n with
  | zero => simp [cnt, heldN]
  | succ n ih =>
    rw [cnt, ← ih]
    by_cases h : n < xs.length
    · rw [List.take_add_one, at_eq h, held_append]
      have e : (xs.map (·.isSome)).getD n false = (at_ xs n).isSome := by
        rw [List.getD_eq_getElem?_getD, List.getElem?_map, at_eq h]; rfl
      rw [e]
      show _ + heldN [at_ xs n] = _
      rw [held_cons]
      simp [heldN]
    · rw [List.take_of_length_le (by omega), List.take_of_length_le (by omega), List.getD_eq_getElem?_getD, List.getElem?_eq_none (by simp; omega)]
      simp
theorem cnt_congr {bs cs : List Bool} (h : ∀ j, bs.getD j false = cs.getD j false) (n : Nat) : cnt bs n = cnt cs n := by
  induction n with
  | zero => rfl
  | succ n ih => rw [cnt, cnt, ih, h n]
theorem map_get (xs : Sl) (j : Nat) : (xs.map (·.isSome)).getD j false = (at_ xs j).isSome := by
  rw [List.getD_eq_getElem?_getD, List.getElem?_map]
  by_cases h : j < xs.length
  · rw [at_eq h]; rfl
  · rw [at_none (by omega), List.getElem?_eq_none (by omega)]; rfl
theorem cov_held {bs : List Bool} {xs : Sl} (h : Cov bs xs) {n : Nat} (hn : xs.length ≤ n) : cnt bs n = heldN xs := by
  rw [cnt_congr (cs := xs.map (·.isSome)) (fun j => by rw [h j, map_get xs j]) n, ← held_at, List.take_of_length_le hn]
theorem run_spec {bs : List Bool} {xs : Sl} (h : Cov bs xs) (i : Nat) : run bs i = min i (rdy xs) := by
  induction i with
  | zero => simp [run]
  | succ i ih =>
    rw [run, ih, h i]
    rcases Nat.lt_trichotomy i (rdy xs) with hh | hh | hh
    · obtain ⟨v, hv⟩ := rdy_some hh
      rw [if_pos ⟨by rw [hv]; rfl, by omega⟩]; omega
    · rw [if_neg (fun e => by rw [hh, rdy_none] at e; exact absurd e.1 (by simp))]; omega
    · rw [if_neg (fun e => by omega)]; omega
theorem cov_ready {bs : List Bool} {xs : Sl} (h : Cov bs xs) {n : Nat} (hn : xs.length ≤ n) : run bs n = rdy xs := by
  rw [run_spec h]
  have := rdy_le xs
  omega

/-- The end is told: the buffer behind it, and what is read of it. -/
theorem fed_end {zs : List Int} {s : S} (h : Fed zs 0 s) : errOf 65536 s (zs.length : Int) 0 true = 0 ∧ Fed zs 0 (putAll 65536 s (zs.length : Int) [] true) ∧ (putAll 65536 s (zs.length : Int) [] true).known = true ∧ (putAll 65536 s (zs.length : Int) [] true).xs = s.xs := by
  have he := h.err (p := zs.length) (n := 0) (by omega) (f := true) (by intro _; omega)
  have hp := h.put (p := zs.length) (n := 0) (by omega) (f := true) (by intro _; omega)
  have hk := putAll_known h (p := zs.length) (n := 0) (by omega) (f := true) (by intro _; omega)
  rw [List.take_zero] at hp hk
  refine ⟨he, hp, by rw [hk]; simp, ?_⟩
  unfold putAll
  rw [List.length_nil, if_pos he]
  show putX s.off s.xs _ [] = _
  unfold putX putS
  simp
end Go.Proofs.Ytdgkeidpoodmeaa
