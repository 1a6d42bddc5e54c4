/-
  Lists alone, for layer 3: the places of a stream from the offset on, each with its byte once that has been taken; what a piece does to them, how many can be read. No Go in it.
-/
namespace Go.Proofs.Ytdgkeidpoodmeaa
set_option linter.unusedVariables false

/-- The places from the offset on. -/
abbrev Sl := List (Option Int)

/-- The place number j. -/
def at_ (xs : Sl) (j : Nat) : Option Int := xs.getD j none
theorem at_eq {xs : Sl} {j : Nat} (h : j < xs.length) : xs[j]? = some (at_ xs j) := by
  unfold at_; rw [List.getD_eq_getElem?_getD, List.getElem?_eq_getElem h]; rfl
theorem at_none {xs : Sl} {j : Nat} (h : xs.length ≤ j) : at_ xs j = none := by
  unfold at_; rw [List.getD_eq_getElem?_getD, List.getElem?_eq_none h]; rfl
theorem at_nil (j : Nat) : at_ [] j = none := rfl
theorem at_zero (x : Option Int) (r : Sl) : at_ (x :: r) 0 = x := rfl
theorem at_succ (x : Option Int) (r : Sl) (j : Nat) : at_ (x :: r) (j + 1) = at_ r j := rfl
theorem sl_ext {xs ys : Sl} (hl : xs.length = ys.length) (h : ∀ j, at_ xs j = at_ ys j) : xs = ys := by
  apply List.ext_getElem? 
  intro j
  by_cases hj : j < xs.length
  · rw [at_eq hj, at_eq (by omega), h j]
  · rw [List.getElem?_eq_none (by omega), List.getElem?_eq_none (by omega)]

/-- Places up to m. -/
def pad (m : Nat) (xs : Sl) : Sl := xs ++ List.replicate (m - xs.length) none
theorem pad_len (m : Nat) (xs : Sl) : (pad m xs).length = max xs.length m := by simp [pad]; omega
theorem pad_at (m : Nat) (xs : Sl) (j : Nat) : at_ (pad m xs) j = at_ xs j := by
  unfold pad at_
  simp only [List.getD_eq_getElem?_getD]
  by_cases h : j < xs.length
  · rw [List.getElem?_append_left h]
  · rw [List.getElem?_append_right (by omega), List.getElem?_replicate, List.getElem?_eq_none (by omega : xs.length ≤ j)]
    split <;> rfl
theorem pad_self {m : Nat} {xs : Sl} (h : m ≤ xs.length) : pad m xs = xs := by
  unfold pad; rw [Nat.sub_eq_zero_of_le h]; simp
theorem pad_pad {m k : Nat} (xs : Sl) (h : k ≤ m) : pad m (pad k xs) = pad m xs :=
  sl_ext (by rw [pad_len, pad_len, pad_len]; omega) (fun j => by rw [pad_at, pad_at, pad_at])

/-- A byte at the place j, if none was taken there. -/
def set1 (xs : Sl) (j : Nat) (v : Int) : Sl := if at_ xs j = none then xs.set j (some v) else xs
theorem set1_len (xs : Sl) (j : Nat) (v : Int) : (set1 xs j v).length = xs.length := by unfold set1; split <;> simp
theorem set_at {xs : Sl} {j : Nat} (h : j < xs.length) (v : Option Int) (i : Nat) : at_ (xs.set j v) i = if i = j then v else at_ xs i := by
  unfold at_
  simp only [List.getD_eq_getElem?_getD, List.getElem?_set]
  by_cases hij : j = i
  · subst hij; simp [h]
  · rw [if_neg hij, if_neg (fun e => hij e.symm)]
theorem set1_at {xs : Sl} {j : Nat} (h : j < xs.length) (v : Int) (i : Nat) : at_ (set1 xs j v) i = if i = j ∧ at_ xs j = none then some v else at_ xs i := by
  unfold set1
  by_cases hn : at_ xs j = none
  · rw [if_pos hn, set_at h]
    by_cases hij : i = j
    · simp [hij, hn]
    · simp [hij]
  · rw [if_neg hn, if_neg (fun e => hn e.2)]
theorem pad_set1 {m : Nat} {xs : Sl} {j : Nat} (h : j < xs.length) (v : Int) : pad m (set1 xs j v) = set1 (pad m xs) j v :=
  sl_ext (by rw [pad_len, set1_len, set1_len, pad_len]) (fun i => by rw [pad_at, set1_at h, set1_at (by rw [pad_len]; omega), pad_at, pad_at])

/-- The first i bytes of a piece laid from k on, where there are places. -/
def mix (xs : Sl) (k : Nat) (zs : List Int) : Nat → Sl
  | 0 => xs
  | i + 1 => set1 (mix xs k zs i) (k + i) (zs.getD i 0)
theorem mix_len (xs : Sl) (k : Nat) (zs : List Int) (i : Nat) : (mix xs k zs i).length = xs.length := by
  induction i with
  | zero => rfl
  | succ i ih => rw [mix, set1_len, ih]
theorem mix_above (xs : Sl) (k : Nat) (zs : List Int) (i : Nat) : at_ (mix xs k zs i) (k + i) = at_ xs (k + i) := by
  have : ∀ m, m ≤ i → at_ (mix xs k zs m) (k + i) = at_ xs (k + i) := by
    intro m hm
    induction m with
    | zero => rfl
    | succ m ihm =>
      rw [mix]
      unfold set1
      split
      · have h1 : at_ ((mix xs k zs m).set (k + m) (some (zs.getD m 0))) (k + i) = at_ (mix xs k zs m) (k + i) := by
          unfold at_
          simp only [List.getD_eq_getElem?_getD, List.getElem?_set]
          rw [if_neg (by omega)]
        rw [h1, ihm (by omega)]
      · exact ihm (by omega)
  exact this i (Nat.le_refl _)
theorem mix_at {xs : Sl} {k : Nat} {zs : List Int} (i : Nat) (h : k + i ≤ xs.length) (j : Nat) :
    at_ (mix xs k zs i) j = if at_ xs j = none ∧ k ≤ j ∧ j < k + i then some (zs.getD (j - k) 0) else at_ xs j := by
  induction i with
  | zero => rw [mix, if_neg (by omega)]
  | succ i ih =>
    rw [mix, set1_at (by rw [mix_len]; omega), ih (by omega)]
    have e := mix_above xs k zs i
    by_cases hj : j = k + i
    · subst hj
      rw [e]
      by_cases hn : at_ xs (k + i) = none
      · rw [if_pos ⟨rfl, hn⟩, if_pos ⟨hn, by omega, by omega⟩]; congr 2; omega
      · rw [if_neg (fun h => hn h.2), if_neg (fun h => hn h.1), if_neg (fun h => hn h.1)]
    · rw [if_neg (fun h => hj h.1)]
      by_cases hn : at_ xs j = none ∧ k ≤ j ∧ j < k + i
      · rw [if_pos hn, if_pos ⟨hn.1, hn.2.1, by omega⟩]
      · rw [if_neg hn, if_neg (fun h => hn ⟨h.1, h.2.1, by omega⟩)]

/-- The document's way: places are made one by one. -/
def mixR (xs : Sl) (k : Nat) (zs : List Int) : Nat → Sl
  | 0 => xs
  | i + 1 => set1 (pad (k + i + 1) (mixR xs k zs i)) (k + i) (zs.getD i 0)
theorem mixR_pad (xs : Sl) (k : Nat) (zs : List Int) (i m : Nat) (h : k + i ≤ m) : pad m (mixR xs k zs i) = mix (pad m xs) k zs i := by
  induction i with
  | zero => rfl
  | succ i ih => rw [mixR, mix, pad_set1 (by rw [pad_len]; omega), pad_pad _ (by omega), ih (by omega)]
theorem mixR_eq (xs : Sl) (k : Nat) (zs : List Int) (i : Nat) (h : 0 < i) : mixR xs k zs i = mix (pad (k + i) xs) k zs i := by
  rw [← mixR_pad xs k zs i (k + i) (Nat.le_refl _), pad_self]
  cases i with
  | zero => omega
  | succ i => rw [mixR, set1_len, pad_len]; omega

/-- A piece laid from k on. -/
def putS (xs : Sl) (k : Nat) (zs : List Int) : Sl := if zs.length = 0 then xs else mix (pad (k + zs.length) xs) k zs zs.length
theorem putS_eq (xs : Sl) (k : Nat) (zs : List Int) : putS xs k zs = mixR xs k zs zs.length := by
  unfold putS
  split
  · next h => rw [h]; rfl
  · rw [mixR_eq _ _ _ _ (by omega)]
theorem putS_len (xs : Sl) (k : Nat) (zs : List Int) : (putS xs k zs).length = if zs.length = 0 then xs.length else max xs.length (k + zs.length) := by
  unfold putS
  split
  · rfl
  · rw [mix_len, pad_len]
theorem putS_at (xs : Sl) (k : Nat) (zs : List Int) (j : Nat) : at_ (putS xs k zs) j = if at_ xs j = none ∧ k ≤ j ∧ j < k + zs.length then some (zs.getD (j - k) 0) else at_ xs j := by
  unfold putS
  split
  · rw [if_neg (by omega)]
  · rw [mix_at _ (by rw [pad_len]; omega), pad_at]
theorem putS_some {xs : Sl} {j : Nat} {v : Int} (k : Nat) (zs : List Int) (h : at_ xs j = some v) : at_ (putS xs k zs) j = some v := by
  rw [putS_at, if_neg (fun e => by rw [h] at e; simp at e), h]

/-- How many are taken. -/
def heldN (xs : Sl) : Nat := xs.countP (·.isSome)
theorem held_le (xs : Sl) : heldN xs ≤ xs.length := List.countP_le_length
theorem held_cons (x : Option Int) (r : Sl) : heldN (x :: r) = heldN r + if x.isSome then 1 else 0 := by
  unfold heldN; rw [List.countP_cons]
theorem held_append (xs ys : Sl) : heldN (xs ++ ys) = heldN xs + heldN ys := by unfold heldN; rw [List.countP_append]
theorem held_pad (m : Nat) (xs : Sl) : heldN (pad m xs) = heldN xs := by
  unfold pad; rw [held_append]
  have : ∀ n, heldN (List.replicate n none) = 0 := by intro n; simp [heldN, List.countP_replicate]
  rw [this]; rfl
theorem held_set {xs : Sl} {j : Nat} (h : j < xs.length) (hn : at_ xs j = none) (v : Int) : heldN (xs.set j (some v)) = heldN xs + 1 := by
  induction xs generalizing j with
  | nil => simp at h
  | cons x r ih =>
    cases j with
    | zero => rw [at_zero] at hn; subst hn; rw [List.set_cons_zero, held_cons, held_cons]; simp
    | succ j =>
      rw [at_succ] at hn
      rw [List.set_cons_succ, held_cons, held_cons, ih (by simpa using h) hn]; omega
theorem held_set1 {xs : Sl} {j : Nat} (h : j < xs.length) (v : Int) : heldN (set1 xs j v) = heldN xs + if at_ xs j = none then 1 else 0 := by
  unfold set1
  split
  · next hn => rw [held_set h hn]
  · rfl
theorem held_mix (xs : Sl) (k : Nat) (zs : List Int) (i : Nat) (h : k + i ≤ xs.length) : heldN xs ≤ heldN (mix xs k zs i) ∧ heldN (mix xs k zs i) ≤ heldN xs + i := by
  induction i with
  | zero => exact ⟨Nat.le_refl _, Nat.le_refl _⟩
  | succ i ih =>
    rw [mix, held_set1 (by rw [mix_len]; omega)]
    have := ih (by omega)
    split <;> omega
theorem held_put (xs : Sl) (k : Nat) (zs : List Int) : heldN xs ≤ heldN (putS xs k zs) ∧ heldN (putS xs k zs) ≤ heldN xs + zs.length := by
  unfold putS
  split
  · omega
  · have := held_mix (pad (k + zs.length) xs) k zs zs.length (by rw [pad_len]; omega)
    rw [held_pad] at this; exact this

/-- How many can be read. -/
def rdy : Sl → Nat
  | [] => 0
  | none :: _ => 0
  | some _ :: r => rdy r + 1
theorem rdy_le (xs : Sl) : rdy xs ≤ xs.length := by
  induction xs with
  | nil => exact Nat.le_refl _
  | cons x r ih => cases x <;> simp [rdy]; omega
theorem rdy_held (xs : Sl) : rdy xs ≤ heldN xs := by
  induction xs with
  | nil => exact Nat.zero_le _
  | cons x r ih => rw [held_cons]; cases x <;> simp [rdy]; omega
theorem rdy_some {xs : Sl} {j : Nat} (h : j < rdy xs) : ∃ v, at_ xs j = some v := by
  induction xs generalizing j with
  | nil => simp [rdy] at h
  | cons x r ih =>
    cases x with
    | none => simp [rdy] at h
    | some v =>
      cases j with
      | zero => exact ⟨v, rfl⟩
      | succ j => rw [at_succ]; exact ih (by simp [rdy] at h; omega)
theorem rdy_none (xs : Sl) : at_ xs (rdy xs) = none := by
  induction xs with
  | nil => rfl
  | cons x r ih =>
    cases x with
    | none => rfl
    | some v => rw [rdy, at_succ, ih]
theorem rdy_eq {xs : Sl} {r : Nat} (h : ∀ j, j < r → at_ xs j ≠ none) (hn : at_ xs r = none) : rdy xs = r := by
  rcases Nat.lt_trichotomy (rdy xs) r with hh | hh | hh
  · exact absurd (rdy_none xs) (h _ hh)
  · exact hh
  · obtain ⟨v, hv⟩ := rdy_some hh
    rw [hn] at hv; cases hv
theorem rdy_put (xs : Sl) (k : Nat) (zs : List Int) : rdy xs ≤ rdy (putS xs k zs) := by
  rcases Nat.lt_or_ge (rdy (putS xs k zs)) (rdy xs) with h | h
  · obtain ⟨v, hv⟩ := rdy_some h
    have := putS_some k zs hv
    rw [rdy_none] at this; cases this
  · exact h

/-- What is read. -/
def vals (xs : Sl) : List Int := xs.map (·.getD 0)
theorem vals_len (xs : Sl) : (vals xs).length = xs.length := by simp [vals]
theorem vals_get (xs : Sl) (j : Nat) : (vals xs).getD j 0 = (at_ xs j).getD 0 := by
  unfold vals at_
  simp only [List.getD_eq_getElem?_getD, List.getElem?_map]
  cases xs[j]? <;> rfl
theorem at_drop (xs : Sl) (n j : Nat) : at_ (xs.drop n) j = at_ xs (n + j) := by
  unfold at_; simp only [List.getD_eq_getElem?_getD, List.getElem?_drop]
theorem held_drop {xs : Sl} {n : Nat} (h : n ≤ rdy xs) : heldN (xs.drop n) = heldN xs - n := by
  induction n generalizing xs with
  | zero => simp
  | succ n ih =>
    cases xs with
    | nil => simp [rdy] at h
    | cons x r =>
      cases x with
      | none => simp [rdy] at h
      | some v =>
        rw [List.drop_succ_cons, ih (by simp [rdy] at h; exact h), held_cons]
        simp
theorem rdy_drop {xs : Sl} {n : Nat} (h : n ≤ rdy xs) : rdy (xs.drop n) = rdy xs - n := by
  refine rdy_eq (fun j hj => ?_) ?_
  · rw [at_drop]
    obtain ⟨v, hv⟩ := rdy_some (xs := xs) (j := n + j) (by omega)
    rw [hv]; simp
  · rw [at_drop, show n + (rdy xs - n) = rdy xs by omega, rdy_none]

end Go.Proofs.Ytdgkeidpoodmeaa
