/-
  Plain facts about lists of spans that rise and lie apart: how a span is laid into such a list, how a list is cut at a floor, and how many numbers it holds. Nothing of the program's model stands here.
-/
namespace Go.Proofs.Ytmcemfjnenfcaaa
set_option linter.unusedVariables false

abbrev Sp := Int × Int

/-- The spans rise, lie apart, begin at or above 'lo' and end at or below the greatest number. -/
def Ap : Int → List Sp → Prop
  | _, [] => True
  | lo, x :: r => lo ≤ x.1 ∧ x.1 ≤ x.2 ∧ x.2 ≤ 4611686018427387903 ∧ Ap (x.2 + 2) r

theorem Ap.mono {lo lo' : Int} (h : lo' ≤ lo) : ∀ {xs : List Sp}, Ap lo xs → Ap lo' xs
  | [], _ => trivial
  | _ :: _, ⟨a, b, c, d⟩ => ⟨Int.le_trans h a, b, c, d⟩

theorem Ap.mem : ∀ {xs : List Sp} {lo : Int}, Ap lo xs → ∀ x ∈ xs, lo ≤ x.1 ∧ x.1 ≤ x.2 ∧ x.2 ≤ 4611686018427387903
  | [], _, _, x, h => by cases h
  | y :: r, lo, ⟨a, b, c, d⟩, x, h => by
    rcases List.mem_cons.1 h with rfl | h
    · exact ⟨a, b, c⟩
    · have := d.mem x h; omega

theorem Ap.drop : ∀ {xs : List Sp} {lo : Int} (k : Nat), Ap lo xs → Ap lo (xs.drop k)
  | [], _, k, _ => by simp [Ap]
  | y :: r, lo, 0, h => h
  | y :: r, lo, k + 1, ⟨a, b, c, d⟩ => by
    have := d.drop k
    simp only [List.drop_succ_cons]
    exact this.mono (by omega)

theorem Ap.take : ∀ {xs : List Sp} {lo : Int} (k : Nat), Ap lo xs → Ap lo (xs.take k)
  | [], _, k, _ => by simp [Ap]
  | y :: r, lo, 0, h => by simp [Ap]
  | y :: r, lo, k + 1, ⟨a, b, c, d⟩ => by
    simp only [List.take_succ_cons]
    exact ⟨a, b, c, d.take k⟩

/-- How many spans at the list's head are such. -/
def cnt (p : Sp → Bool) : List Sp → Nat
  | [] => 0
  | x :: r => if p x then cnt p r + 1 else 0

theorem cnt_le (p : Sp → Bool) : ∀ xs : List Sp, cnt p xs ≤ xs.length
  | [] => Nat.le_refl _
  | x :: r => by
    have := cnt_le p r
    simp only [cnt, List.length_cons]
    split <;> omega

theorem cnt_step (p : Sp → Bool) : ∀ (xs : List Sp) (k : Nat), k ≤ cnt p xs → (k < cnt p xs ↔ k < xs.length ∧ p (xs.getD k (0, 0)) = true)
  | [], k, h => by simp [cnt]
  | x :: r, 0, h => by
    by_cases hp : p x = true
    · simp [cnt, hp]
    · simp [cnt, hp]
  | x :: r, k + 1, h => by
    by_cases hp : p x = true
    · simp only [cnt, hp, if_true] at h ⊢
      have := cnt_step p r k (by omega)
      simp only [List.length_cons, List.getD_cons_succ, Nat.add_lt_add_iff_right]
      exact this
    · simp only [cnt, hp] at h
      simp at h

theorem cnt_take (p : Sp → Bool) : ∀ (xs : List Sp), ∀ x ∈ xs.take (cnt p xs), p x = true
  | [], x, h => by simp at h
  | y :: r, x, h => by
    by_cases hp : p y = true
    · simp only [cnt, hp, if_true, List.take_succ_cons] at h
      rcases List.mem_cons.1 h with rfl | h
      · exact hp
      · exact cnt_take p r x h
    · simp [cnt, hp] at h

theorem cnt_drop (p : Sp → Bool) : ∀ (xs : List Sp), ∀ x r, xs.drop (cnt p xs) = x :: r → p x = false
  | [], x, r, h => by simp at h
  | y :: s, x, r, h => by
    by_cases hp : p y = true
    · simp only [cnt, hp, if_true, List.drop_succ_cons] at h
      exact cnt_drop p s x r h
    · simp only [cnt, hp] at h
      simp at h
      rw [← h.1]; simpa using hp

/-- The numbers that two spans share. -/
def ov (y x : Sp) : Int := max 0 (min x.2 y.2 - max x.1 y.1 + 1)
def ovs (y : Sp) : List Sp → Int
  | [] => 0
  | x :: r => ov y x + ovs y r
/-- A span grown by others. -/
def jn : Sp → List Sp → Sp
  | j, [] => j
  | j, x :: r => jn (min j.1 x.1, max j.2 x.2) r

theorem ov_pos (y x : Sp) : 0 ≤ ov y x := by unfold ov; omega
theorem ovs_pos (y : Sp) : ∀ xs, 0 ≤ ovs y xs
  | [] => Int.le_refl _
  | x :: r => by have := ov_pos y x; have := ovs_pos y r; simp only [ovs]; omega

theorem ovs_le (y : Sp) : ∀ (xs : List Sp) (lo : Int), Ap lo xs → ovs y xs ≤ max 0 (y.2 - max y.1 lo + 1)
  | [], lo, _ => by simp only [ovs]; omega
  | x :: r, lo, ⟨a, b, c, d⟩ => by
    have := ovs_le y r _ d
    simp only [ovs, ov]
    omega

theorem ovs_fit (f t : Int) (xs : List Sp) (lo : Int) (h : Ap lo xs) (hft : f ≤ t) : ovs (f, t) xs ≤ t - f + 1 := by
  have := ovs_le (f, t) xs lo h
  simp only at this
  omega

theorem ovs_mem (y : Sp) : ∀ (xs : List Sp), ∀ x ∈ xs, ov y x ≤ ovs y xs
  | [], x, h => by cases h
  | z :: r, x, h => by
    have := ov_pos y z
    have := ovs_pos y r
    rcases List.mem_cons.1 h with rfl | h
    · simp only [ovs]; omega
    · have := ovs_mem y r x h
      simp only [ovs]; omega

theorem ovs_append (y : Sp) : ∀ (xs ys : List Sp), ovs y (xs ++ ys) = ovs y xs + ovs y ys
  | [], ys => by simp [ovs]
  | x :: r, ys => by simp only [List.cons_append, ovs, ovs_append y r ys]; omega

theorem ovs_none (y : Sp) : ∀ (xs : List Sp), (∀ x ∈ xs, ov y x = 0) → ovs y xs = 0
  | [], _ => rfl
  | x :: r, h => by
    rw [ovs, h x (List.mem_cons_self ..), ovs_none y r (fun z hz => h z (List.mem_cons_of_mem _ hz))]; rfl

theorem jn_le (j : Sp) : ∀ xs : List Sp, (jn j xs).1 ≤ j.1 ∧ j.2 ≤ (jn j xs).2 := by
  intro xs
  induction xs generalizing j with
  | nil => exact ⟨Int.le_refl _, Int.le_refl _⟩
  | cons x r ih =>
    have := ih (min j.1 x.1, max j.2 x.2)
    simp only at this
    simp only [jn]
    omega

theorem jn_mem (j : Sp) : ∀ xs : List Sp, ∀ x ∈ xs, (jn j xs).1 ≤ x.1 ∧ x.2 ≤ (jn j xs).2 := by
  intro xs
  induction xs generalizing j with
  | nil => intro x h; cases h
  | cons y r ih =>
    intro x h
    simp only [jn]
    rcases List.mem_cons.1 h with rfl | h
    · have := jn_le (min j.1 x.1, max j.2 x.2) r
      simp only at this
      omega
    · exact ih _ x h

/-- What a join's ends are. -/
theorem jn_ends (j : Sp) : ∀ xs : List Sp, ((jn j xs).1 = j.1 ∨ ∃ x ∈ xs, (jn j xs).1 = x.1) ∧ ((jn j xs).2 = j.2 ∨ ∃ x ∈ xs, (jn j xs).2 = x.2) := by
  intro xs
  induction xs generalizing j with
  | nil => exact ⟨.inl rfl, .inl rfl⟩
  | cons y r ih =>
    obtain ⟨h1, h2⟩ := ih (min j.1 y.1, max j.2 y.2)
    simp only [jn]
    constructor
    · rcases h1 with h1 | ⟨x, hx, h1⟩
      · simp only at h1
        by_cases h : j.1 ≤ y.1
        · exact .inl (by omega)
        · exact .inr ⟨y, List.mem_cons_self .., by omega⟩
      · exact .inr ⟨x, List.mem_cons_of_mem _ hx, h1⟩
    · rcases h2 with h2 | ⟨x, hx, h2⟩
      · simp only at h2
        by_cases h : y.2 ≤ j.2
        · exact .inl (by omega)
        · exact .inr ⟨y, List.mem_cons_self .., by omega⟩
      · exact .inr ⟨x, List.mem_cons_of_mem _ hx, h2⟩

/-- The spans that lie below, that meet or touch, that lie above. -/
def nA (f : Int) (xs : List Sp) : Nat := cnt (fun x => decide (x.2 < f - 1)) xs
def nM (f t : Int) (xs : List Sp) : Nat := cnt (fun x => decide (x.1 ≤ t + 1)) (xs.drop (nA f xs))
def lowL (f : Int) (xs : List Sp) : List Sp := xs.take (nA f xs)
def midL (f t : Int) (xs : List Sp) : List Sp := (xs.drop (nA f xs)).take (nM f t xs)
def topL (f t : Int) (xs : List Sp) : List Sp := xs.drop (nA f xs + nM f t xs)
def merged (f t : Int) (xs : List Sp) : List Sp := lowL f xs ++ jn (f, t) (midL f t xs) :: topL f t xs

theorem parts (f t : Int) (xs : List Sp) : xs = lowL f xs ++ (midL f t xs ++ topL f t xs) := by
  unfold lowL midL topL
  rw [← List.drop_drop, List.take_append_drop, List.take_append_drop]

theorem nA_le (f : Int) (xs : List Sp) : nA f xs ≤ xs.length := cnt_le _ _
theorem nM_le (f t : Int) (xs : List Sp) : nA f xs + nM f t xs ≤ xs.length := by
  have := cnt_le (fun x => decide (x.1 ≤ t + 1)) (xs.drop (nA f xs))
  have h2 := nA_le f xs
  simp only [List.length_drop] at this
  unfold nM
  omega

theorem low_all {f : Int} {xs : List Sp} : ∀ x ∈ lowL f xs, x.2 < f - 1 := by
  intro x h
  have := cnt_take _ _ x h
  simpa using this

theorem ge_of_head {p : Sp → Prop} : ∀ {xs : List Sp} {lo : Int} (e : Int), Ap lo xs → (∀ x r, xs = x :: r → e ≤ x.2) → ∀ x ∈ xs, e ≤ x.2
  | [], _, _, _, _, x, h => by cases h
  | y :: r, lo, e, ⟨a, b, c, d⟩, hh, x, h => by
    have h0 := hh y r rfl
    rcases List.mem_cons.1 h with rfl | h
    · exact h0
    · have := d.mem x h; omega

theorem gt_of_head : ∀ {xs : List Sp} {lo : Int} (e : Int), Ap lo xs → (∀ x r, xs = x :: r → e < x.1) → ∀ x ∈ xs, e < x.1
  | [], _, _, _, _, x, h => by cases h
  | y :: r, lo, e, ⟨a, b, c, d⟩, hh, x, h => by
    have h0 := hh y r rfl
    rcases List.mem_cons.1 h with rfl | h
    · exact h0
    · have := d.mem x h; omega

theorem mid_all {f t lo : Int} {xs : List Sp} (h : Ap lo xs) : ∀ x ∈ midL f t xs, f - 1 ≤ x.2 ∧ x.1 ≤ t + 1 := by
  intro x hx
  have h1 := cnt_take _ _ x hx
  refine ⟨?_, by simpa using h1⟩
  refine ge_of_head (p := fun _ => True) (f - 1) (h.drop (nA f xs)) ?_ x (List.mem_of_mem_take hx)
  intro y r hy
  have := cnt_drop _ _ y r hy
  simp at this; omega

theorem top_all {f t lo : Int} {xs : List Sp} (h : Ap lo xs) : ∀ x ∈ topL f t xs, t + 1 < x.1 := by
  intro x hx
  refine gt_of_head (t + 1) (h.drop (nA f xs + nM f t xs)) ?_ x hx
  intro y r hy
  rw [← List.drop_drop] at hy
  have := cnt_drop _ _ y r hy
  simp at this; omega

theorem Ap_append : ∀ (xs ys : List Sp) (lo : Int), Ap lo (xs ++ ys) ↔ Ap lo xs ∧ Ap lo ys ∧ ∀ x ∈ xs, Ap (x.2 + 2) ys
  | [], ys, lo => by simp [Ap]
  | x :: r, ys, lo => by
    have ih := Ap_append r ys (x.2 + 2)
    simp only [List.cons_append, Ap]
    constructor
    · rintro ⟨a, b, c, d⟩
      obtain ⟨d1, d2, d3⟩ := ih.1 d
      refine ⟨⟨a, b, c, d1⟩, d2.mono (by omega), ?_⟩
      intro z hz
      rcases List.mem_cons.1 hz with rfl | hz
      · exact d2
      · exact d3 z hz
    · rintro ⟨⟨a, b, c, d⟩, e, g⟩
      exact ⟨a, b, c, ih.2 ⟨d, g x (List.mem_cons_self ..), fun z hz => g z (List.mem_cons_of_mem _ hz)⟩⟩

theorem Ap_cons_of {lo e : Int} {ys : List Sp} (h : Ap lo ys) (hh : ∀ y ∈ ys, e ≤ y.1) : Ap e ys := by
  cases ys with
  | nil => trivial
  | cons y r => exact ⟨hh y (List.mem_cons_self ..), h.2.1, h.2.2.1, h.2.2.2⟩

theorem merged_ap {f t lo : Int} {xs : List Sp} (h : Ap lo xs) (hlo : lo ≤ f) (hft : f ≤ t) (ht : t ≤ 4611686018427387903) : Ap lo (merged f t xs) := by
  have hp := parts f t xs
  have hA := (Ap_append (lowL f xs) (midL f t xs ++ topL f t xs) lo).1 (hp ▸ h)
  have hB := (Ap_append (midL f t xs) (topL f t xs) lo).1 hA.2.1
  have e1 := jn_ends (f, t) (midL f t xs)
  have e2 := jn_le (f, t) (midL f t xs)
  simp only at e2
  have hm := mid_all (f := f) (t := t) h
  have htop := top_all (f := f) (t := t) h
  have hlow := low_all (f := f) (xs := xs)
  have jlo : lo ≤ (jn (f, t) (midL f t xs)).1 := by
    rcases e1.1 with e | ⟨x, hx, e⟩
    · simp only at e; omega
    · have := hB.1.mem x hx; omega
  have jhi : (jn (f, t) (midL f t xs)).2 ≤ 4611686018427387903 := by
    rcases e1.2 with e | ⟨x, hx, e⟩
    · simp only at e; omega
    · have := hB.1.mem x hx; omega
  have jt : Ap ((jn (f, t) (midL f t xs)).2 + 2) (topL f t xs) := by
    rcases e1.2 with e | ⟨x, hx, e⟩
    · simp only at e
      rw [e]
      exact Ap_cons_of hB.2.1 (fun y hy => by have := htop y hy; omega)
    · rw [e]; exact hB.2.2 x hx
  unfold merged
  refine (Ap_append _ _ _).2 ⟨hA.1, ⟨jlo, by omega, jhi, jt⟩, ?_⟩
  intro x hx
  refine ⟨?_, by omega, jhi, jt⟩
  rcases e1.1 with e | ⟨y, hy, e⟩
  · simp only at e
    have := hlow x hx
    omega
  · rw [e]
    exact (((Ap_append _ _ _).1 (hA.2.2 x hx)).1.mem y hy).1

theorem merged_len (f t : Int) (xs : List Sp) : (merged f t xs).length ≤ xs.length + 1 := by
  have h := congrArg List.length (parts f t xs)
  simp only [List.length_append] at h
  simp only [merged, List.length_append, List.length_cons]
  omega

theorem merged_pos (f t : Int) (xs : List Sp) : 0 < (merged f t xs).length := by
  simp only [merged, List.length_append, List.length_cons]
  omega

/-- In a span? -/
def inL (xs : List Sp) (n : Int) : Prop := ∃ x ∈ xs, x.1 ≤ n ∧ n ≤ x.2

theorem inL_append (xs ys : List Sp) (n : Int) : inL (xs ++ ys) n ↔ inL xs n ∨ inL ys n := by
  simp only [inL, List.mem_append]
  constructor
  · rintro ⟨x, h | h, h2⟩
    · exact .inl ⟨x, h, h2⟩
    · exact .inr ⟨x, h, h2⟩
  · rintro (⟨x, h, h2⟩ | ⟨x, h, h2⟩)
    · exact ⟨x, .inl h, h2⟩
    · exact ⟨x, .inr h, h2⟩
theorem inL_cons (x : Sp) (xs : List Sp) (n : Int) : inL (x :: xs) n ↔ (x.1 ≤ n ∧ n ≤ x.2) ∨ inL xs n := by
  simp [inL]

theorem jn_in (j : Sp) (hj : j.1 ≤ j.2) : ∀ (xs : List Sp), (∀ x ∈ xs, x.1 ≤ x.2 ∧ j.1 - 1 ≤ x.2 ∧ x.1 ≤ j.2 + 1) → ∀ n, ((jn j xs).1 ≤ n ∧ n ≤ (jn j xs).2 ↔ (j.1 ≤ n ∧ n ≤ j.2) ∨ inL xs n) := by
  intro xs
  induction xs generalizing j with
  | nil => intro _ n; simp [jn, inL]
  | cons x r ih =>
    intro h n
    have hx := h x (List.mem_cons_self ..)
    have := ih (min j.1 x.1, max j.2 x.2) (by simp only; omega) (fun y hy => by have := h y (List.mem_cons_of_mem _ hy); simp only; omega) n
    simp only [jn]
    rw [this, inL_cons]
    simp only
    constructor
    · rintro (h1 | h1)
      · omega
      · exact .inr (.inr h1)
    · rintro (h1 | h1 | h1)
      · exact .inl (by omega)
      · exact .inl (by omega)
      · exact .inr h1

theorem merged_in {f t lo : Int} {xs : List Sp} (h : Ap lo xs) (hft : f ≤ t) (n : Int) : inL (merged f t xs) n ↔ inL xs n ∨ (f ≤ n ∧ n ≤ t) := by
  have hm := mid_all (f := f) (t := t) h
  have hp := parts f t xs
  have hj := jn_in (f, t) hft (midL f t xs) (fun x hx => by
    have h1 := hm x hx
    have h2 := h.mem x (by rw [hp]; simp [hx])
    simp only; omega) n
  have hxs : inL xs n ↔ inL (lowL f xs) n ∨ inL (midL f t xs) n ∨ inL (topL f t xs) n := by
    rw [← inL_append, ← inL_append, ← hp]
  rw [merged, inL_append, inL_cons, hj, hxs]
  simp only
  constructor
  · rintro (h | (h | h) | h)
    · exact .inl (.inl h)
    · exact .inr h
    · exact .inl (.inr (.inl h))
    · exact .inl (.inr (.inr h))
  · rintro ((h | h | h) | h)
    · exact .inl h
    · exact .inr (.inl (.inr h))
    · exact .inr (.inr h)
    · exact .inr (.inl (.inl h))

/-- How many numbers spans hold. -/
def tot : List Sp → Int
  | [] => 0
  | x :: r => x.2 - x.1 + 1 + tot r
theorem tot_append : ∀ (xs ys : List Sp), tot (xs ++ ys) = tot xs + tot ys
  | [], ys => by simp [tot]
  | x :: r, ys => by simp only [List.cons_append, tot, tot_append r ys]; omega

theorem jn_fst (f t : Int) : ∀ (xs : List Sp) (lo : Int), Ap lo xs → f < lo → (∀ t', (jn (f, t') xs).1 = f)
  | [], _, _, _, t' => rfl
  | x :: r, lo, ⟨a, b, c, d⟩, h, t' => by
    simp only [jn]
    have : min f x.1 = f := by omega
    rw [this]
    exact jn_fst f t r _ d (by omega) _

theorem jn_fst_any : ∀ (xs : List Sp) (f t t' : Int), (jn (f, t) xs).1 = (jn (f, t') xs).1
  | [], _, _, _ => rfl
  | x :: r, f, t, t' => by simp only [jn]; exact jn_fst_any r _ _ _

theorem jn_tot (f t : Int) (hft : f ≤ t) : ∀ (xs : List Sp) (lo f' : Int), Ap lo xs → f' ≤ f → f < lo ∨ f' = f → (∀ x ∈ xs, f - 1 ≤ x.2 ∧ x.1 ≤ t + 1) →
    (jn (f', t) xs).2 - (jn (f', t) xs).1 + 1 = (t - f' + 1) + tot xs - ovs (f, t) xs
  | [], _, f', _, _, _, _ => by simp only [jn, tot, ovs]; omega
  | x :: r, lo, f', ⟨a, b, c, d⟩, h1, h2, h3 => by
    have hx := h3 x (List.mem_cons_self ..)
    cases r with
    | nil =>
      simp only [jn, tot, ovs, ov]
      omega
    | cons y s =>
      have hy := h3 y (by simp)
      have hd := d.1
      have e2 : max t x.2 = t := by omega
      have ih := jn_tot f t hft (y :: s) (x.2 + 2) (min f' x.1) d (by omega) (by omega) (fun z hz => h3 z (List.mem_cons_of_mem _ hz))
      have e3 : tot (x :: y :: s) = x.2 - x.1 + 1 + tot (y :: s) := rfl
      have e4 : ovs (f, t) (x :: y :: s) = ov (f, t) x + ovs (f, t) (y :: s) := rfl
      rw [jn, e2, ih, e3, e4]
      generalize tot (y :: s) = T1
      generalize ovs (f, t) (y :: s) = O1
      simp only [ov]
      omega

theorem merged_tot {f t lo : Int} {xs : List Sp} (h : Ap lo xs) (hft : f ≤ t) : tot (merged f t xs) = tot xs + (t - f + 1 - ovs (f, t) (midL f t xs)) := by
  have hm := mid_all (f := f) (t := t) h
  have hp := parts f t xs
  have hA := (Ap_append (lowL f xs) (midL f t xs ++ topL f t xs) lo).1 (hp ▸ h)
  have hB := (Ap_append (midL f t xs) (topL f t xs) lo).1 hA.2.1
  have hj := jn_tot f t hft (midL f t xs) lo f hB.1 (Int.le_refl _) (.inr rfl) hm
  have e : tot xs = tot (lowL f xs) + (tot (midL f t xs) + tot (topL f t xs)) := by rw [← tot_append, ← tot_append, ← hp]
  rw [merged, tot_append, tot, hj, e]
  omega

end Go.Proofs.Ytmcemfjnenfcaaa
