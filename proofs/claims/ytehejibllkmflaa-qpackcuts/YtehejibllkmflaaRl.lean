/-
  A cut makes no difference: what is read ahead of more bytes, and behind others.
-/
import Derived.Test.YtehejibllkmflaaRk
namespace Go.Proofs.Ytehejibllkmflaa
open Go.RowKit
set_option linter.unusedVariables false
set_option maxRecDepth 20000

theorem gl_app (ys : List Int) : ∀ (r : List Int) (n u : Int) (i : Nat), (gl n u i r).2.2 ≠ 12 → gl n u i (r ++ ys) = gl n u i r
  | [], n, u, i, h => absurd rfl h
  | y :: r, n, u, i, h => by
    rw [List.cons_append, gl, gl]
    rw [gl] at h
    split
    · rfl
    · next h1 =>
      rw [if_neg h1] at h
      split
      · rfl
      · next h2 =>
        rw [if_neg h2] at h
        split
        · rfl
        · next h3 =>
          rw [if_neg h3] at h
          exact gl_app ys r _ _ _ h
theorem pfG_app {zs : List Int} (ys : List Int) {p : Nat} {z : Int} (hp : p ≤ zs.length) (h : (pfG zs p z).2.2 ≠ 12) : p < zs.length ∧ pfG (zs ++ ys) p z = pfG zs p z := by
  unfold pfG at h ⊢
  rw [List.drop_append_of_le_length hp]
  cases hd : zs.drop p with
  | nil => rw [hd] at h; exact absurd rfl h
  | cons y r =>
    have hlt : p < zs.length := by
      have := congrArg List.length hd
      rw [List.length_drop, List.length_cons] at this
      omega
    refine ⟨hlt, ?_⟩
    rw [hd] at h
    simp only [List.cons_append] at h ⊢
    split
    · rfl
    · next h1 =>
      rw [if_neg h1] at h
      have : (gl (y % z) 1 1 r).2.2 ≠ 12 := by
        intro h2
        apply h
        rcases hg : gl (y % z) 1 1 r with ⟨n, c, e⟩
        rw [hg] at h2
        have h3 : e = 12 := h2
        subst h3
        rfl
      rw [gl_app ys r _ _ _ this]
theorem pgA_app {zs : List Int} (ys : List Int) {p : Nat} {b : Int} (hp : p ≤ zs.length) (hb : 1 ≤ b ∧ b ≤ 8) (h : (pgA zs p b).2.2 ≠ 12) : p < zs.length ∧ pgA (zs ++ ys) p b = pgA zs p b := by
  unfold pgA at h ⊢
  rw [if_neg (by omega), if_neg (by omega)] at h
  rw [if_neg (by omega), if_neg (by rw [List.length_append]; omega), if_neg (by omega), if_neg (by omega)]
  exact pfG_app ys hp h
theorem numO_app {zs : List Int} (ys : List Int) {p : Nat} {b : Int} (hp : p ≤ zs.length) (hb : 1 ≤ b ∧ b ≤ 8) (h : numO zs p b ≠ .bad 12) : numO (zs ++ ys) p b = numO zs p b := by
  have : (pgA zs p b).2.2 ≠ 12 := fun h2 => h (by unfold numO; rw [if_pos h2])
  unfold numO
  rw [(pgA_app ys hp hb this).2]
theorem drop_take_app (zs ys : List Int) (c : Nat) (n : Int) (h : ¬ (zs.length : Int) - c < n) : ((zs ++ ys).drop c).take n.toNat = (zs.drop c).take n.toNat := by
  by_cases hn : 0 ≤ n
  · rw [List.drop_append_of_le_length (by omega), List.take_append_of_le_length (by rw [List.length_drop]; omega)]
  · rw [show n.toNat = 0 by omega, List.take_zero, List.take_zero]
theorem gtB_app {zs : List Int} (ys : List Int) {p : Nat} {b : Int} (hp : p ≤ zs.length) (hb : 1 ≤ b ∧ b ≤ 7) (h : (gtB zs p b).2.2 ≠ 12) : gtB (zs ++ ys) p b = gtB zs p b := by
  have h1 : (pgA zs p b).2.2 ≠ 12 := fun h2 => h (by
    unfold gtB
    rw [if_neg (by omega)]
    rcases hg : pgA zs p b with ⟨n, c, e⟩
    rw [hg] at h2
    have h3 : e = 12 := h2
    subst h3
    rfl)
  obtain ⟨hlt, he⟩ := pgA_app ys hp (by omega) h1
  unfold gtB at h ⊢
  rw [if_neg (by omega)] at h
  rw [if_neg (by omega), if_neg (by omega), he]
  clear he h1
  generalize pgA zs p b = t at h ⊢
  obtain ⟨n, c, e⟩ := t
  simp only at h ⊢
  split
  · rfl
  · next h2 =>
    rw [if_neg h2] at h
    split
    · rfl
    · next h3 =>
      rw [if_neg h3] at h
      have h4 : ¬ (zs.length : Int) - (c : Int) < n := fun h5 => h (by rw [if_pos h5])
      rw [if_neg h4, if_neg (by rw [List.length_append]; omega), drop_take_app zs ys _ _ h4, show (zs ++ ys).getD (p : Int).toNat 0 = zs.getD (p : Int).toNat 0 by
        rw [List.getD_eq_getElem?_getD, List.getD_eq_getElem?_getD, List.getElem?_append_left (by omega)]]
theorem txtO_app {zs : List Int} (ys : List Int) {p : Nat} {b : Int} (hp : p ≤ zs.length) (hb : 1 ≤ b ∧ b ≤ 7) (h : txtO zs p b ≠ .bad 12) : txtO (zs ++ ys) p b = txtO zs p b := by
  have : (gtB zs p b).2.2 ≠ 12 := fun h2 => h (by unfold txtO; rw [if_pos h2])
  unfold txtO
  rw [gtB_app ys hp hb this]
theorem takO_app {most cap : Int} {g : Nat} {es : List Fd} {zs : List Int} (ys : List Int) {p y : Nat} (hz : ∀ y ∈ zs, 0 ≤ y ∧ y < 256) (hp : p ≤ zs.length) (h : takO most cap g es zs p y ≠ .bad 12) : takO most cap g es (zs ++ ys) p y = takO most cap g es zs p y := by
  unfold takO at h ⊢
  split
  · next h0 =>
    rw [if_pos h0] at h
    unfold nmdO at h ⊢
    cases hn : numO zs p 6 with
    | bad z =>
      rw [hn] at h
      rw [numO_app ys hp (by omega) (by rw [hn]; exact fun h2 => by cases h2; exact h rfl), hn]
    | ok n q1 =>
      rw [numO_app ys hp (by omega) (by rw [hn]; exact fun h2 => by cases h2), hn]
      rw [hn] at h
      simp only at h ⊢
      have h1 := num_le hz hn
      rw [txtO_app ys h1.1 (by omega) (fun h2 => h (by rw [h2]; simp))]
  · next h0 =>
    rw [if_neg h0] at h
    split
    · next h1 =>
      rw [if_pos h1] at h
      unfold plnO at h ⊢
      cases hn : txtO zs p 5 with
      | bad z =>
        rw [hn] at h
        rw [txtO_app ys hp (by omega) (by rw [hn]; exact fun h2 => by cases h2; exact h rfl), hn]
      | ok n q1 =>
        rw [txtO_app ys hp (by omega) (by rw [hn]; exact fun h2 => by cases h2), hn]
        rw [hn] at h
        simp only at h ⊢
        have h1 := txt_le hz hn
        rw [txtO_app ys h1.1 (by omega) (fun h2 => h (by rw [h2]))]
    · next h1 =>
      rw [if_neg h1] at h
      split
      · next h2 =>
        rw [if_pos h2] at h
        unfold capO at h ⊢
        rw [numO_app ys hp (by omega) (fun h2 => h (by rw [h2]))]
      · next h2 =>
        rw [if_neg h2] at h
        unfold repO at h ⊢
        rw [numO_app ys hp (by omega) (fun h2 => h (by rw [h2]))]
/-- An answer's place, moved. -/
def mvO {α : Type} (k : Nat) : Out α → Out α
  | .ok a q => .ok a (k + q)
  | .bad e => .bad e
def mvT (k : Nat) : TO → TO
  | .ok c g es q => .ok c g es (k + q)
  | .bad e => .bad e
theorem pfG_mv (us zs : List Int) (p : Nat) (z : Int) : (pfG (us ++ zs) (us.length + p) z).1 = (pfG zs p z).1 ∧ (pfG (us ++ zs) (us.length + p) z).2.2 = (pfG zs p z).2.2 ∧ ((pfG zs p z).2.2 = 0 → (pfG (us ++ zs) (us.length + p) z).2.1 = us.length + (pfG zs p z).2.1) := by
  unfold pfG
  rw [List.drop_append, show us.drop (us.length + p) = [] from List.drop_eq_nil_of_le (by omega), List.nil_append, show us.length + p - us.length = p by omega]
  cases zs.drop p with
  | nil => exact ⟨rfl, rfl, fun h => by cases h⟩
  | cons y r =>
    simp only
    split
    · exact ⟨rfl, rfl, fun _ => by show us.length + p + 1 = us.length + (p + 1); omega⟩
    · generalize gl (y % z) 1 1 r = t
      obtain ⟨n, c, e⟩ := t
      simp only
      split
      · exact ⟨rfl, rfl, fun _ => by show us.length + p + c = us.length + (p + c); omega⟩
      · next h => exact ⟨rfl, rfl, fun h2 => absurd h2 h⟩
theorem pgA_mv (us zs : List Int) (p : Nat) (b : Int) (hb : 1 ≤ b ∧ b ≤ 8) (hp : p ≤ zs.length) : (pgA (us ++ zs) (us.length + p : Nat) b).1 = (pgA zs p b).1 ∧ (pgA (us ++ zs) (us.length + p : Nat) b).2.2 = (pgA zs p b).2.2 ∧ ((pgA zs p b).2.2 = 0 → (pgA (us ++ zs) (us.length + p : Nat) b).2.1 = us.length + (pgA zs p b).2.1) := by
  unfold pgA
  rw [if_neg (by omega), if_neg (by rw [List.length_append]; omega), if_neg (by omega), if_neg (by omega)]
  exact pfG_mv us zs p _
theorem numO_mv (us zs : List Int) (p : Nat) (b : Int) (hb : 1 ≤ b ∧ b ≤ 8) (hp : p ≤ zs.length) : numO (us ++ zs) (us.length + p) b = mvO us.length (numO zs p b) := by
  obtain ⟨h1, h2, h3⟩ := pgA_mv us zs p b hb hp
  unfold numO
  rw [h1, h2]
  split
  · rfl
  · split
    · rfl
    · next h => rw [h3 (by omega)]; rfl
theorem gtB_mv (us zs : List Int) (p : Nat) (b : Int) (hb : 1 ≤ b ∧ b ≤ 7) (hp : p ≤ zs.length) : (gtB (us ++ zs) (us.length + p : Nat) b).1 = (gtB zs p b).1 ∧ (gtB (us ++ zs) (us.length + p : Nat) b).2.2 = (gtB zs p b).2.2 ∧ ((gtB zs p b).2.2 = 0 → (gtB (us ++ zs) (us.length + p : Nat) b).2.1 = us.length + (gtB zs p b).2.1) := by
  obtain ⟨h1, h2, h3⟩ := pgA_mv us zs p b (by omega) hp
  unfold gtB
  rw [if_neg (by omega), if_neg (by omega)]
  generalize pgA (us ++ zs) (us.length + p : Nat) b = t at h1 h2 h3 ⊢
  generalize pgA zs p b = u at h1 h2 h3 ⊢
  obtain ⟨n, c, e⟩ := t
  obtain ⟨n', c', e'⟩ := u
  simp only at h1 h2 h3 ⊢
  subst h1 h2
  split
  · next h4 => exact ⟨rfl, rfl, fun h => absurd h h4⟩
  · next h4 =>
    have h5 := h3 (by omega)
    subst h5
    split
    · exact ⟨rfl, rfl, fun h => by cases h⟩
    · by_cases h6 : (zs.length : Int) - (c' : Int) < n
      · rw [if_pos h6, if_pos (by rw [List.length_append]; omega)]
        exact ⟨rfl, rfl, fun h => by cases h⟩
      · rw [if_neg h6, if_neg (by rw [List.length_append]; omega)]
        rw [List.drop_append, show us.drop (us.length + c') = [] from List.drop_eq_nil_of_le (by omega), List.nil_append, show us.length + c' - us.length = c' by omega]
        rw [show (us ++ zs).getD ((us.length + p : Nat) : Int).toNat 0 = zs.getD (p : Int).toNat 0 by
          rw [List.getD_eq_getElem?_getD, List.getD_eq_getElem?_getD, List.getElem?_append_right (by omega), show ((us.length + p : Nat) : Int).toNat - us.length = (p : Int).toNat by omega]]
        split
        · exact ⟨rfl, rfl, fun _ => by show us.length + c' + n.toNat = us.length + (c' + n.toNat); omega⟩
        · generalize hD ((zs.drop c').take n.toNat) = v
          obtain ⟨d, f⟩ := v
          simp only
          split
          · next h7 => exact ⟨rfl, rfl, fun h => absurd h h7⟩
          · exact ⟨rfl, rfl, fun _ => by show us.length + c' + n.toNat = us.length + (c' + n.toNat); omega⟩
theorem txtO_mv (us zs : List Int) (p : Nat) (b : Int) (hb : 1 ≤ b ∧ b ≤ 7) (hp : p ≤ zs.length) : txtO (us ++ zs) (us.length + p) b = mvO us.length (txtO zs p b) := by
  obtain ⟨h1, h2, h3⟩ := gtB_mv us zs p b hb hp
  unfold txtO
  rw [h1, h2]
  split
  · rfl
  · split
    · rfl
    · next h => rw [h3 (by omega)]; rfl
theorem insO_mv (k : Nat) (cap : Int) (g : Nat) (es : List Fd) (f : Fd) (q : Nat) : insO cap g es f (k + q) = mvT k (insO cap g es f q) := by
  unfold insO
  split <;> rfl
theorem takO_mv (most cap : Int) (g : Nat) (es : List Fd) (us zs : List Int) (p y : Nat) (hz : ∀ y ∈ zs, 0 ≤ y ∧ y < 256) (hp : p ≤ zs.length) : takO most cap g es (us ++ zs) (us.length + p) y = mvT us.length (takO most cap g es zs p y) := by
  unfold takO
  split
  · unfold nmdO
    rw [numO_mv us zs p 6 (by omega) hp]
    cases hn : numO zs p 6 with
    | bad z => rfl
    | ok n q1 =>
      have h1 := num_le hz hn
      simp only [mvO]
      rw [txtO_mv us zs q1 7 (by omega) h1.1]
      cases ht : txtO zs q1 7 with
      | bad z => simp only [mvO]; split; rfl; split <;> rfl
      | ok s q2 =>
        simp only [mvO]
        cases namO g es n _ with
        | none => rfl
        | some f => exact insO_mv _ _ _ _ _ _
  · split
    · unfold plnO
      rw [txtO_mv us zs p 5 (by omega) hp]
      cases hn : txtO zs p 5 with
      | bad z => rfl
      | ok s q1 =>
        have h1 := txt_le hz hn
        simp only [mvO]
        rw [txtO_mv us zs q1 7 (by omega) h1.1]
        cases ht : txtO zs q1 7 with
        | bad z => rfl
        | ok t q2 => exact insO_mv _ _ _ _ _ _
    · split
      · unfold capO
        rw [numO_mv us zs p 5 (by omega) hp]
        cases hn : numO zs p 5 with
        | bad z => rfl
        | ok n q1 => simp only [mvO]; split <;> rfl
      · unfold repO
        rw [numO_mv us zs p 5 (by omega) hp]
        cases hn : numO zs p 5 with
        | bad z => rfl
        | ok n q1 =>
          simp only [mvO]
          cases namO g es n false with
          | none => rfl
          | some f => exact insO_mv _ _ _ _ _ _
end Go.Proofs.Ytehejibllkmflaa
