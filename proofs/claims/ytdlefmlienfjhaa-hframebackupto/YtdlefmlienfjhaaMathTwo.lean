/-
  More plain arithmetic for layer 1: forms that are read back, and the shortest of them. Nothing is proved of the statement here.
-/
import Derived.Test.YtdlefmlienfjhaaMath
namespace Go.Proofs.Ytdlefmlienfjhaa

theorem val_split (t : List Int) : ∀ a : Int, val a t = a * 256 ^ t.length + val 0 t := by
  induction t with
  | nil => intro a; simp [val]
  | cons y r ih =>
    intro a
    rw [val, val, ih, ih (0 * 256 + y), List.length_cons, Int.pow_succ]
    simp only [Int.add_mul, Int.zero_mul, Int.zero_add]
    rw [Int.mul_comm (256 ^ r.length) 256, ← Int.mul_assoc, Int.add_assoc]

theorem val_div (t : List Int) (h : ∀ x ∈ t, 0 ≤ x ∧ x < 256) (a : Int) : val a t / 256 ^ t.length = a := by
  have hb := val_bound t 0 (by omega) h
  rw [val_split]
  rw [Int.add_comm, Int.add_mul_ediv_right _ _ (Int.ne_of_gt (Int.pow_pos (by decide)))]
  rw [Int.ediv_eq_zero_of_lt hb.1 (by simpa using hb.2), Int.zero_add]

theorem be_val (t : List Int) : (∀ x ∈ t, 0 ≤ x ∧ x < 256) → ∀ a : Int, be t.length (val a t) = t := by
  induction t with
  | nil => intro _ _; rfl
  | cons y r ih =>
    intro h a
    have hr : ∀ x ∈ r, 0 ≤ x ∧ x < 256 := fun x hx => h x (by simp [hx])
    have hy := h y (by simp)
    rw [List.length_cons, be, val, val_div r hr, ih hr]
    congr 1
    omega

/-- What is told where a number is read. -/
theorem rdAt_ok {l : List Int} {p m e f : Int} (h : rdAt l p = (m, e, f)) :
    (f = 0 ∧ ∃ x r, l = x :: r ∧ width x ≤ l.length ∧ m = val (x % 64) (r.take (width x - 1)) ∧ e = p + width x) ∨ (f = 12 ∧ m = 0 ∧ e = 0) := by
  cases l with
  | nil => simp only [rdAt, Prod.mk.injEq] at h; omega
  | cons x r =>
    simp only [rdAt] at h
    by_cases hw : r.length + 1 < width x
    · rw [if_pos hw] at h; simp only [Prod.mk.injEq] at h; omega
    · rw [if_neg hw] at h
      simp only [Prod.mk.injEq] at h
      exact .inl ⟨h.2.2.symm, x, r, rfl, by rw [List.length_cons]; omega, h.1.symm, h.2.1.symm⟩

theorem rd_zero (l : List Int) : rd l 0 = rdAt l 0 := by
  rw [rd, if_neg (by omega)]; rfl

/-- A number that is read is no longer in its shortest form; and the same, if as long. -/
theorem least {x : Int} {r : List Int} (hb : ∀ y ∈ x :: r, 0 ≤ y ∧ y < 256) (hw : width x ≤ (x :: r).length) :
    let m := val (x % 64) (r.take (width x - 1))
    0 ≤ m ∧ m ≤ 4611686018427387903 ∧ sz m ≤ width x ∧ (sz m = width x → form m = (x :: r).take (width x)) := by
  have hx := hb x (by simp)
  have hr : ∀ y ∈ r, 0 ≤ y ∧ y < 256 := fun y hy => hb y (by simp [hy])
  intro m
  have ht : ∀ y ∈ r.take (width x - 1), 0 ≤ y ∧ y < 256 := fun y hy => hr y (List.mem_of_mem_take hy)
  have hbd := val_bound (r.take (width x - 1)) (x % 64) (by omega) ht
  have hsm := val_small (l := r.take (width x - 1)) (a := x % 64) (by omega) (by omega) ht
  have hl : (r.take (width x - 1)).length = width x - 1 := by simp at hw ⊢; omega
  rw [hl] at hbd hsm
  have key : sz m = width x → form m = (x :: r).take (width x) := by
    intro e
    have hbe := be_val ((x % 64) :: r.take (width x - 1)) (by intro y hy; simp only [List.mem_cons] at hy; rcases hy with rfl | hy; (· omega); exact ht y hy) 0
    rw [val, List.length_cons, hl, Int.zero_mul, Int.zero_add] at hbe
    rcases width_cases hx.1 hx.2 with ⟨hq, hwx⟩ | ⟨hq, hwx⟩ | ⟨hq, hwx⟩ | ⟨hq, hwx⟩
    all_goals
      rw [form, e]
      rw [hwx] at hbe ⊢
      show up _ (be _ (val (x % 64) (r.take (width x - 1)))) = _
      rw [hwx, hbe, up]
      simp only [List.take_succ_cons]
      congr 1
      have t1 : tag 1 = 0 := rfl
      have t2 : tag 2 = 64 := rfl
      have t4 : tag 4 = 128 := rfl
      have t8 : tag 8 = 192 := rfl
      omega
  refine ⟨(hsm (by rcases width_cases hx.1 hx.2 with h | h | h | h <;> omega)).1, (hsm (by rcases width_cases hx.1 hx.2 with h | h | h | h <;> omega)).2, ?_, key⟩
  have hm : 0 ≤ m ∧ m < (x % 64 + 1) * 256 ^ (width x - 1) := hbd
  have hc := sz_cases m
  generalize m = v at hm hc
  rcases width_cases hx.1 hx.2 with ⟨hq, hwx⟩ | ⟨hq, hwx⟩ | ⟨hq, hwx⟩ | ⟨hq, hwx⟩
  all_goals
    rw [hwx] at hm ⊢
    simp only [Nat.reduceSub, Int.reducePow, Int.mul_one] at hm
    omega

/-- The first byte of a form tells its size; the form is read as its number. -/
theorem form_head {n : Int} (h0 : 0 ≤ n) (h1 : n ≤ 4611686018427387903) :
    ∃ y r, form n = y :: r ∧ width y = sz n ∧ r.length + 1 = sz n ∧ val (y % 64) r = n ∧ ∀ u ∈ y :: r, 0 ≤ u ∧ u < 256 := by
  obtain ⟨s, hs⟩ : ∃ s, sz n = s := ⟨_, rfl⟩
  have hc := sz_some h0 h1
  rw [hs] at hc
  obtain ⟨x, r, hx⟩ := be_ne n (s := s) (by omega)
  have hb := be_head h0 h1 hs hx
  have hlen : r.length + 1 = s := by have := be_length s n; rw [hx] at this; simpa using this
  have hr : ∀ u ∈ r, 0 ≤ u ∧ u < 256 := fun u hu => be_bound s n u (by rw [hx]; simp [hu])
  have hv : val x r = n := by
    have hp : n < 256 ^ s := by
      rcases sz_cases n with h | h | h | h | h
      · omega
      all_goals
        obtain ⟨e, b1, b2⟩ := h
        rw [hs] at e
        subst e
        omega
    have := val_be_of h0 hp
    rw [hx, val] at this
    simpa using this
  have t1 : tag 1 = 0 := rfl
  have t2 : tag 2 = 64 := rfl
  have t4 : tag 4 = 128 := rfl
  have t8 : tag 8 = 192 := rfl
  refine ⟨x + tag s, r, form_of hs hx, ?_, by rw [hs]; exact hlen, ?_, ?_⟩
  · rw [hs]
    rcases hc with rfl | rfl | rfl | rfl
    · rw [t1]; unfold width; rw [if_pos (by omega)]
    · rw [t2]; unfold width; rw [if_neg (by omega), if_pos (by omega)]
    · rw [t4]; unfold width; rw [if_neg (by omega), if_neg (by omega), if_pos (by omega)]
    · rw [t8]; unfold width; rw [if_neg (by omega), if_neg (by omega), if_neg (by omega)]
  · rw [show (x + tag s) % 64 = x from by rcases tag_cases s with h | h | h | h <;> omega]
    exact hv
  · intro u hu
    simp only [List.mem_cons] at hu
    rcases hu with rfl | hu
    · rcases tag_cases s with h | h | h | h <;> omega
    · exact hr u hu

/-- A number is read back from its form, wherever that stands. -/
theorem rd_form {n : Int} (h0 : 0 ≤ n) (h1 : n ≤ 4611686018427387903) (z0 z2 : List Int) :
    rd (z0 ++ form n ++ z2) z0.length = (n, (z0.length : Int) + sz n, 0) := by
  obtain ⟨y, r, hf, hw, hl, hv, _⟩ := form_head h0 h1
  rw [rd, if_neg (by simp; omega), Int.toNat_natCast, List.append_assoc, List.drop_left, hf, List.cons_append, rdAt]
  rw [hw, if_neg (by simp; omega), List.take_left' (by omega), hv]

theorem form_bytes (n : Int) : ∀ u ∈ form n, 0 ≤ u ∧ u < 256 := by
  by_cases h : n < 0 ∨ 4611686018427387903 < n
  · rw [form_nil h]; simp
  · obtain ⟨y, r, hf, _, _, _, hb⟩ := form_head (n := n) (by omega) (by omega)
    rw [hf]; exact hb

end Go.Proofs.Ytdlefmlienfjhaa
