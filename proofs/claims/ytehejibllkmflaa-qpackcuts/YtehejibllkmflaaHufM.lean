/-
  A prefix code over bytes, as plain mathematics: texts and their coded forms. Nothing is proved of a statement here.
-/
namespace Go.Proofs.Ytehejibllkmflaa
set_option linter.unusedVariables false
set_option maxRecDepth 100000

/-- The bytes of each class, in their order. -/
def hq5 : List Int := [48, 49, 50, 97, 99, 101, 105, 111, 115, 116]
def hq6 : List Int := [32, 37, 45, 46, 47, 51, 52, 53, 54, 55, 56, 57, 61, 65, 95, 98, 100, 102, 103, 104, 108, 109, 110, 112, 114, 117]
def hq7 : List Int := [58, 66, 67, 68, 69, 70, 71, 72, 73, 74, 75, 76, 77, 78, 79, 80, 81, 82, 83, 84, 85, 86, 87, 89, 106, 107, 113, 118, 119, 120, 121, 122]
def hq8 : List Int := [38, 42, 44, 59, 88, 90]
def hq15 : List Int := [0, 1, 2, 3, 4, 5, 6, 7, 8, 9, 10, 11, 12, 13, 14, 15, 16, 17, 18, 19, 20, 21, 22, 23, 24, 25, 26, 27, 28, 29, 30, 31, 33, 34, 35, 36, 39, 40, 41, 43, 60, 62, 63, 64, 91, 92, 93, 94, 96, 123, 124, 125, 126, 127, 128, 129, 130, 131, 132, 133, 134, 135, 136, 137, 138, 139, 140, 141, 142, 143, 144, 145, 146, 147, 148, 149, 150, 151, 152, 153, 154, 155, 156, 157, 158, 159, 160, 161, 162, 163, 164, 165, 166, 167, 168, 169, 170, 171, 172, 173, 174, 175, 176, 177, 178, 179, 180, 181, 182, 183, 184, 185, 186, 187, 188, 189, 190, 191, 192, 193, 194, 195, 196, 197, 198, 199, 200, 201, 202, 203, 204, 205, 206, 207, 208, 209, 210, 211, 212, 213, 214, 215, 216, 217, 218, 219, 220, 221, 222, 223, 224, 225, 226, 227, 228, 229, 230, 231, 232, 233, 234, 235, 236, 237, 238, 239, 240, 241, 242, 243, 244, 245, 246, 247, 248, 249, 250, 251, 252, 253, 254, 255]
/-- The class of a length, its first number. -/
def hqC (l : Nat) : List Int := if l = 5 then hq5 else if l = 6 then hq6 else if l = 7 then hq7 else if l = 8 then hq8 else if l = 15 then hq15 else []
def hqF (l : Nat) : Int := if l = 5 then 0 else if l = 6 then 20 else if l = 7 then 92 else if l = 8 then 248 else 32512
/-- How many bits a byte's code has, and the code as a number. -/
def hl (x : Int) : Nat := if x ∈ hq5 then 5 else if x ∈ hq6 then 6 else if x ∈ hq7 then 7 else if x ∈ hq8 then 8 else 15
def hc (x : Int) : Int := hqF (hl x) + ((hqC (hl x)).idxOf x : Nat)
theorem hl_cases (x : Int) : hl x = 5 ∨ hl x = 6 ∨ hl x = 7 ∨ hl x = 8 ∨ hl x = 15 := by
  unfold hl
  split
  · exact .inl rfl
  split
  · exact .inr (.inl rfl)
  split
  · exact .inr (.inr (.inl rfl))
  split
  · exact .inr (.inr (.inr (.inl rfl)))
  · exact .inr (.inr (.inr (.inr rfl)))
theorem hl_bd (x : Int) : 5 ≤ hl x ∧ hl x ≤ 15 := by rcases hl_cases x with h | h | h | h | h <;> omega
/-- The last k bits of a number, the highest first; the number that bits are. -/
def bn : Nat → Int → List Int
  | 0, _ => []
  | k + 1, n => (n / 2 ^ k) % 2 :: bn k n
def v2 : Int → List Int → Int
  | a, [] => a
  | a, x :: r => v2 (a * 2 + x) r
theorem bn_length (k : Nat) (n : Int) : (bn k n).length = k := by
  induction k with
  | zero => rfl
  | succ k ih => rw [bn, List.length_cons, ih]
/-- A list of bits. -/
def Bits (l : List Int) : Prop := ∀ y ∈ l, y = 0 ∨ y = 1
theorem bits_nil : Bits [] := fun y h => by cases h
theorem Bits.app {a b : List Int} (h : Bits a) (k : Bits b) : Bits (a ++ b) := fun y hy => (List.mem_append.1 hy).elim (h y) (k y)
theorem Bits.take {a : List Int} (h : Bits a) (k : Nat) : Bits (a.take k) := fun y hy => h y (List.mem_of_mem_take hy)
theorem Bits.drop {a : List Int} (h : Bits a) (k : Nat) : Bits (a.drop k) := fun y hy => h y (List.mem_of_mem_drop hy)
theorem bn_bits (k : Nat) (n : Int) : Bits (bn k n) := by
  induction k with
  | zero => exact bits_nil
  | succ k ih =>
    intro y hy
    rw [bn] at hy
    rcases List.mem_cons.1 hy with rfl | hy
    · omega
    · exact ih y hy
theorem ones_bits (k : Nat) : Bits (List.replicate k 1) := fun y hy => .inr (List.eq_of_mem_replicate hy)
theorem two_pos (k : Nat) : (0 : Int) < 2 ^ k := Int.pow_pos (by decide)
theorem v2_split (l : List Int) : ∀ a : Int, v2 a l = a * 2 ^ l.length + v2 0 l := by
  induction l with
  | nil => intro a; simp [v2]
  | cons x r ih =>
    intro a
    rw [v2, v2, ih, ih (0 * 2 + x), List.length_cons, Int.pow_succ]
    have : (a * 2 + x) * 2 ^ r.length = a * (2 ^ r.length * 2) + x * 2 ^ r.length := by rw [Int.add_mul, Int.mul_assoc, Int.mul_comm 2]
    rw [this, show (0 : Int) * 2 + x = x by omega]
    omega
theorem v2_bound (l : List Int) (h : Bits l) : 0 ≤ v2 0 l ∧ v2 0 l < 2 ^ l.length := by
  induction l with
  | nil => simp [v2]
  | cons x r ih =>
    have hr := ih (fun y hy => h y (by simp [hy]))
    have hx := h x (by simp)
    rw [v2, v2_split, List.length_cons, Int.pow_succ, show (0 : Int) * 2 + x = x by omega]
    rcases hx with rfl | rfl <;> omega
theorem bn_mod (k : Nat) : ∀ (m : Nat) (n : Int), k ≤ m → bn k (n % 2 ^ m) = bn k n := by
  induction k with
  | zero => intro m n _; rfl
  | succ k ih =>
    intro m n hk
    rw [bn, bn, ih m n (by omega)]
    congr 1
    obtain ⟨d, rfl⟩ : ∃ d, m = k + 1 + d := ⟨m - (k + 1), by omega⟩
    have e : (2 : Int) ^ (k + 1 + d) = 2 ^ k * (2 * 2 ^ d) := by rw [Int.pow_add, Int.pow_succ, Int.mul_assoc]
    rw [e]
    have h1 : n % (2 ^ k * (2 * 2 ^ d)) / 2 ^ k = n / 2 ^ k % (2 * 2 ^ d) := by
      have hk0 := two_pos k
      have hd0 := two_pos d
      rw [Int.emod_def, Int.emod_def, ← Int.ediv_ediv_of_nonneg (Int.le_of_lt hk0), Int.mul_assoc, Int.sub_eq_add_neg, ← Int.mul_neg, Int.add_mul_ediv_left _ _ (by omega)]
      omega
    rw [h1]
    exact Int.emod_emod_of_dvd _ ⟨2 ^ d, rfl⟩
/-- Bits and numbers, both ways. -/
theorem bn_v2 (l : List Int) (h : Bits l) : bn l.length (v2 0 l) = l := by
  induction l with
  | nil => rfl
  | cons x r ih =>
    have hr := v2_bound r (fun y hy => h y (by simp [hy]))
    have hx := h x (by simp)
    rw [List.length_cons, bn, v2, v2_split, show (0 : Int) * 2 + x = x by omega]
    have hp := two_pos r.length
    have e1 : (x * 2 ^ r.length + v2 0 r) / 2 ^ r.length = x := by
      rw [Int.add_comm, Int.add_mul_ediv_right _ _ (by omega), Int.ediv_eq_zero_of_lt hr.1 hr.2]; omega
    rw [e1, show x % 2 = x by rcases hx with rfl | rfl <;> rfl]
    congr 1
    have e2 := bn_mod r.length r.length (x * 2 ^ r.length + v2 0 r) (Nat.le_refl _)
    rw [Int.add_comm, Int.add_mul_emod_self_right, Int.emod_eq_of_lt hr.1 hr.2] at e2
    rw [Int.add_comm, ← e2]
    exact ih (fun y hy => h y (by simp [hy]))
theorem v2_bn (k : Nat) : ∀ n : Int, 0 ≤ n → n < 2 ^ k → v2 0 (bn k n) = n := by
  induction k with
  | zero => intro n h0 h1; rw [Int.pow_zero] at h1; simp [bn, v2]; omega
  | succ k ih =>
    intro n h0 h1
    have hp := two_pos k
    rw [Int.pow_succ] at h1
    rw [bn, v2, v2_split, bn_length, show (0 : Int) * 2 + n / 2 ^ k % 2 = n / 2 ^ k % 2 by omega, ← bn_mod k k n (Nat.le_refl _), ih _ (Int.emod_nonneg _ (by omega)) (Int.emod_lt_of_pos _ hp)]
    have hd : n / 2 ^ k < 2 := Int.ediv_lt_of_lt_mul hp (by rw [Int.mul_comm]; exact h1)
    have hd0 : 0 ≤ n / 2 ^ k := Int.ediv_nonneg h0 (by omega)
    rw [Int.emod_eq_of_lt hd0 hd, Int.mul_comm]
    exact Int.mul_ediv_add_emod n (2 ^ k)
/-- The code of a text; bits in bytes, filled up with ones; the bits of bytes. -/
def hB (zs : List Int) : List Int := zs.flatMap fun x => bn (hl x) (hc x)
def hM (n : Nat) : Nat := (n + 7) / 8
def pk (bs : List Int) : List Int := (List.range (hM bs.length)).map fun j => v2 0 (((bs ++ List.replicate 7 1).drop (8 * j)).take 8)
def ub (b : List Int) : List Int := b.flatMap (bn 8)
def hE (zs : List Int) : List Int := pk (hB zs)
def hN (zs : List Int) : Nat := (zs.map hl).sum
theorem hB_app (a b : List Int) : hB (a ++ b) = hB a ++ hB b := by simp [hB]
theorem hB_bits (zs : List Int) : Bits (hB zs) := by
  intro y hy
  obtain ⟨x, _, hx⟩ := List.mem_flatMap.1 hy
  exact bn_bits _ _ y hx
theorem hB_len (zs : List Int) : (hB zs).length = hN zs := by
  unfold hB hN
  rw [List.length_flatMap]
  congr 1
  apply List.map_congr_left
  intro x _
  exact bn_length _ _
theorem pk_len (bs : List Int) : (pk bs).length = hM bs.length := by simp [pk]
theorem hE_len (zs : List Int) : (hE zs).length = hM (hN zs) := by rw [hE, pk_len, hB_len]
theorem hN_app (a b : List Int) : hN (a ++ b) = hN a + hN b := by simp [hN]
theorem hN_bd (zs : List Int) : 5 * zs.length ≤ hN zs ∧ hN zs ≤ 15 * zs.length := by
  induction zs with
  | nil => simp [hN]
  | cons x r ih =>
    have h := hl_bd x
    rw [show hN (x :: r) = hl x + hN r from rfl, List.length_cons]
    omega
/-- Two texts together. -/
theorem sizes (a b : List Int) : hM (hN (a ++ b)) ≤ hM (hN a) + hM (hN b) ∧ hM (hN a) + hM (hN b) ≤ hM (hN (a ++ b)) + 1 ∧ 5 * a.length ≤ 8 * hM (hN a) ∧ 8 * hM (hN a) ≤ 15 * a.length + 7 := by
  have h := hN_bd a
  rw [hN_app]
  unfold hM
  omega
theorem pk_get (bs : List Int) (j : Nat) (hj : j < hM bs.length) : (pk bs)[j]? = some (v2 0 (((bs ++ List.replicate 7 1).drop (8 * j)).take 8)) := by
  unfold pk
  rw [List.getElem?_map, List.getElem?_range hj]
  rfl
/-- All whole bytes of a text's coded form stand at the beginning of a longer one's. -/
theorem begins (a b : List Int) (j : Nat) (hj : j + 1 < (hE a).length) : (hE a)[j]? = (hE (a ++ b))[j]? := by
  have h1 := hE_len a
  have h2 := hE_len (a ++ b)
  rw [hN_app] at h2
  unfold hM at h1 h2
  have l1 := hB_len a
  unfold hE
  rw [pk_get _ j (by rw [hB_len]; unfold hM; omega), pk_get _ j (by rw [hB_len, hN_app]; unfold hM; omega), hB_app]
  congr 2
  rw [List.append_assoc, List.drop_append_of_le_length (by omega), List.drop_append_of_le_length (by omega), List.take_append_of_le_length (by rw [List.length_drop]; omega), List.take_append_of_le_length (by rw [List.length_drop]; omega)]
theorem begins_take (a b : List Int) : (hE a).take ((hE a).length - 1) = (hE (a ++ b)).take ((hE a).length - 1) := by
  apply List.ext_getElem?
  intro j
  by_cases hj : j < (hE a).length - 1
  · rw [List.getElem?_take_of_lt hj, List.getElem?_take_of_lt hj]
    exact begins a b j (by omega)
  · rw [List.getElem?_take_eq_none (by omega), List.getElem?_take_eq_none (by omega)]
/-- The bytes of bits, read as bits again. -/
theorem ub_cons (x : Int) (r : List Int) : ub (x :: r) = bn 8 x ++ ub r := rfl
theorem ub_len (b : List Int) : (ub b).length = 8 * b.length := by
  induction b with
  | nil => rfl
  | cons x r ih => rw [ub_cons, List.length_append, bn_length, ih, List.length_cons]; omega
theorem ub_snoc (a : List Int) (x : Int) : ub (a ++ [x]) = ub a ++ bn 8 x := by simp [ub]
theorem ub_bits (b : List Int) : Bits (ub b) := by
  intro y hy
  obtain ⟨x, _, hx⟩ := List.mem_flatMap.1 hy
  exact bn_bits _ _ y hx
theorem ub_drop (b : List Int) : ∀ j, (ub b).drop (8 * j) = ub (b.drop j) := by
  induction b with
  | nil => intro j; simp [ub]
  | cons x r ih =>
    intro j
    cases j with
    | zero => simp
    | succ j =>
      rw [show ub (x :: r) = bn 8 x ++ ub r from rfl, List.drop_append, bn_length, List.drop_of_length_le (by rw [bn_length]; omega), List.nil_append, show 8 * (j + 1) - 8 = 8 * j by omega, ih j, List.drop_succ_cons]
theorem pk_ub {bs : List Int} {b : List Int} {r : Nat} (h : bs ++ List.replicate r 1 = ub b) (hr : r ≤ 7) (hb : ∀ y ∈ b, 0 ≤ y ∧ y < 256) : pk bs = b := by
  have hl : bs.length + r = 8 * b.length := by rw [← ub_len, ← h, List.length_append, List.length_replicate]
  apply List.ext_getElem?
  intro j
  by_cases hj : j < b.length
  · have e : bs ++ List.replicate 7 1 = ub b ++ List.replicate (7 - r) 1 := by rw [← h, List.append_assoc, List.replicate_append_replicate, show r + (7 - r) = 7 by omega]
    rw [pk_get bs j (by unfold hM; omega), e, List.drop_append_of_le_length (by rw [ub_len]; omega), ub_drop, List.drop_eq_getElem_cons hj, show ub (b[j] :: b.drop (j + 1)) = bn 8 b[j] ++ ub (b.drop (j + 1)) from rfl, List.append_assoc, List.take_append_of_le_length (by rw [bn_length]; omega), List.take_of_length_le (by rw [bn_length]; omega), List.getElem?_eq_getElem hj]
    have hy := hb b[j] (List.getElem_mem _)
    rw [v2_bn 8 _ hy.1 (by omega)]
  · rw [List.getElem?_eq_none (by rw [pk_len]; unfold hM; omega), List.getElem?_eq_none (by omega)]
theorem ub_pk {bs : List Int} (hb : Bits bs) : ub (pk bs) = bs ++ List.replicate (8 * hM bs.length - bs.length) 1 := by
  have key : ∀ m, m ≤ hM bs.length → ub ((pk bs).take m) = (bs ++ List.replicate 7 1).take (8 * m) := by
    intro m
    induction m with
    | zero => intro _; simp [ub]
    | succ m ih =>
      intro hm
      have hg := pk_get bs m (by omega)
      rw [List.take_add_one, hg, Option.toList_some, ub_snoc, ih (by omega)]
      have hB7 : Bits (((bs ++ List.replicate 7 1).drop (8 * m)).take 8) := ((hb.app (ones_bits 7)).drop _).take _
      have hl8 : (((bs ++ List.replicate 7 1).drop (8 * m)).take 8).length = 8 := by
        rw [List.length_take, List.length_drop, List.length_append, List.length_replicate]
        unfold hM at hm
        omega
      have h := bn_v2 _ hB7
      rw [hl8] at h
      rw [h, show 8 * (m + 1) = 8 * m + 8 by omega, List.take_add]
  have h := key (hM bs.length) (Nat.le_refl _)
  rw [List.take_of_length_le (by rw [pk_len]; exact Nat.le_refl _)] at h
  rw [h, List.take_append, List.take_of_length_le (by unfold hM; omega), List.take_replicate]
  congr 2
  unfold hM
  omega
/-- The byte whose code stands at the beginning, and its length. -/
def fdA (bs : List Int) : List Nat → Option (Int × Nat)
  | [] => none
  | l :: r => if l ≤ bs.length ∧ hqF l ≤ v2 0 (bs.take l) ∧ v2 0 (bs.take l) < hqF l + ((hqC l).length : Nat) then some ((hqC l).getD (v2 0 (bs.take l) - hqF l).toNat 0, l) else fdA bs r
def fd (bs : List Int) : Option (Int × Nat) := fdA bs [5, 6, 7, 8, 15]
theorem fdA_none (c : List Int) : ∀ l : List Nat, (∀ y ∈ l, c.length < y) → fdA c l = none
  | [], _ => rfl
  | y :: l, h => by
    have h1 := h y (by simp)
    rw [fdA, if_neg (fun k => by omega)]
    exact fdA_none c l (fun z hz => h z (by simp [hz]))
theorem fdA_app (c r : List Int) : ∀ l : List Nat, l.Pairwise (· < ·) → ∀ v, fdA c l = some v → fdA (c ++ r) l = some v
  | [], _, v, h => by cases h
  | x :: l, hs, v, h => by
    rw [List.pairwise_cons] at hs
    by_cases hc : x ≤ c.length
    · rw [fdA] at h ⊢
      have e : (c ++ r).take x = c.take x := List.take_append_of_le_length hc
      rw [e, List.length_append]
      split at h
      · next hh => rw [if_pos ⟨by omega, hh.2⟩]; exact h
      · next hh => rw [if_neg (fun k => hh ⟨hc, k.2⟩)]; exact fdA_app c r l hs.2 v h
    · rw [fdA_none c (x :: l) (fun y hy => by
        rcases List.mem_cons.1 hy with rfl | hy
        · omega
        · have := hs.1 y hy; omega)] at h
      cases h
theorem srt : ([5, 6, 7, 8, 15] : List Nat).Pairwise (· < ·) := by decide
theorem code_ok : (List.range 256).all (fun x => decide (fd (bn (hl (x : Int)) (hc (x : Int))) = some ((x : Int), hl (x : Int)))) = true := by decide +kernel
/-- A byte's code at the beginning is found. -/
theorem fd_code {x : Int} (h0 : 0 ≤ x) (h1 : x < 256) (r : List Int) : fd (bn (hl x) (hc x) ++ r) = some (x, hl x) := by
  refine fdA_app _ r _ srt _ ?_
  obtain ⟨n, rfl⟩ := Int.eq_ofNat_of_zero_le h0
  have := List.all_eq_true.1 code_ok n (List.mem_range.2 (by omega))
  exact of_decide_eq_true this
theorem back_ok : ([5, 6, 7, 8, 15] : List Nat).all (fun l => (List.range (hqC l).length).all fun i => decide (0 ≤ (hqC l).getD i 0 ∧ (hqC l).getD i 0 < 256 ∧ hl ((hqC l).getD i 0) = l ∧ hc ((hqC l).getD i 0) = hqF l + (i : Nat))) = true := by decide +kernel
/-- What is found is a byte's code. -/
theorem fdA_ok {bs : List Int} (hb : Bits bs) : ∀ l : List Nat, (∀ y ∈ l, y ∈ ([5, 6, 7, 8, 15] : List Nat)) → ∀ {x : Int} {k : Nat}, fdA bs l = some (x, k) → (0 ≤ x ∧ x < 256) ∧ k = hl x ∧ k ≤ bs.length ∧ bs.take k = bn (hl x) (hc x)
  | [], _, x, k, h => by cases h
  | y :: l, hy, x, k, h => by
    rw [fdA] at h
    split at h
    · next hh =>
      simp only [Option.some.injEq, Prod.mk.injEq] at h
      obtain ⟨hx, rfl⟩ := h
      have hm := List.all_eq_true.1 back_ok y (hy y (by simp))
      obtain ⟨i, hi⟩ : ∃ i : Nat, v2 0 (bs.take y) - hqF y = i := ⟨(v2 0 (bs.take y) - hqF y).toNat, by omega⟩
      rw [hi, Int.toNat_natCast] at hx
      have hm2 := of_decide_eq_true (List.all_eq_true.1 hm i (List.mem_range.2 (by omega)))
      rw [hx] at hm2
      refine ⟨⟨hm2.1, hm2.2.1⟩, hm2.2.2.1.symm, hh.1, ?_⟩
      have e := bn_v2 (bs.take y) (hb.take y)
      rw [List.length_take, Nat.min_eq_left hh.1] at e
      rw [← e, hm2.2.2.1, hm2.2.2.2]
      congr 1
      omega
    · exact fdA_ok hb l (fun z hz => hy z (by simp [hz])) h
theorem fd_ok {bs : List Int} (hb : Bits bs) {x : Int} {k : Nat} (h : fd bs = some (x, k)) : (0 ≤ x ∧ x < 256) ∧ k = hl x ∧ k ≤ bs.length ∧ bs = bn (hl x) (hc x) ++ bs.drop k := by
  obtain ⟨h1, h2, h3, h4⟩ := fdA_ok hb _ (fun y hy => hy) h
  exact ⟨h1, h2, h3, by rw [← h4, List.take_append_drop]⟩
theorem ones_ok : (List.range 8).all (fun r => decide (fd (List.replicate r 1) = none)) = true := by decide +kernel
theorem fd_ones {r : Nat} (h : r ≤ 7) : fd (List.replicate r 1) = none := of_decide_eq_true (List.all_eq_true.1 ones_ok r (List.mem_range.2 (by omega)))
/-- Decoding: the text, the error's number. -/
def dcE (bs out : List Int) : List Int × Int := if bs.length ≤ 7 ∧ bs = List.replicate bs.length 1 then (out, 0) else if bs.length < 15 then ([], 141) else ([], 140)
def dcF : Nat → List Int → List Int → List Int × Int
  | 0, bs, out => dcE bs out
  | n + 1, bs, out => match fd bs with
    | none => dcE bs out
    | some (x, l) => dcF n (bs.drop l) (out ++ [x])
def hD (b : List Int) : List Int × Int := if 16384 < b.length then ([], 52) else dcF (ub b).length (ub b) []
theorem dcF_code (zs : List Int) : ∀ (n : Nat) (out : List Int) (r : Nat), (∀ y ∈ zs, 0 ≤ y ∧ y < 256) → r ≤ 7 → (hB zs ++ List.replicate r 1).length ≤ n → dcF n (hB zs ++ List.replicate r 1) out = (out ++ zs, 0) := by
  induction zs with
  | nil =>
    intro n out r _ hr hn
    have e : dcE (List.replicate r 1) out = (out, 0) := by unfold dcE; rw [if_pos ⟨by rw [List.length_replicate]; exact hr, by rw [List.length_replicate]⟩]
    rw [show hB [] = [] from rfl, List.nil_append, List.append_nil]
    cases n with
    | zero => exact e
    | succ n => rw [dcF, fd_ones hr]; exact e
  | cons x t ih =>
    intro n out r hz hr hn
    have hx := hz x (by simp)
    have hl5 := hl_bd x
    rw [show hB (x :: t) = bn (hl x) (hc x) ++ hB t from rfl, List.append_assoc] at hn ⊢
    rw [List.length_append, bn_length] at hn
    cases n with
    | zero => omega
    | succ n =>
      rw [dcF, fd_code hx.1 hx.2]
      simp only
      rw [List.drop_append_of_le_length (by rw [bn_length]; omega), List.drop_of_length_le (by rw [bn_length]; omega), List.nil_append, ih n (out ++ [x]) r (fun y hy => hz y (by simp [hy])) hr (by omega)]
      simp
/-- A text is read back from its coded form. -/
theorem back {zs : List Int} (hz : ∀ y ∈ zs, 0 ≤ y ∧ y < 256) (hl : (hE zs).length ≤ 16384) : hD (hE zs) = (zs, 0) := by
  unfold hD
  rw [if_neg (by omega)]
  have h := ub_pk (hB_bits zs)
  unfold hE
  rw [h, dcF_code zs _ [] _ hz (by unfold hM; omega) (Nat.le_refl _)]
  rfl
/-- .. and bytes that are a coded text are the one of the text that they tell. -/
theorem dcF_once : ∀ (n : Nat) (bs out : List Int) {d : List Int}, Bits bs → dcF n bs out = (d, 0) → ∃ zs r, d = out ++ zs ∧ (∀ y ∈ zs, 0 ≤ y ∧ y < 256) ∧ r ≤ 7 ∧ bs = hB zs ++ List.replicate r 1 := by
  have base : ∀ (bs out d : List Int), dcE bs out = (d, 0) → ∃ zs r, d = out ++ zs ∧ (∀ y ∈ zs, 0 ≤ y ∧ y < 256) ∧ r ≤ 7 ∧ bs = hB zs ++ List.replicate r 1 := by
    intro bs out d h
    unfold dcE at h
    split at h
    · next hh => cases h; exact ⟨[], bs.length, by simp, (fun y hy => by cases hy), hh.1, by rw [show hB [] = [] from rfl, List.nil_append]; exact hh.2⟩
    · split at h <;> simp at h
  intro n
  induction n with
  | zero => intro bs out d hb h; exact base bs out d h
  | succ n ih =>
    intro bs out d hb h
    rw [dcF] at h
    cases hf : fd bs with
    | none => rw [hf] at h; exact base bs out d h
    | some v =>
      obtain ⟨x, l⟩ := v
      rw [hf] at h
      obtain ⟨hx, hk, _, hs⟩ := fd_ok hb hf
      obtain ⟨zs, r, h1, h2, h3, h4⟩ := ih _ _ (hb.drop l) h
      refine ⟨x :: zs, r, by rw [h1]; simp, fun y hy => ?_, h3, ?_⟩
      · rcases List.mem_cons.1 hy with rfl | hy
        · exact hx
        · exact h2 y hy
      · rw [hs, h4]
        show _ = bn (hl x) (hc x) ++ hB zs ++ _
        rw [List.append_assoc]
theorem once {b d : List Int} (hb : ∀ y ∈ b, 0 ≤ y ∧ y < 256) (h : hD b = (d, 0)) : hE d = b ∧ ∀ y ∈ d, 0 ≤ y ∧ y < 256 := by
  unfold hD at h
  split at h
  · simp at h
  · obtain ⟨zs, r, h1, h2, h3, h4⟩ := dcF_once _ _ _ (ub_bits b) h
    rw [List.nil_append] at h1
    subst h1
    exact ⟨pk_ub h4.symm h3 hb, h2⟩
/-- An error leaves no text. -/
theorem dcF_bad : ∀ (n : Nat) (bs out : List Int), (dcF n bs out).2 ≠ 0 → (dcF n bs out).1 = [] := by
  have base : ∀ bs out : List Int, (dcE bs out).2 ≠ 0 → (dcE bs out).1 = [] := by
    intro bs out
    unfold dcE
    split
    · intro h; exact absurd rfl h
    · split <;> intro _ <;> rfl
  intro n
  induction n with
  | zero => intro bs out; exact base bs out
  | succ n ih =>
    intro bs out
    rw [dcF]
    cases fd bs with
    | none => exact base bs out
    | some v => exact ih _ _
theorem hD_bad {b : List Int} (h : (hD b).2 ≠ 0) : (hD b).1 = [] := by
  unfold hD at h ⊢
  split
  · rfl
  · next hh => rw [if_neg hh] at h; exact dcF_bad _ _ _ h
end Go.Proofs.Ytehejibllkmflaa
