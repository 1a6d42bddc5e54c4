/-
  Bits in a window: what the program's look ahead tells of the bits at a place. Nothing is proved of a statement here.
-/
import Derived.Test.YtehejibllkmflaaEncM
namespace Go.Proofs.Ytehejibllkmflaa
open Go.RowKit
set_option linter.unusedVariables false
set_option maxRecDepth 20000

theorem v2_app (x y : List Int) : v2 0 (x ++ y) = v2 0 x * 2 ^ y.length + v2 0 y := by
  have h : ∀ (x : List Int) (a : Int), v2 a (x ++ y) = v2 (v2 a x) y := by
    intro x
    induction x with
    | nil => intro a; rfl
    | cons z r ih => intro a; exact ih _
  rw [h, v2_split]
theorem v2_div {x y : List Int} (hy : Bits y) : v2 0 (x ++ y) / 2 ^ y.length = v2 0 x := by
  have h := v2_bound y hy
  have hp := two_pos y.length
  rw [v2_app, Int.add_comm, Int.add_mul_ediv_right _ _ (by omega), Int.ediv_eq_zero_of_lt h.1 h.2]
  omega
/-- The look ahead over bits: fifteen of them, with ones behind the end. -/
def wdL (bs : List Int) : Int := v2 0 ((bs ++ List.replicate 15 1).take 15)
theorem wd_bits {bs : List Int} (h : Bits bs) : Bits ((bs ++ List.replicate 15 1).take 15) := (h.app (ones_bits 15)).take _
theorem wd_len (bs : List Int) : ((bs ++ List.replicate 15 1).take 15).length = 15 := by
  rw [List.length_take, List.length_append, List.length_replicate]; omega
theorem wd_bd {bs : List Int} (h : Bits bs) : 0 ≤ wdL bs ∧ wdL bs < 32768 := by
  have := v2_bound _ (wd_bits h)
  rw [wd_len] at this
  exact this
theorem wd_take {bs : List Int} (h : Bits bs) {l : Nat} (hl : l ≤ bs.length) (h15 : l ≤ 15) : v2 0 (bs.take l) = wdL bs / 2 ^ (15 - l) := by
  have e : (bs ++ List.replicate 15 1).take 15 = bs.take l ++ ((bs ++ List.replicate 15 1).drop l).take (15 - l) := by
    rw [show (15 : Nat) = l + (15 - l) by omega, List.take_add, List.take_append_of_le_length hl]
    rw [show l + (15 - l) - l = 15 - l by omega, show l + (15 - l) = 15 by omega]
  have hb : Bits (((bs ++ List.replicate 15 1).drop l).take (15 - l)) := ((h.app (ones_bits 15)).drop _).take _
  have hlen : (((bs ++ List.replicate 15 1).drop l).take (15 - l)).length = 15 - l := by
    rw [List.length_take, List.length_drop, List.length_append, List.length_replicate]; omega
  unfold wdL
  rw [e]
  have := v2_div (x := bs.take l) hb
  rw [hlen] at this
  exact this.symm
/-- The byte whose code the look ahead begins with. -/
def mtN (a : Nat) : Int × Nat :=
  if a / 1024 < 10 then (hq5.getD (a / 1024) 0, 5) else if a / 512 < 46 then (hq6.getD (a / 512 - 20) 0, 6) else if a / 256 < 124 then (hq7.getD (a / 256 - 92) 0, 7)
  else if a / 128 < 254 then (hq8.getD (a / 128 - 248) 0, 8) else if a < 32694 then (hq15.getD (a - 32512) 0, 15) else (0, 0)
theorem fdA_skip {bs : List Int} {l : Nat} {r : List Nat} (h : ¬ (l ≤ bs.length ∧ hqF l ≤ v2 0 (bs.take l) ∧ v2 0 (bs.take l) < hqF l + ((hqC l).length : Nat))) : fdA bs (l :: r) = fdA bs r := by rw [fdA, if_neg h]
theorem fdA_hit {bs : List Int} {l : Nat} {r : List Nat} (h : l ≤ bs.length ∧ hqF l ≤ v2 0 (bs.take l) ∧ v2 0 (bs.take l) < hqF l + ((hqC l).length : Nat)) : fdA bs (l :: r) = some ((hqC l).getD (v2 0 (bs.take l) - hqF l).toNat 0, l) := by rw [fdA, if_pos h]
theorem fd_mt {bs : List Int} (h : Bits bs) {a : Nat} (ha : wdL bs = (a : Int)) : ((mtN a).2 = 0 ∨ bs.length < (mtN a).2 → fd bs = none) ∧ (0 < (mtN a).2 → (mtN a).2 ≤ bs.length → fd bs = some (mtN a)) := by
  have hb := (wd_bd h).2
  rw [ha] at hb
  have g5 : 5 ≤ bs.length → v2 0 (bs.take 5) = ((a / 1024 : Nat) : Int) := fun hl => by have := wd_take h hl (by omega); rw [this, ha]; omega
  have g6 : 6 ≤ bs.length → v2 0 (bs.take 6) = ((a / 512 : Nat) : Int) := fun hl => by have := wd_take h hl (by omega); rw [this, ha]; omega
  have g7 : 7 ≤ bs.length → v2 0 (bs.take 7) = ((a / 256 : Nat) : Int) := fun hl => by have := wd_take h hl (by omega); rw [this, ha]; omega
  have g8 : 8 ≤ bs.length → v2 0 (bs.take 8) = ((a / 128 : Nat) : Int) := fun hl => by have := wd_take h hl (by omega); rw [this, ha]; omega
  have g15 : 15 ≤ bs.length → v2 0 (bs.take 15) = (a : Int) := fun hl => by have := wd_take h hl (by omega); rw [this, ha]; omega
  have F5 : hqF 5 = 0 ∧ ((hqC 5).length : Int) = 10 := by decide
  have F6 : hqF 6 = 20 ∧ ((hqC 6).length : Int) = 26 := by decide
  have F7 : hqF 7 = 92 ∧ ((hqC 7).length : Int) = 32 := by decide
  have F8 : hqF 8 = 248 ∧ ((hqC 8).length : Int) = 6 := by decide
  have F15 : hqF 15 = 32512 ∧ ((hqC 15).length : Int) = 182 := by decide
  have s5 : ¬ a / 1024 < 10 → ∀ r, fdA bs (5 :: r) = fdA bs r := fun hh r => fdA_skip (by rintro ⟨h1, h2, h3⟩; rw [g5 h1] at h3; omega)
  have s6 : ¬ a / 512 < 46 → ∀ r, fdA bs (6 :: r) = fdA bs r := fun hh r => fdA_skip (by rintro ⟨h1, h2, h3⟩; rw [g6 h1] at h3; omega)
  have s7 : ¬ a / 256 < 124 → ∀ r, fdA bs (7 :: r) = fdA bs r := fun hh r => fdA_skip (by rintro ⟨h1, h2, h3⟩; rw [g7 h1] at h3; omega)
  have s8 : ¬ a / 128 < 254 → ∀ r, fdA bs (8 :: r) = fdA bs r := fun hh r => fdA_skip (by rintro ⟨h1, h2, h3⟩; rw [g8 h1] at h3; omega)
  have s15 : ¬ a < 32694 → ∀ r, fdA bs (15 :: r) = fdA bs r := fun hh r => fdA_skip (by rintro ⟨h1, h2, h3⟩; rw [g15 h1] at h3; omega)
  unfold mtN fd
  by_cases h5 : a / 1024 < 10
  · rw [if_pos h5]
    refine ⟨fun k => fdA_none _ _ (fun y hy => ?_), fun _ k => ?_⟩
    · simp at hy; simp at k; omega
    · simp only at k
      rw [fdA_hit ⟨k, by rw [g5 k]; omega, by rw [g5 k]; omega⟩, g5 k, F5.1, show (((a / 1024 : Nat) : Int) - 0).toNat = a / 1024 by omega, show hqC 5 = hq5 from rfl]
  rw [if_neg h5, s5 h5]
  by_cases h6 : a / 512 < 46
  · rw [if_pos h6]
    refine ⟨fun k => fdA_none _ _ (fun y hy => ?_), fun _ k => ?_⟩
    · simp at hy; simp at k; omega
    · simp only at k
      rw [fdA_hit ⟨k, by rw [g6 k]; omega, by rw [g6 k]; omega⟩, g6 k, F6.1, show (((a / 512 : Nat) : Int) - 20).toNat = a / 512 - 20 by omega, show hqC 6 = hq6 from rfl]
  rw [if_neg h6, s6 h6]
  by_cases h7 : a / 256 < 124
  · rw [if_pos h7]
    refine ⟨fun k => fdA_none _ _ (fun y hy => ?_), fun _ k => ?_⟩
    · simp at hy; simp at k; omega
    · simp only at k
      rw [fdA_hit ⟨k, by rw [g7 k]; omega, by rw [g7 k]; omega⟩, g7 k, F7.1, show (((a / 256 : Nat) : Int) - 92).toNat = a / 256 - 92 by omega, show hqC 7 = hq7 from rfl]
  rw [if_neg h7, s7 h7]
  by_cases h8 : a / 128 < 254
  · rw [if_pos h8]
    refine ⟨fun k => fdA_none _ _ (fun y hy => ?_), fun _ k => ?_⟩
    · simp at hy; simp at k; omega
    · simp only at k
      rw [fdA_hit ⟨k, by rw [g8 k]; omega, by rw [g8 k]; omega⟩, g8 k, F8.1, show (((a / 128 : Nat) : Int) - 248).toNat = a / 128 - 248 by omega, show hqC 8 = hq8 from rfl]
  rw [if_neg h8, s8 h8]
  by_cases h15 : a < 32694
  · rw [if_pos h15]
    refine ⟨fun k => fdA_none _ _ (fun y hy => ?_), fun _ k => ?_⟩
    · simp at hy; simp at k; omega
    · simp only at k
      rw [fdA_hit ⟨k, by rw [g15 k]; omega, by rw [g15 k]; omega⟩, g15 k, F15.1, show (((a : Nat) : Int) - 32512).toNat = a - 32512 by omega, show hqC 15 = hq15 from rfl]
  rw [if_neg h15, s15 h15]
  exact ⟨fun _ => rfl, fun k => by simp at k⟩
/-- The end: all ones. -/
theorem wd_ones {bs : List Int} (h : Bits bs) (hl : bs.length ≤ 7) : wdL bs = 32767 ↔ bs = List.replicate bs.length 1 := by
  constructor
  · intro e
    have hv := bn_v2 _ (wd_bits h)
    rw [wd_len] at hv
    have e2 : v2 0 ((bs ++ List.replicate 15 1).take 15) = 32767 := e
    rw [e2, show (32767 : Int) = 2 ^ 15 - 1 by decide, bn_ones] at hv
    have ht : bs = (List.replicate 15 1).take bs.length := by
      rw [hv, List.take_take, Nat.min_eq_left (by omega), List.take_append_of_le_length (Nat.le_refl _), List.take_length]
    rw [List.take_replicate, Nat.min_eq_left (by omega)] at ht
    exact ht
  · intro e
    unfold wdL
    rw [e, List.replicate_append_replicate, List.take_replicate, Nat.min_eq_left (by omega), v2_ones]
    decide
def endN (left : Nat) (a : Nat) : Int := if left < 8 ∧ a = 32767 then 0 else if left < 15 then 141 else 140
theorem dcE_end {bs out : List Int} (h : Bits bs) {a : Nat} (ha : wdL bs = (a : Int)) : dcE bs out = if endN bs.length a = 0 then (out, 0) else ([], endN bs.length a) := by
  unfold dcE endN
  by_cases hA : bs.length < 8 ∧ a = 32767
  · have ho := (wd_ones h (by omega)).1 (by rw [ha]; omega)
    rw [if_pos ⟨by omega, ho⟩]
    simp only [if_pos hA, if_true]
  · have hB : ¬ (bs.length ≤ 7 ∧ bs = List.replicate bs.length 1) := fun k => hA ⟨by omega, by have := (wd_ones h k.1).2 k.2; omega⟩
    rw [if_neg hB]
    simp only [if_neg hA]
    by_cases h15 : bs.length < 15
    · simp only [if_pos h15]; rfl
    · simp only [if_neg h15]; rfl
/-- The program's window. -/
def nb (b : List Int) (j : Nat) : Int := b.getD j 255
def wv (b : List Int) (j : Nat) : Nat → Int
  | 0 => 0
  | k + 1 => wv b j k * 256 + nb b (j + k)
theorem tk15 (l : List Int) (a b : Nat) (ha : 15 ≤ l.length + a) (hb : 15 ≤ l.length + b) : (l ++ List.replicate a 1).take 15 = (l ++ List.replicate b (1 : Int)).take 15 := by
  rw [List.take_append, List.take_append, List.take_replicate, List.take_replicate, Nat.min_eq_left (by omega), Nat.min_eq_left (by omega)]
theorem bn255 : bn 8 255 = List.replicate 8 1 := by decide
theorem win_c (c : List Int) (r : Nat) (hr : r ≤ 7) (hc : c = [] → r = 0) : ((ub c).drop r ++ List.replicate 15 1).take 15 = ((ub [c.getD 0 255, c.getD 1 255, c.getD 2 255]).drop r).take 15 := by
  match c with
  | [] => obtain rfl := hc rfl; decide
  | [x] =>
    show ((bn 8 x ++ []).drop r ++ _).take 15 = ((bn 8 x ++ (bn 8 255 ++ (bn 8 255 ++ []))).drop r).take 15
    rw [bn255, List.append_nil, List.append_nil, List.replicate_append_replicate, List.drop_append_of_le_length (by rw [bn_length]; omega)]
    exact tk15 _ _ _ (by rw [List.length_drop, bn_length]; omega) (by rw [List.length_drop, bn_length]; omega)
  | [x, y] =>
    show ((bn 8 x ++ (bn 8 y ++ [])).drop r ++ _).take 15 = ((bn 8 x ++ (bn 8 y ++ (bn 8 255 ++ []))).drop r).take 15
    rw [bn255, List.append_nil, List.append_nil, ← List.append_assoc (bn 8 x), List.drop_append_of_le_length (i := r) (l₁ := bn 8 x ++ bn 8 y) (by rw [List.length_append, bn_length, bn_length]; omega)]
    exact tk15 _ _ _ (by rw [List.length_drop, List.length_append, bn_length, bn_length]; omega) (by rw [List.length_drop, List.length_append, bn_length, bn_length]; omega)
  | x :: y :: z :: t =>
    show ((bn 8 x ++ (bn 8 y ++ (bn 8 z ++ ub t))).drop r ++ _).take 15 = ((bn 8 x ++ (bn 8 y ++ (bn 8 z ++ []))).drop r).take 15
    have hlen : (bn 8 x ++ (bn 8 y ++ bn 8 z)).length = 24 := by simp [bn_length]
    rw [List.append_nil, show bn 8 x ++ (bn 8 y ++ (bn 8 z ++ ub t)) = (bn 8 x ++ (bn 8 y ++ bn 8 z)) ++ ub t by simp, List.drop_append_of_le_length (by omega), List.append_assoc, List.take_append_of_le_length (by rw [List.length_drop]; omega)]
theorem getD_drop (b : List Int) (j i : Nat) (d : Int) : (b.drop j).getD i d = b.getD (j + i) d := by
  rw [List.getD_eq_getElem?_getD, List.getD_eq_getElem?_getD, List.getElem?_drop]
theorem win_eq (b : List Int) (hb : ∀ y ∈ b, 0 ≤ y ∧ y < 256) (j r : Nat) (hr : r ≤ 7) (hj : 8 * j + r ≤ 8 * b.length) : wv b j 3 / 2 ^ (9 - r) % 32768 = wdL ((ub b).drop (8 * j + r)) := by
  have hnb : ∀ i, 0 ≤ nb b i ∧ nb b i < 256 := by
    intro i
    unfold nb
    rw [List.getD_eq_getElem?_getD]
    cases h : b[i]? with
    | none => simp
    | some v => exact hb v (List.mem_of_getElem? h)
  have h0 := hnb j; have h1 := hnb (j + 1); have h2 := hnb (j + 2)
  have ec : ((ub b).drop (8 * j + r)) = (ub (b.drop j)).drop r := by rw [← List.drop_drop, ub_drop]
  unfold wdL
  rw [ec, win_c (b.drop j) r hr (fun e => by have := List.drop_eq_nil_iff.1 e; omega), getD_drop, getD_drop, getD_drop]
  have et : ub [b.getD (j + 0) 255, b.getD (j + 1) 255, b.getD (j + 2) 255] = bn 24 (wv b j 3) := by
    have e1 : wv b j 3 = (nb b j * 2 ^ 8 + nb b (j + 1)) * 2 ^ 8 + nb b (j + 2) := by simp [wv]
    rw [e1, show (24 : Nat) = 16 + 8 by rfl, bn_join 16 8 _ _ h2.1 (by have := h2.2; omega), show (16 : Nat) = 8 + 8 by rfl, bn_join 8 8 _ _ h1.1 (by have := h1.2; omega)]
    simp [ub, nb]
  rw [et]
  have e24 : bn 24 (wv b j 3) = bn r (wv b j 3 / 2 ^ (15 + (9 - r))) ++ (bn 15 (wv b j 3 / 2 ^ (9 - r)) ++ bn (9 - r) (wv b j 3)) := by
    rw [← bn_add, ← bn_add, show r + (15 + (9 - r)) = 24 by omega]
  rw [e24, List.drop_append_of_le_length (by rw [bn_length]; omega), List.drop_of_length_le (by rw [bn_length]; omega), List.nil_append, List.take_append_of_le_length (by rw [bn_length]; omega), List.take_of_length_le (by rw [bn_length]; omega)]
  rw [← bn_mod 15 15 _ (Nat.le_refl _), v2_bn 15 _ (Int.emod_nonneg _ (by decide)) (Int.emod_lt_of_pos _ (by decide))]
  rfl
end Go.Proofs.Ytehejibllkmflaa
