/-
  The static table as plain mathematics: a text, cut at its lines' ends and blanks. No Go in it.
-/
import Derived.Laws.BytesArg
import Derived.Lib.BytesEntry
namespace Go.Proofs.Ytehejibllkmflaa
set_option linter.unusedVariables false
set_option maxRecDepth 100000

/-- What stands ahead of the first c, and behind it. -/
def cutA (zs : List Int) (c : Int) : List Int := zs.takeWhile fun y => decide (y ≠ c)
def cutR (zs : List Int) (c : Int) : List Int := (zs.dropWhile fun y => decide (y ≠ c)).tail
/-- The place of the first c, -1: none. -/
def ixI (zs : List Int) (c : Int) : Int := if c ∈ zs then ((cutA zs c).length : Nat) else -1
theorem cutA_len (zs : List Int) (c : Int) : (cutA zs c).length ≤ zs.length := (List.takeWhile_prefix _).length_le
theorem cutA_eq (zs : List Int) (c : Int) : cutA zs c = zs.take (cutA zs c).length := (List.prefix_iff_eq_take.1 (List.takeWhile_prefix _))
theorem cut_no {zs : List Int} {c : Int} (h : c ∉ zs) : cutA zs c = zs ∧ cutR zs c = [] := by
  unfold cutA cutR
  induction zs with
  | nil => exact ⟨rfl, rfl⟩
  | cons y r ih =>
    have hy : y ≠ c := fun e => h (by simp [e])
    have hr := ih (fun m => h (by simp [m]))
    simp only [ne_eq, hy, not_false_eq_true, decide_true, List.takeWhile_cons_of_pos, List.dropWhile_cons_of_pos, hr, and_self]
theorem cut_yes {zs : List Int} {c : Int} (h : c ∈ zs) : (cutA zs c).length + 1 ≤ zs.length ∧ cutR zs c = zs.drop ((cutA zs c).length + 1) := by
  unfold cutA cutR
  induction zs with
  | nil => cases h
  | cons y r ih =>
    by_cases hy : y = c
    · subst hy
      simp
    · have hr := ih (by rcases List.mem_cons.1 h with h | h; exact absurd h.symm hy; exact h)
      simp only [ne_eq, hy, not_false_eq_true, decide_true, List.takeWhile_cons_of_pos, List.dropWhile_cons_of_pos, List.length_cons, List.drop_succ_cons]
      simp only [ne_eq] at hr
      exact ⟨by have := hr.1; omega, hr.2⟩
theorem ix_eq {zs : List Int} {c : Int} (hz : ∀ y ∈ zs, 0 ≤ y ∧ y < 256) (h0 : 0 ≤ c) (h1 : c < 256) : Lib.indexByte (strOfNums zs).data.toList c.toNat.toUInt8 = ixI zs c := by
  rw [strOfNums_data]
  unfold ixI cutA
  induction zs with
  | nil => rfl
  | cons y r ih =>
    have hy := hz y (by simp)
    have hr := ih (fun x hx => hz x (by simp [hx]))
    rw [List.map_cons, Lib.indexByte]
    have e : (UInt8.ofNat y.toNat == c.toNat.toUInt8) = decide (y = c) := by
      by_cases h : y = c
      · subst h; simp
      · rw [decide_eq_false h]
        apply beq_eq_false_iff_ne.2
        intro hh
        apply h
        have h2 := congrArg UInt8.toNat hh
        simp only [UInt8.toNat_ofNat', Nat.toUInt8_eq] at h2
        omega
    rw [e, hr]
    by_cases h : y = c
    · subst h; simp
    · have h' : ¬ c = y := fun e => h e.symm
      simp only [h, decide_false, Bool.false_eq_true, if_false, List.mem_cons, h', false_or, ne_eq, not_false_eq_true, decide_true, List.takeWhile_cons_of_pos, List.length_cons]
      by_cases hm : c ∈ r
      · simp only [hm, if_true]
        rw [if_neg (by simp)]
        omega
      · simp [hm]
theorem cutA_mem {zs : List Int} {c y : Int} (h : y ∈ cutA zs c) : y ∈ zs := (List.takeWhile_prefix _).subset h
theorem cutR_mem {zs : List Int} {c y : Int} (h : y ∈ cutR zs c) : y ∈ zs := (List.dropWhile_suffix _).subset (List.mem_of_mem_tail h)
theorem cutR_len (zs : List Int) (c : Int) : (cutR zs c).length ≤ zs.length := by
  unfold cutR
  rw [List.length_tail]
  have := (List.dropWhile_suffix (l := zs) fun y => decide (y ≠ c)).length_le
  omega

/-- The static table's text. -/
def stT : List Int := [58, 97, 117, 116, 104, 111, 114, 105, 116, 121, 10, 58, 112, 97, 116, 104, 32, 47, 10, 99, 111, 110, 116, 101, 110, 116, 45, 108, 101, 110, 103, 116, 104, 32, 48, 10, 100, 97, 116, 101, 10, 101, 116, 97, 103, 10, 108, 97, 115, 116, 45, 109, 111, 100, 105, 102, 105, 101, 100, 10, 108, 111, 99, 97, 116, 105, 111, 110, 10, 115, 101, 116, 45, 99, 111, 111, 107, 105, 101, 10, 58, 109, 101, 116, 104, 111, 100, 32, 67, 79, 78, 78, 69, 67, 84, 10, 58, 109, 101, 116, 104, 111, 100, 32, 68, 69, 76, 69, 84, 69, 10, 58, 109, 101, 116, 104, 111, 100, 32, 71, 69, 84, 10, 58, 109, 101, 116, 104, 111, 100, 32, 72, 69, 65, 68, 10, 58, 109, 101, 116, 104, 111, 100, 32, 79, 80, 84, 73, 79, 78, 83, 10, 58, 109, 101, 116, 104, 111, 100, 32, 80, 79, 83, 84, 10, 58, 109, 101, 116, 104, 111, 100, 32, 80, 85, 84, 10, 58, 115, 99, 104, 101, 109, 101, 32, 104, 116, 116, 112, 10, 58, 115, 99, 104, 101, 109, 101, 32, 104, 116, 116, 112, 115, 10, 58, 115, 116, 97, 116, 117, 115, 32, 49, 48, 51, 10, 58, 115, 116, 97, 116, 117, 115, 32, 50, 48, 48, 10, 58, 115, 116, 97, 116, 117, 115, 32, 51, 48, 52, 10, 58, 115, 116, 97, 116, 117, 115, 32, 52, 48, 52, 10, 58, 115, 116, 97, 116, 117, 115, 32, 53, 48, 51, 10, 97, 99, 99, 101, 112, 116, 32, 42, 47, 42, 10, 97, 99, 99, 101, 112, 116, 45, 101, 110, 99, 111, 100, 105, 110, 103, 32, 103, 122, 105, 112, 10, 99, 97, 99, 104, 101, 45, 99, 111, 110, 116, 114, 111, 108, 32, 110, 111, 45, 99, 97, 99, 104, 101, 10, 99, 111, 110, 116, 101, 110, 116, 45, 116, 121, 112, 101, 32, 116, 101, 120, 116, 47, 104, 116, 109, 108, 10, 99, 111, 110, 116, 101, 110, 116, 45, 116, 121, 112, 101, 32, 97, 112, 112, 108, 105, 99, 97, 116, 105, 111, 110, 47, 106, 115, 111, 110, 10, 99, 111, 110, 116, 101, 110, 116, 45, 116, 121, 112, 101, 32, 116, 101, 120, 116, 47, 112, 108, 97, 105, 110, 10, 99, 111, 110, 116, 101, 110, 116, 45, 101, 110, 99, 111, 100, 105, 110, 103, 32, 103, 122, 105, 112, 10, 118, 97, 114, 121, 32, 97, 99, 99, 101, 112, 116, 45, 101, 110, 99, 111, 100, 105, 110, 103, 10, 58, 115, 116, 97, 116, 117, 115, 32, 49, 48, 48, 10, 58, 115, 116, 97, 116, 117, 115, 32, 50, 48, 52, 10, 58, 115, 116, 97, 116, 117, 115, 32, 52, 48, 48, 10, 58, 115, 116, 97, 116, 117, 115, 32, 53, 48, 48, 10, 58, 115, 116, 97, 116, 117, 115, 32, 53, 48, 50, 10, 58, 115, 116, 97, 116, 117, 115, 32, 53, 48, 52, 10, 115, 101, 114, 118, 101, 114, 10, 117, 115, 101, 114, 45, 97, 103, 101, 110, 116, 10, 120, 45, 102, 111, 114, 119, 97, 114, 100, 101, 100, 45, 102, 111, 114, 10, 118, 105, 97, 10]
/-- What is left of it behind k lines; a line's name and value. -/
def stR : Nat → List Int
  | 0 => stT
  | k + 1 => cutR (stR k) 10
def stN (k : Nat) : List Int := cutA (cutA (stR k) 10) 32
def stV (k : Nat) : List Int := cutR (cutA (stR k) 10) 32
theorem stT_b : ∀ y ∈ stT, 0 ≤ y ∧ y < 256 := by decide +kernel
theorem stR_b : ∀ k, ∀ y ∈ stR k, 0 ≤ y ∧ y < 256
  | 0 => stT_b
  | k + 1 => fun y hy => stR_b k y (cutR_mem hy)
theorem stR_len : ∀ k, (stR k).length ≤ 1000
  | 0 => by decide +kernel
  | k + 1 => Nat.le_trans (cutR_len _ _) (stR_len k)
theorem stR_ne : ∀ k : Fin 40, (stR k.val).length ≠ 0 := by decide +kernel
theorem stR_end : stR 40 = [] := by decide +kernel
theorem stN_b (k : Nat) : ∀ y ∈ stN k, 0 ≤ y ∧ y < 256 := fun y hy => stR_b k y (cutA_mem (cutA_mem hy))
theorem stV_b (k : Nat) : ∀ y ∈ stV k, 0 ≤ y ∧ y < 256 := fun y hy => stR_b k y (cutA_mem (cutR_mem hy))
theorem stN_len (k : Nat) : (stN k).length ≤ 1000 := Nat.le_trans (cutA_len _ _) (Nat.le_trans (cutA_len _ _) (stR_len k))
theorem stV_len (k : Nat) : (stV k).length ≤ 1000 := Nat.le_trans (cutR_len _ _) (Nat.le_trans (cutA_len _ _) (stR_len k))

/-- The document's own going through the text: what is there behind i bytes: the fields, where the line begins, where its first blank is (-1: nowhere). -/
structure Tb where
  fs : List (List Int × List Int)
  fr : Nat
  bl : Int
def tbS (t : Tb) (i : Nat) (y : Int) : Tb :=
  let b := if y = 32 ∧ t.bl < 0 then (i : Int) else t.bl
  if y = 10 then ⟨t.fs ++ [if 0 ≤ b then ((stT.drop t.fr).take (b.toNat - t.fr), (stT.drop (b.toNat + 1)).take (i - (b.toNat + 1))) else ((stT.drop t.fr).take (i - t.fr), [])], i + 1, -1⟩ else ⟨t.fs, t.fr, b⟩
def tbA : Nat → Tb
  | 0 => ⟨[], 0, -1⟩
  | i + 1 => tbS (tbA i) i (stT.getD i 0)
/-- What holds at each place. -/
def tbOk (i : Nat) (t : Tb) : Bool := decide (t.fr ≤ i) && (decide (t.bl = -1) || (decide ((t.fr : Int) ≤ t.bl) && decide (t.bl < (i : Int)))) && decide (t.fs.length ≤ 40)
def tbAll : Nat → Nat → Tb → Bool
  | 0, _, _ => true
  | m + 1, i, t => tbOk i t && tbAll m (i + 1) (tbS t i (stT.getD i 0))
theorem tbAll_ok : ∀ m i, tbAll m i (tbA i) = true → ∀ j, j < m → tbOk (i + j) (tbA (i + j)) = true
  | 0, i, h, j, hj => by omega
  | m + 1, i, h, j, hj => by
    rw [tbAll, Bool.and_eq_true] at h
    cases j with
    | zero => exact h.1
    | succ j =>
      have := tbAll_ok m (i + 1) h.2 j (by omega)
      rw [show i + (j + 1) = i + 1 + j by omega]; exact this
theorem tb_ok (i : Nat) (h : i ≤ 549) : tbOk i (tbA i) = true := by
  have := tbAll_ok 550 0 (by decide +kernel) i (by omega)
  rwa [Nat.zero_add] at this
theorem stT_len : stT.length = 549 := by decide +kernel
theorem tb_end : (tbA 549).fs = (List.range 40).map fun k => (stN k, stV k) := by decide +kernel
end Go.Proofs.Ytehejibllkmflaa
