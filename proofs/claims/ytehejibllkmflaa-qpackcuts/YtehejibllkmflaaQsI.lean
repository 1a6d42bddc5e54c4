/-
  The static table's iterator: a contract that the statements' walks use.
-/
import Derived.Test.YtehejibllkmflaaQsC
import Derived.RangeFuncNested
import Derived.RangeFuncBound
import Derived.RangeFuncCalls
import Derived.RangeFuncLeaves
import Derived.Shelf.Abstract
import Derived.Shelf.RegionOpen
import Derived.WalkKit
import Derived.OwnWalkIn
import Derived.TacticsInMore
import Derived.LoopNIn
import Derived.LoopIn
namespace Go.Proofs.Ytehejibllkmflaa
open Go.RowKit Go.Shelf
attribute [local go_sem] Oper.semAt_some
set_option linter.unusedVariables false
set_option maxRecDepth 100000

abbrev K40 := { k : Nat // k < 40 }
/-- A static entry as a value. -/
abbrev fldV (a b : List Int) : Value := .agg #[.string (strOfNums a), .string (strOfNums b)]
def k40 (k : Nat) : K40 := ⟨k % 40, Nat.mod_lt _ (by decide)⟩
theorem k40_val {k : Nat} (h : k < 40) : (k40 k).1 = k := Nat.mod_eq_of_lt h
def upto {α : Type} (f : Nat → α) (k : Nat) : List α := (List.range k).map f
theorem upto_succ {α : Type} (f : Nat → α) (k : Nat) : upto f (k + 1) = upto f k ++ [f k] := by simp [upto, List.range_succ]
theorem upto_length {α : Type} (f : Nat → α) (k : Nat) : (upto f k).length = k := by simp [upto]

set_option maxHeartbeats 8000000 in
theorem iter_in (n : Nat) (hn : 1 ≤ n) (l n₀ : Nat) (J Jx : List K40 → World → Prop) (hJ : ∀ pre A B, J pre A → Q A B → J pre B)
    (hY : ∀ pre (x : K40) W, J pre W → pre.length < 40 → YieldAt Fence.wide (n - 1) Try.prog l #[.int .i64 (x.1 : Int), fldV (stN x.1) (stV x.1)] W fun e W' =>
      (e = .returned (.bool true) ∧ J (pre ++ [x]) W' ∧ Below n₀ W W') ∨ (e = .returned (.bool false) ∧ Jx (pre ++ [x]) W'))
    (W : World) (h0 : J [] W) :
    CallsIn Fence.wide n Try.prog 23 #[.func (.yield l) #[] #[]] W fun e W' => (∃ v, e = .returned v) ∧
      ((∃ ys, ys = upto k40 40 ∧ J ys W') ∨ (∃ pre, (∃ k, k < 40 ∧ pre = upto k40 (k + 1)) ∧ Jx pre W')) := by
  have HJ := hid hJ
  have HY := hid hY
  clear hJ hY
  refine callsIn_of_wp Try.func23 rfl trivial ?_ rfl
  simp only [Try.ntmps23, List.size_toArray, List.length_cons, List.length_nil, Nat.reduceAdd, Nat.reduceSub, Array.replicate_succ, Array.replicate_zero, List.push_toArray, List.append_toArray, List.nil_append, List.cons_append]
  gi_wp2
  gi_loopw [2, 3] (fun r i wr => ∃ k : Nat, k ≤ 40 ∧ r = .string (strOfNums (stR k)) ∧ i = .int .i64 (k : Int) ∧ J (upto k40 k) wr)
    (fun _ i _ => (40 - intOf i).toNat)
  case atStart => exact ⟨0, by omega, by kernel_rfl, rfl, h0⟩
  case round =>
    obtain ⟨k, hk, rfl, rfl, hJs⟩ := hrel
    have hem : (⟨#[]⟩ : ByteArray) = strOfNums [] := by kernel_rfl
    by_cases hlt : k < 40
    · have hne : (strOfNums (stR k)).toList.isEmpty = false := by
        rw [ByteArray.toList_eq, strOfNums_data]
        have := stR_ne ⟨k, hlt⟩
        cases h : stR k with
        | nil => exact absurd (by rw [h]; rfl) this
        | cons y r => rfl
      have C1 := hid (fun W => cut_any (stR k) 10 W (by decide) (stR_b k) (by have := stR_len k; omega))
      have C2 := hid (fun W => cut_any (cutA (stR k) 10) 32 W (by decide) (fun y hy => stR_b k y (cutA_mem hy)) (by have := stR_len k; have := cutA_len (stR k) 10; omega))
      rw [show strOfNums [((10 : Nat) : Int)] = (⟨#[10]⟩ : ByteArray) from by kernel_rfl, show (((10 : Nat) : Int)) = 10 from rfl] at C1
      rw [show strOfNums [((32 : Nat) : Int)] = (⟨#[32]⟩ : ByteArray) from by kernel_rfl, show (((32 : Nat) : Int)) = 32 from rfl] at C2
      have HYK := hid (fun W hj => HY.out (upto k40 k) (k40 k) W hj (by rw [upto_length]; exact hlt))
      rw [k40_val hlt, ← upto_succ] at HYK
      dsimp only [fldV] at HYK
      have hR : stR (k + 1) = cutR (stR k) 10 := rfl
      have hN : stN k = cutA (cutA (stR k) 10) 32 := rfl
      have hV : stV k = cutR (cutA (stR k) 10) 32 := rfl
      rw [← hN, ← hV] at C2
      rw [← hR] at C1
      clear hR hN hV hem HY
      have HJS := hid hJs
      clear hJs
      have hlt' : (k : Int) + 1 ≤ 40 := by omega
      generalize decide ((10 : Int) ∈ stR k) = b1 at *
      generalize decide ((32 : Int) ∈ cutA (stR k) 10) = b2 at *
      generalize strOfNums (cutA (stR k) 10) = sl at *
      generalize strOfNums (stR k) = sr at *
      generalize hs2 : strOfNums (stR (k + 1)) = s2 at *
      have HS2 := hid hs2
      clear hs2
      generalize strOfNums (stN k) = sn at *
      generalize strOfNums (stV k) = sv at *
      gi_wp2_with (first | (refine ⟨trivial, ?_⟩; gi_at_call 24; refine (callsIn_wide.2 (C1.out _)).mono ?_; rintro e w1 ⟨rfl, q1⟩; clear C1) | (refine ⟨trivial, ?_⟩; gi_at_call 24; refine (callsIn_wide.2 (C2.out _)).mono ?_; rintro e w2 ⟨rfl, q2⟩; obtain ⟨fn, tmps, assign, body, hy, hR⟩ := HYK.out w2 (HJ.out _ _ _ (HJ.out _ _ _ HJS.out q1) q2); clear C2))
      refine hR.mono ?_
      rintro e W3 (⟨rfl, hJ3, hk3⟩ | ⟨rfl, hJx3⟩)
      · gi_wp2
        go_roundw
        case rel => exact ⟨k + 1, by omega, by rw [HS2.out], by go_num, hJ3⟩
        case measure => simp [intOf]; omega
      · gi_wp2
        refine bodyPost_ret (results_none rfl _ _ _) rfl ?_
        exact ⟨⟨_, rfl⟩, .inr ⟨_, ⟨k, hlt, rfl⟩, hJx3⟩⟩
    · obtain rfl : k = 40 := by omega
      rw [stR_end, ← hem]
      gi_wp2
      go_end0
      exact ⟨⟨_, rfl⟩, .inl ⟨_, rfl, hJs⟩⟩
end Go.Proofs.Ytehejibllkmflaa
