/-
  What route's fromEnd and laid do: contracts that the statements' walks use.
-/
import Derived.Test.YtnnjogfpapndaaaCat
import Derived.RangeFuncNested
import Derived.RangeFuncBound
import Derived.RangeFuncCalls
import Derived.RangeFuncLeaves
import Derived.Shelf.Abstract
import Derived.Shelf.RegionOpen
import Derived.WalkKit
import Derived.OwnWalkIn
import Derived.TacticsInMore
import Derived.LoopNIn
import Derived.LoopIn
namespace Go.Proofs.Ytnnjogfpapndaaa
open Go.RowKit Go.Shelf
attribute [local go_sem] Oper.semAt_some
set_option linter.unusedVariables false
set_option maxRecDepth 100000

/-- A place and a byte for it. -/
abbrev PB (s : Nat) := { p : Nat × Int // p.1 < s ∧ 0 ≤ p.2 ∧ p.2 < 256 }
def pbAt (s : Nat) (hs : 0 < s) (n : Int) (k : Nat) : PB s := ⟨(s - 1 - k, n / 256 ^ k % 256), by omega, Int.emod_nonneg _ (by omega), Int.emod_lt_of_pos _ (by omega)⟩
def upto {α : Type} (f : Nat → α) (k : Nat) : List α := (List.range k).map f
theorem upto_succ {α : Type} (f : Nat → α) (k : Nat) : upto f (k + 1) = upto f k ++ [f k] := by simp [upto, List.range_succ]
theorem upto_length {α : Type} (f : Nat → α) (k : Nat) : (upto f k).length = k := by simp [upto]

set_option maxHeartbeats 2000000 in
theorem fromEnd1_in (F : Fence) (n : Nat) (h66 : F.fn 66) (hro : F.round = none) (hn : 1 ≤ n) (l B1 B2 n₀ s : Nat) (hs : 0 < s) (hs' : s ≤ 100) (N : Int) (hN0 : 0 ≤ N) (hN1 : N < 18446744073709551616) (J Jx : List (PB s) → World → Prop)
    (hY : ∀ pre (x : PB s) W, J pre W → pre.length < s → YieldAt F (n - 1) Try.prog l #[.int .i64 (x.1.1 : Int), .int .u8 x.1.2] W fun e W' =>
      (e = .returned (.bool true) ∧ J (pre ++ [x]) W' ∧ Below n₀ W W') ∨ (e = .returned (.bool false) ∧ Jx (pre ++ [x]) W'))
    (W : World) (hB1 : W.cell? ⟨B1, 0, none⟩ = some (.int .u64 N)) (hB2 : W.cell? ⟨B2, 0, none⟩ = some (.int .i64 s)) (h0 : J [] W) :
    CallsIn F n Try.prog 66 #[.func (.yield l) #[] #[], .pointer (some ⟨B1, 0, none⟩), .pointer (some ⟨B2, 0, none⟩)] W fun e W' => (∃ v, e = .returned v) ∧
      ((∃ ys, ys = upto (pbAt s hs N) s ∧ J ys W') ∨ (∃ pre, True ∧ Jx pre W')) := by
  refine callsIn_of_wp Try.func66 rfl h66 ?_ hro
  simp only [Try.ntmps66, List.size_toArray, List.length_cons, List.length_nil, Nat.reduceAdd, Nat.reduceSub, Array.replicate_succ, Array.replicate_zero, List.push_toArray, List.append_toArray, List.nil_append, List.cons_append]
  gi_wp2
  gi_loopw [4, 5] (fun r i wr => ∃ k : Nat, k ≤ s ∧ r = .int .u64 (N / 256 ^ k) ∧ i = .int .i64 ((s : Int) - 1 - k) ∧ J (upto (pbAt s hs N) k) wr)
    (fun _ i _ => (intOf i + 1).toNat)
  case atStart => exact ⟨0, Nat.zero_le _, by simp, by simp, h0⟩
  case round =>
    obtain ⟨k, hk, rfl, rfl, hJs⟩ := hrel
    by_cases hlt : k < s
    · obtain ⟨fn, tmps, assign, body, hy, hR⟩ := hY _ (pbAt s hs N k) wr hJs (by rw [upto_length]; exact hlt)
      dsimp only [pbAt] at hy
      rw [show ((s - 1 - k : Nat) : Int) = (s : Int) - 1 - k by omega] at hy
      have hi0 : (0 : Int) ≤ (s : Int) - 1 - k := by omega
      have hb : 0 ≤ N / 256 ^ k ∧ N / 256 ^ k < 18446744073709551616 := by
        refine ⟨Int.ediv_nonneg hN0 (Int.pow_nonneg (by decide)), ?_⟩
        exact Int.lt_of_le_of_lt (Int.ediv_le_self _ hN0) hN1
      have hb0 := hb.1
      have hb1 := hb.2
      gi_wp2
      refine hR.mono ?_
      rintro e W3 (⟨rfl, hJ3, hk3⟩ | ⟨rfl, hJx3⟩)
      · gi_wp2
        go_roundw
        case rel => exact ⟨k + 1, by omega, by rw [Int.pow_succ, ← Int.ediv_ediv_of_nonneg (Int.pow_nonneg (by decide))], by go_num, by rw [upto_succ]; exact hJ3⟩
        case measure => simp [intOf]; omega
      · gi_wp2
        refine bodyPost_ret (results_none rfl _ _ _) rfl ?_
        exact ⟨⟨_, rfl⟩, .inr ⟨_, trivial, hJx3⟩⟩
    · obtain rfl : k = s := by omega
      have hi0 : ¬ (0 : Int) ≤ (k : Int) - 1 - k := by omega
      have hi1 : ¬ (k : Int) ≤ (k : Int) - 1 := by omega
      gi_wp2
      go_end0
      exact ⟨⟨_, rfl⟩, .inl hJs⟩

set_option maxHeartbeats 1000000 in
theorem fromEnd_in (F : Fence) (n : Nat) (h48 : F.fn 48) (hro : F.round = none) (N : Int) (s : Nat) (w : World) :
    CallsIn F n Try.prog 48 #[.int .u64 N, .int .i64 s] w fun e w' => e = .returned (.func (.func 66) #[] #[.pointer (some ⟨w.heap.size, 0, none⟩), .pointer (some ⟨w.heap.size + 1, 0, none⟩)]) ∧ w' = (w.alloc (.cells #[.int .u64 N] 61)).alloc (.cells #[.int .i64 s] 3) := by
  refine callsIn_of_wp Try.func48 rfl h48 ?_ hro
  simp only [Try.ntmps48, List.size_toArray, List.length_cons, List.length_nil, Nat.reduceAdd, Nat.reduceSub, Array.replicate_succ, Array.replicate_zero, List.push_toArray, List.append_toArray, List.nil_append, List.cons_append]
  gi_wp2
  go_ret
  exact ⟨rfl, rfl⟩
theorem fromEnd_stops (F : Fence) (n : Nat) (h66 : F.fn 66) (hro : F.round = none) (hn : 1 ≤ n) (B1 B2 n₀ s : Nat) (hs : 0 < s) (hs' : s ≤ 100) (N : Int) (hN0 : 0 ≤ N) (hN1 : N < 18446744073709551616) (w : World)
    (hB1 : w.cell? ⟨B1, 0, none⟩ = some (.int .u64 N)) (hB2 : w.cell? ⟨B2, 0, none⟩ = some (.int .i64 s)) :
    SeqStopsK F n Try.prog 66 #[.pointer (some ⟨B1, 0, none⟩), .pointer (some ⟨B2, 0, none⟩)] (fun x : PB s => #[Value.int .i64 (x.1.1 : Int), Value.int .u8 x.1.2]) (Below n₀) (fun ys => ys = upto (pbAt s hs N) s) (fun _ => True) s w := fun l J Jx W hW _ _ hY h0 => by
  have hc1 := (hW.cell (p := ⟨B1, 0, none⟩) (lt_of_cell hB1)).trans hB1
  have hc2 := (hW.cell (p := ⟨B2, 0, none⟩) (lt_of_cell hB2)).trans hB2
  exact fromEnd1_in F n h66 hro hn l B1 B2 n₀ s hs hs' N hN0 hN1 J Jx hY W hc1 hc2 h0

/-- Bytes that are written to their places. -/
def lay {s : Nat} (l : List (PB s)) : List Int := l.foldl (fun zs p => zs.set p.1.1 p.1.2) (List.replicate s 0)
theorem lay_snoc {s : Nat} (l : List (PB s)) (p : PB s) : lay (l ++ [p]) = (lay l).set p.1.1 p.1.2 := by simp [lay]
theorem lay_len {s : Nat} (l : List (PB s)) : (lay l).length = s := by
  have : ∀ (l : List (PB s)) (zs : List Int), (l.foldl (fun zs p => zs.set p.1.1 p.1.2) zs).length = zs.length := by
    intro l
    induction l with
    | nil => intro zs; rfl
    | cons p r ih => intro zs; rw [List.foldl_cons, ih, List.length_set]
  rw [lay, this, List.length_replicate]
theorem be_get (n : Int) : ∀ (k i : Nat), i < k → (be k n)[i]? = some (n / 256 ^ (k - 1 - i) % 256)
  | 0, i, h => by omega
  | k + 1, 0, h => by simp [be]
  | k + 1, i + 1, h => by
    rw [be, List.getElem?_cons_succ, be_get n k i (by omega)]
    congr 4
    omega
theorem lay_upto (s : Nat) (hs : 0 < s) (n : Int) : ∀ k, k ≤ s → ∀ i, (lay (upto (pbAt s hs n) k))[i]? = if i < s then some (if s - k ≤ i then n / 256 ^ (s - 1 - i) % 256 else 0) else none
  | 0, hk, i => by
    simp only [upto, List.range_zero, List.map_nil, lay, List.foldl_nil, List.getElem?_replicate]
    by_cases h : i < s
    · rw [if_pos h, if_pos h, if_neg (by omega)]
    · rw [if_neg h, if_neg h]
  | k + 1, hk, i => by
    have key : lay (upto (pbAt s hs n) (k + 1)) = (lay (upto (pbAt s hs n) k)).set (s - 1 - k) (n / 256 ^ k % 256) := by rw [upto_succ, lay_snoc]; rfl
    rw [key, List.getElem?_set, lay_len, lay_upto s hs n k (by omega) i]
    by_cases h : i < s
    · rw [if_pos h, if_pos h]
      by_cases h2 : s - 1 - k = i
      · rw [if_pos h2, if_pos (by omega), if_pos (by omega)]
        congr 3
        congr 1
        omega
      · rw [if_neg h2]
        congr 1
        by_cases h3 : s - k ≤ i
        · rw [if_pos h3, if_pos (by omega)]
        · rw [if_neg h3, if_neg (by omega)]
    · rw [if_neg h, if_neg h, if_neg (by omega)]
theorem lay_all (s : Nat) (hs : 0 < s) (n : Int) : lay (upto (pbAt s hs n) s) = be s n := by
  apply List.ext_getElem?
  intro i
  rw [lay_upto s hs n s (Nat.le_refl _) i]
  by_cases h : i < s
  · rw [if_pos h, if_pos (by omega), be_get n s i h]
  · rw [if_neg h, List.getElem?_eq_none (by rw [be_length]; omega)]

theorem mk4 (u : World) : (Instr.makeSlice 22 (.int .i64 4) (.int .i64 4)).run Try.prog u = .ok (.slice (some ⟨u.heap.size, 0, none⟩) 4 4) (u.alloc (.cells (u8s (List.replicate 4 0)).toArray 5)) := by kernel_rfl
theorem mk8 (u : World) : (Instr.makeSlice 22 (.int .i64 8) (.int .i64 8)).run Try.prog u = .ok (.slice (some ⟨u.heap.size, 0, none⟩) 8 8) (u.alloc (.cells (u8s (List.replicate 8 0)).toArray 5)) := by kernel_rfl
theorem row_kept {W W' : World} {row : Option Nat} {g : Nat} {cs : Array Value} {t : TypeId} {m : Nat × Nat} (h : W.heap[g]? = some (.cells cs t m)) (hg : W.grownBy W' row) (hrow : ∀ r, row = some r → ∃ o : Obj, W.heap[r]? = some o ∧ o.isCells = false) : W'.heap[g]? = some (.cells cs t m) := by
  refine (hg.block g (Array.getElem?_eq_some_iff.1 h).1 (fun e => ?_)).trans h
  obtain ⟨o, ho, hc⟩ := hrow g e.symm
  rw [h] at ho; cases ho; cases hc
theorem grownBy_setCellAt (W : World) (b o : Nat) (v : Value) : W.grownBy (W.setCell ⟨b, o, none⟩ v) (some b) :=
  ⟨rfl, rfl, rfl, (KeepsWalks.setCell W _ v).size, fun k _ hk => Below.heap_setCell _ _ _ k (fun e => hk (by rw [e]))⟩
set_option maxHeartbeats 4000000 in
theorem laid_w (s : Nat) (hs : s = 4 ∨ s = 8) (N : Int) (hN0 : 0 ≤ N) (hN1 : N < 18446744073709551616) (w : World) :
    CallsIn Fence.wide 6 Try.prog 26 #[.int .u64 N, .int .i64 s] w fun e w' => ∃ x : Sv, e = .returned (.slice x.a x.n x.c) ∧ Q w w' ∧ Row w' x (be s N) ∧ New w.heap.size x := by
  have hs0 : 0 < s := by omega
  have hs1 : s ≤ 100 := by omega
  have mk : ∀ u : World, (Instr.makeSlice 22 (.int .i64 s) (.int .i64 s)).run Try.prog u = .ok (.slice (some ⟨u.heap.size, 0, none⟩) s s) (u.alloc (.cells (u8s (List.replicate s 0)).toArray 5)) := by
    rcases hs with rfl | rfl
    · exact mk4
    · exact mk8
  have HS := hid hs
  clear hs
  refine callsIn_of_wp_marks Try.func26 rfl trivial ?_ rfl
  simp only [Try.ntmps26, List.size_toArray, List.length_cons, List.length_nil, Nat.reduceAdd, Nat.reduceSub, Array.replicate_succ, Array.replicate_zero, List.push_toArray, List.append_toArray, List.nil_append, List.cons_append]
  gi_wp2_with (first | (refine ⟨trivial, ?_⟩; gi_at_call 48; refine (fromEnd_in Fence.wide _ trivial rfl _ _ _).mono ?_; rintro e w' ⟨rfl, rfl⟩) | (gi_at_call 48; refine (fromEnd_in Fence.wide _ trivial rfl _ _ _).mono ?_; rintro e w' ⟨rfl, rfl⟩))
  generalize hW0 : World.alloc (World.alloc (World.alloc (World.alloc w _) _) _) _ = W0
  have hsz : W0.heap.size = w.heap.size + 4 := by rw [← hW0]; simp
  have hB0 : Below w.heap.size w W0 := by rw [← hW0]; exact ((((Below.refl _ w).alloc (Nat.le_refl _) _).alloc (by simp) _).alloc (by simp; omega) _).alloc (by simp; omega) _
  have hR0 : W0.heap[w.heap.size]? = some (.cells (u8s (lay ([] : List (PB s)))).toArray 5 (0, 0)) := by
    rw [← hW0]
    have h1 : (w.alloc (.cells (Array.replicate s (Value.int IntKind.u8 0)) 5)).heap[w.heap.size]? = some (.cells (u8s (lay ([] : List (PB s)))).toArray 5 (0, 0)) := by
      rw [heap_alloc_new]; simp [lay, u8s]
    exact ((((Below.block (((Q.refl (w.alloc (.cells (Array.replicate s (Value.int IntKind.u8 0)) 5))).alloc _).alloc _ |>.alloc _) _ (by simp)))).trans h1)
  have bB : Boxed W0 (w.heap.size + 1) 22 (.slice (some ⟨w.heap.size, 0, none⟩) s s) := by
    rw [← hW0]
    have b := Boxed.new (w.alloc (.cells (Array.replicate s (Value.int IntKind.u8 0)) 5)) 22 (.slice (some ⟨w.heap.size, 0, none⟩) s s)
    rw [World.size_alloc] at b
    exact (b.alloc _).alloc _
  have bN : Boxed W0 (w.heap.size + 1 + 1) 61 (.int .u64 N) := by
    rw [← hW0]
    have b := Boxed.new ((w.alloc (.cells (Array.replicate s (Value.int IntKind.u8 0)) 5)).alloc (.cells #[Value.slice (some ⟨w.heap.size, 0, none⟩) s s] 22)) 61 (.int .u64 N)
    rw [World.size_alloc, World.size_alloc] at b
    exact b.alloc _
  have bS : Boxed W0 (w.heap.size + 1 + 1 + 1) 3 (.int .i64 s) := by
    rw [← hW0]
    have b := Boxed.new (((w.alloc (.cells (Array.replicate s (Value.int IntKind.u8 0)) 5)).alloc (.cells #[Value.slice (some ⟨w.heap.size, 0, none⟩) s s] 22)).alloc (.cells #[Value.int .u64 N] 61)) 3 (.int .i64 s)
    rw [World.size_alloc, World.size_alloc, World.size_alloc] at b
    exact b
  clear hW0
  refine wpIn_rangeFunc_ownF (F := Fence.wide) (n := 6) rfl (by omega) (gf := 66) (lb := #[.pointer (some ⟨w.heap.size + 1 + 1, 0, none⟩), .pointer (some ⟨w.heap.size + 1 + 1 + 1, 0, none⟩)]) rfl trivial (enters_of Try.func66 (by kernel_rfl) rfl)
    (fromEnd_stops Fence.wide 5 trivial rfl (by omega) (w.heap.size + 1 + 1) (w.heap.size + 1 + 1 + 1) w.heap.size s hs0 hs1 N hN0 hN1 W0 bN.cell bS.cell) belowK_t (belowK_b (by omega)) (Below.refl _ _) (fun _ => rfl)
    (fun pre W => (Boxed W (w.heap.size + 1) 22 (.slice (some ⟨w.heap.size, 0, none⟩) s s) ∧ W.heap[w.heap.size]? = some (.cells (u8s (lay pre)).toArray 5 (0, 0))) ∧ Below w.heap.size w W)
    (fun _ _ _ => False)
    (OwnFrom.and (OwnFrom.and (Own.from (boxed_own _ _ _) _) (fun s A B row hs hg hr => row_kept hs hg (fun r e => (hr r e).2))) (ownFrom_below (Nat.le_refl _) (by omega)))
    (fun _ _ _ _ _ hs _ _ => hs)
    ⟨⟨bB, hR0⟩, hB0⟩
    (fun x => { tmps := #[.int .u64 N, .int .i64 s, undef, undef, .slice none 0 0, .pointer (some ⟨w.heap.size + 1, 0, none⟩), .int .i64 x.1.1, .int .u8 x.1.2, .int .i64 s, .slice (some ⟨w.heap.size, 0, none⟩) s s, .int .u64 N, .int .i64 s, .func (.func 66) #[] #[.pointer (some ⟨w.heap.size + 1 + 1, 0, none⟩), .pointer (some ⟨w.heap.size + 1 + 1 + 1, 0, none⟩)], .int .i64 x.1.1, .int .u8 x.1.2, undef, undef, undef, undef, undef], defers := [] }) ?assign ?body ?done ?stop
  case assign =>
    intro l x W K hK
    gi_wp2
    exact hK
  case body =>
    rintro l pre ⟨⟨p, y⟩, hp, hy0, hy1⟩ W ⟨⟨hb, hr⟩, hB⟩ _
    have hc := hb.cell
    have hl := lay_len pre
    have hp1 : (p : Int) < (s : Int) := by omega
    have hp0 : (0 : Int) ≤ (p : Int) := by omega
    have hcp : W.cell? ⟨w.heap.size, p, none⟩ = some (.int .u8 ((lay pre).getD p 0)) := by
      rw [cell_of_row W w.heap.size p _ 5 (0, 0) hr]; simp [u8s, List.getD_eq_getElem?_getD, hl, hp]
    have hfp : W.frozen? ⟨w.heap.size, p, none⟩ = false := frozen_of_row W w.heap.size p _ 5 hr
    have KS := hid (KeepsOthers.setCell W ⟨w.heap.size, p, none⟩ (.int .u8 y))
    have KB := hid ((Below.refl w.heap.size W).setCell (p := ⟨w.heap.size, p, none⟩) (Nat.le_refl _) (.int .u8 y))
    have KR := hid (heap_setCell_same W w.heap.size p _ 5 (.int .u8 y) hr)
    have HB := hid hB
    have HBX := hid hb
    clear hb hr hB hl
    dsimp only
    gi_wp2
    refine ⟨KS.out, KB.out, ⟨HBX.out.kept (grownBy_setCellAt W w.heap.size p _) (fun e => by simp at e), ?_⟩, HB.out.trans KB.out⟩
    rw [KR.out, lay_snoc]
    congr 2
    simp [u8s, List.map_set]
  case done =>
    rintro D ys W hD rfl ⟨⟨hb, hr⟩, hB⟩ hK
    have hc := hb.cell
    have HR := hid hr
    have HB := hid hB
    clear hr hB
    gi_wp2
    refine ⟨by simp, .inl ⟨_, _, rfl, run_takeDeferred hK, ?_⟩⟩
    refine ⟨_, results_tmp rfl _ _ _, ⟨some ⟨w.heap.size, 0, none⟩, s, s⟩, rfl, ?_, ?_, ?_⟩
    · exact HB.out.trans (belowK_b (w := w) (Nat.le_refl _) W D _ _ (by omega) hK rfl rfl)
    · have hh := row_kept HR.out (grownBy_putObj' W D (.deferred none)) (fun r e => by cases e; exact ⟨_, hK, rfl⟩)
      rw [lay_all] at hh
      refine ⟨by simp [be_length], .inr ⟨w.heap.size, 0, _, rfl, hh, Nat.le_refl _, by show s ≤ _; unfold maxLen; omega, by simp [be_length], fun j hj => by simp⟩⟩
    · intro b hb
      simp [blk] at hb
      omega
  case stop =>
    rintro D c pre W _ _ h _
    exact h.elim
theorem laid_any (s : Nat) (hs : s = 4 ∨ s = 8) (N : Int) (hN0 : 0 ≤ N) (hN1 : N < 18446744073709551616) (w : World) :
    Calls Try.prog 26 #[.int .u64 N, .int .i64 s] w fun e w' => ∃ x : Sv, e = .returned (.slice x.a x.n x.c) ∧ Q w w' ∧ Row w' x (be s N) ∧ New w.heap.size x := callsIn_wide.1 (laid_w s hs N hN0 hN1 w)
end Go.Proofs.Ytnnjogfpapndaaa
