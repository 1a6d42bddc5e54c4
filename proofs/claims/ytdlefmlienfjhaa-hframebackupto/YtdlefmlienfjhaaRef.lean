/-
  What the document's own Size, Put, Same and Copy do, each for every argument: contracts that the statements' walks use.
-/
import Derived.Test.YtdlefmlienfjhaaBase
import Derived.BigQuiet
import Derived.Deep.QuietTactic
import Derived.Laws.CopyOwn
namespace Go.Proofs.Ytdlefmlienfjhaa
open Go.RowKit
set_option maxRecDepth 20000

set_option maxHeartbeats 400000 in
theorem rsize_any (n : Int) (w : World) : Calls Try.prog 37 #[.int .i64 n] w fun e w' => e = .returned (.int .i64 (sz n)) ∧ w = w' := by
  by_cases h1 : n < 0
  · go_enter Try.func37, Try.ntmps37
    go_wp2
    go_ret
    exact ⟨ret_int (by rw [sz_low h1]; rfl), rfl⟩
  by_cases h2 : 4611686018427387903 < n
  · go_enter Try.func37, Try.ntmps37
    go_wp2
    go_ret
    exact ⟨ret_int (by rw [sz_high h2]; rfl), rfl⟩
  go_enter Try.func37, Try.ntmps37
  go_wp2
  all_goals go_ret
  all_goals exact ⟨ret_int (by first | (rw [sz_1 (by omega) (by omega)]; rfl) | (rw [sz_2 (by omega) (by omega)]; rfl) | (rw [sz_4 (by omega) (by omega)]; rfl) | (rw [sz_8 (by omega) (by omega)]; rfl)), rfl⟩

set_option maxHeartbeats 1000000 in
theorem rput_ok (n : Int) (w : World) (s : Nat) (h0 : 0 ≤ n) (h1 : n ≤ 4611686018427387903) (H : Hid (sz n = s)) :
    Calls Try.prog 25 #[.int .i64 n] w fun e w' => ∃ g, e = .returned (.slice (some ⟨g, 0, none⟩) s s) ∧ Q w w' ∧ Own w' w.heap.size (some ⟨g, 0, none⟩) s s (form n) := by
  have hs : s = 1 ∨ s = 2 ∨ s = 4 ∨ s = 8 := by have := sz_some h0 h1; rw [H.out] at this; exact this
  obtain ⟨i0, hi, hz0, hz1, hz2⟩ := info_parts info5
  have hs0 : 0 < s := by omega
  have hs8 : s ≤ 8 := by omega
  have HS : Hid (s = 1 ∨ s = 2 ∨ s = 4 ∨ s = 8) := hs
  clear hs
  go_enter Try.func25, Try.ntmps25
  go_wp2_with (first
    | (go_at_call 37; refine (rsize_any _ _).mono ?_; rintro e w' ⟨rfl, rfl⟩; rw [H.out])
    | (at_make; refine wpList_make_full _ rfl _ _ 30 rfl w.heap.size 5 i0 (.int .u8 0) 1 Try.underlying30 hi hz0 hz1 .i64 .i64 _ _ s rfl rfl rfl rfl (by rw [hz2]; omega) (by unfold maxLen; omega) (Nat.le_refl _) ?_; intro w1 hown hgr))
  have hb1 : Below w.heap.size w w1 := (Below.refl _ _).grown hgr (Nat.le_refl _) (by intro k hk; cases hk)
  go_loopw [0, 5] (fun m i wr => ∃ k : Nat, k ≤ s ∧ i = .int .i64 ((s : Int) - 1 - k) ∧ m = .int .i64 (n / 256 ^ k) ∧ wr.ownsRow w.heap.size 5 1 (.slice (some ⟨w.heap.size, 0, none⟩) s s) s ((List.replicate (s - k) 0 ++ be k n).map (Value.int .u8)) ∧ Below w.heap.size w wr)
    (fun _ i _ => (intOf i + 1).toNat)
  case atStart =>
    refine ⟨0, Nat.zero_le _, by simp, by simp, ?_, hb1⟩
    rw [made_zero] at hown; simpa [be] using hown
  case round =>
    clear hown
    obtain ⟨k, hk, rfl, rfl, hown, hb⟩ := hrel
    by_cases hks : k < s
    · have hd := div_bounds n k h0
      obtain ⟨d0, d1⟩ := hd
      obtain ⟨v0, hc⟩ : ∃ v, wr.cell? ⟨w.heap.size, s - 1 - k, none⟩ = some v := by
        rw [hown.cellAt (s - 1 - k) (by omega)]; exact ⟨_, List.getElem?_eq_getElem (by simp [be_length]; omega)⟩
      have hf := hown.frozenAt (s - 1 - k)
      have R := hown.stored (s - 1 - k) (.int .u8 (n / 256 ^ k % 256))
      rw [list_step (Value.int .u8) s k n hks] at R
      have R' := hid R
      have B' := hid (hb.setCell (p := ⟨w.heap.size, s - 1 - k, none⟩) (Nat.le_refl _) (.int .u8 (n / 256 ^ k % 256)))
      clear R hown hb hgr hb1
      go_wp2
      go_roundw
      case rel => exact ⟨k + 1, by omega, by go_num, by rw [pow_ediv], R'.out.1, B'.out⟩
      case measure => simp [intOf]; omega
    · obtain rfl : s = k := by omega
      obtain ⟨x, r, hx⟩ := be_ne n hs0
      have hb64 := be_head h0 h1 H.out hx
      obtain ⟨hx0, hx64⟩ := hb64
      have hc : wr.cell? ⟨w.heap.size, 0, none⟩ = some (.int .u8 x) := by
        rw [hown.cellAt 0 (by omega)]; simp [hx]
      have hf := hown.frozenAt 0
      have hown0 : Own wr w.heap.size (some ⟨w.heap.size, 0, none⟩) s s (x :: r) := by rw [hx] at hown; simpa [Own] using hown
      have HO := hid (show Own (wr.setCell ⟨w.heap.size, 0, none⟩ (.int .u8 (x + tag s))) w.heap.size (some ⟨w.heap.size, 0, none⟩) s s (form n) from by
        rw [form_of H.out hx]; exact (World.ownsRow.stored hown0 0 (.int .u8 (x + tag s))).1)
      have HB := hid (show Q w (wr.setCell ⟨w.heap.size, 0, none⟩ (.int .u8 (x + tag s))) from hb.setCell (p := ⟨w.heap.size, 0, none⟩) (Nat.le_refl _) _)
      have HO1 := hid (fun h : s = 1 => show Own wr w.heap.size (some ⟨w.heap.size, 0, none⟩) s s (form n) from by
        rw [form_of H.out hx, h]; rw [h] at hown0; simpa [tag] using hown0)
      have HB1 := hid (show Q w wr from hb)
      clear hown hown0 hb hx hgr hb1
      rcases HS.out with rfl | rfl | rfl | rfl
      · go_wp2
        go_ret
        exact ⟨w.heap.size, rfl, HB1.out, HO1.out trivial⟩
      all_goals
        go_wp2
        go_ret
        exact ⟨w.heap.size, rfl, HB.out, HO.out⟩

set_option maxHeartbeats 1000000 in
theorem rput_no (n : Int) (w : World) (h : n < 0 ∨ 4611686018427387903 < n) :
    Calls Try.prog 25 #[.int .i64 n] w fun e w' => ∃ g, e = .returned (.slice (some ⟨g, 0, none⟩) 0 0) ∧ Q w w' := by
  have H := hid (sz_none h)
  clear h
  obtain ⟨i0, hi, hz0, hz1, hz2⟩ := info_parts info5
  go_enter Try.func25, Try.ntmps25
  go_wp2_with (first
    | (go_at_call 37; refine (rsize_any _ _).mono ?_; rintro e w' ⟨rfl, rfl⟩; rw [H.out])
    | (at_make; refine wpList_make_full _ rfl _ _ 30 rfl w.heap.size 5 i0 (.int .u8 0) 1 Try.underlying30 hi hz0 hz1 .i64 .i64 _ _ 0 rfl rfl rfl rfl (by rw [hz2]; omega) (by unfold maxLen; omega) (Nat.le_refl _) ?_; intro w1 hown hgr))
  have HB := hid (show Q w w1 from (Below.refl _ _).grown hgr (Nat.le_refl _) (by intro k hk; cases hk))
  clear hown hgr
  refine wp_loop_rounds 1 ?_
  rw [rounds_succ]
  go_wp2
  go_ret
  exact ⟨w.heap.size, rfl, HB.out⟩

set_option maxHeartbeats 400000 in
/-- Same: are the bytes equal? -/
theorem same_any (a1 a2 : Option Addr) (n1 n2 c1 c2 : Nat) (xs ys : List Int) (w : World) (l1 : xs.length = n1) (l2 : ys.length = n2) (b1 : n1 ≤ 9223372036854775807) (b2 : n2 ≤ 9223372036854775807)
    (h1 : Seg w a1 xs) (h2 : Seg w a2 ys) :
    Calls Try.prog 26 #[.slice a1 n1 c1, .slice a2 n2 c2] w fun e w' => e = .returned (.bool (decide (xs = ys))) ∧ Q w w' := by
  by_cases hl : n1 = n2
  · subst hl
    have L1 := hid l1
    have L2 := hid l2
    clear l1 l2
    have hne : ((n1 : Int) != n1) = false := by simp
    go_enter Try.func26, Try.ntmps26
    go_wp2
    go_loopw [5] (fun i wr => ∃ k : Nat, k ≤ n1 ∧ i = .int .i64 k ∧ xs.take k = ys.take k ∧ Q w wr) (fun i _ => n1 - (intOf i).toNat)
    case atStart => exact ⟨0, Nat.zero_le _, rfl, by simp, Q.refl _⟩
    case round =>
      obtain ⟨k, hk, rfl, ht, hq⟩ := hrel
      have HT := hid ht
      clear ht
      by_cases hlt : k < n1
      · obtain ⟨p1, o1, rfl, g1⟩ := h1 (by intro h; have := L1.out; simp [h] at this; omega)
        obtain ⟨p2, o2, rfl, g2⟩ := h2 (by intro h; have := L2.out; simp [h] at this; omega)
        have q1 : wr.cell? ⟨p1, o1 + k, none⟩ = some (.int .u8 (xs.getD k 0)) := by
          rw [hq.cell (lt_of_cell (g1 k (by have := L1.out; omega)))]; exact g1 k (by have := L1.out; omega)
        have q2 : wr.cell? ⟨p2, o2 + k, none⟩ = some (.int .u8 (ys.getD k 0)) := by
          rw [hq.cell (lt_of_cell (g2 k (by have := L2.out; omega)))]; exact g2 k (by have := L2.out; omega)
        have HQ := hid hq
        clear g1 g2 h1 h2 hq
        have hlt' : (k : Int) < (n1 : Int) := by omega
        have e1 : xs[k]? = some (xs.getD k 0) := by rw [List.getD_eq_getElem?_getD, List.getElem?_eq_getElem (by have := L1.out; omega)]; rfl
        have e2 : ys[k]? = some (ys.getD k 0) := by rw [List.getD_eq_getElem?_getD, List.getElem?_eq_getElem (by have := L2.out; omega)]; rfl
        have E1 := hid e1
        have E2 := hid e2
        clear e1 e2
        generalize xs.getD k 0 = x at *
        generalize ys.getD k 0 = y at *
        by_cases hxy : x = y
        · subst hxy
          have hd : (x != x) = false := by simp
          go_wp2
          go_quiet (fail)
          go_wp2
          go_roundw
          case rel => exact ⟨k + 1, by omega, by go_num, by rw [List.take_add_one, List.take_add_one, HT.out, E1.out, E2.out], HQ.out.drewN _⟩
          case measure => simp [intOf]; omega
        · have hd : (x != y) = true := by simp [hxy]
          go_wp2
          go_quiet (fail)
          go_wp2
          go_ret
          refine ⟨ret_bool ?_, HQ.out.drewN _⟩
          refine (decide_eq_false_iff_not.2 fun h => hxy ?_).symm
          have a := E1.out
          rw [h, E2.out] at a
          simpa using a.symm
      · go_wp2
        go_ret
        have : k = n1 := by omega
        subst this
        refine ⟨ret_bool ?_, hq⟩
        have a := HT.out
        rw [List.take_of_length_le (by rw [L1.out]; exact Nat.le_refl _), List.take_of_length_le (by rw [L2.out]; exact Nat.le_refl _)] at a
        simp [a]
  · have hne : ((n1 : Int) != n2) = true := by simp; omega
    have hd : decide (xs = ys) = false := by
      rw [decide_eq_false_iff_not]; intro h; rw [h, l2] at l1; exact hl l1.symm
    go_enter Try.func26, Try.ntmps26
    go_wp2
    go_ret
    exact ⟨ret_bool hd.symm, Q.refl _⟩

end Go.Proofs.Ytdlefmlienfjhaa
