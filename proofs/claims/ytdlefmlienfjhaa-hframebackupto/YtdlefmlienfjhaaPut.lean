/-
  What varint.Size, varint.sizeBits and varint.Put do, each for every argument: contracts that the statements' walks use.
-/
import Derived.Test.YtdlefmlienfjhaaBase
import Derived.BigQuiet
import Derived.Deep.QuietTactic
import Derived.Deep.RegionWith
namespace Go.Proofs.Ytdlefmlienfjhaa
open Go.RowKit
set_option maxRecDepth 20000

set_option maxHeartbeats 400000 in
theorem size_any (n : Int) (w : World) : Calls Try.prog 57 #[.int .i64 n] w fun e w' => e = .returned (.int .i64 (sz n)) ∧ w = w' := by
  by_cases h1 : n < 0
  · go_enter Try.func57, Try.ntmps57
    go_wp2
    go_ret
    exact ⟨ret_int (by rw [sz_low h1]; rfl), rfl⟩
  by_cases h2 : 4611686018427387903 < n
  · go_enter Try.func57, Try.ntmps57
    go_wp2
    go_ret
    exact ⟨ret_int (by rw [sz_high h2]; rfl), rfl⟩
  go_enter Try.func57, Try.ntmps57
  go_wp2
  all_goals go_ret
  all_goals exact ⟨ret_int (by first | (rw [sz_1 (by omega) (by omega)]; rfl) | (rw [sz_2 (by omega) (by omega)]; rfl) | (rw [sz_4 (by omega) (by omega)]; rfl) | (rw [sz_8 (by omega) (by omega)]; rfl)), rfl⟩

set_option maxHeartbeats 400000 in
theorem tag_any (s : Nat) (w : World) (hs : s = 1 ∨ s = 2 ∨ s = 4 ∨ s = 8) : Calls Try.prog 58 #[.int .i64 s] w fun e w' => e = .returned (.int .u8 (tag s)) ∧ w = w' := by
  rcases hs with rfl | rfl | rfl | rfl
  all_goals
    go_enter Try.func58, Try.ntmps58
    go_wp2
    go_ret
    exact ⟨rfl, rfl⟩

set_option maxHeartbeats 400000 in
theorem put_ok (n : Int) (w : World) (s : Nat) (h0 : 0 ≤ n) (h1 : n ≤ 4611686018427387903) (H : Hid (sz n = s)) :
    Calls Try.prog 48 #[.int .i64 n] w fun e w' => ∃ g, e = .returned (.tuple #[.slice (some ⟨g, 0, none⟩) s s, .int .i64 0]) ∧ Q w w' ∧ Own w' w.heap.size (some ⟨g, 0, none⟩) s s (form n) := by
  have hs : s = 1 ∨ s = 2 ∨ s = 4 ∨ s = 8 := by have := sz_some h0 h1; rw [H.out] at this; exact this
  obtain ⟨i0, hi, hz0, hz1, hz2⟩ := info_parts info5
  have hs0 : 0 < s := by omega
  have hs8 : s ≤ 8 := by omega
  have hne : ((s : Int) == 0) = false := by simp; omega
  have HS : Hid (s = 1 ∨ s = 2 ∨ s = 4 ∨ s = 8) := hs
  clear hs
  go_enter Try.func48, Try.ntmps48
  go_wp2_with (first
    | (go_at_call 57; refine (size_any _ _).mono ?_; rintro e w' ⟨rfl, rfl⟩; rw [H.out])
    | (at_make; refine wpList_make_full _ rfl _ _ 30 rfl w.heap.size 5 i0 (.int .u8 0) 1 Try.underlying30 hi hz0 hz1 .i64 .i64 _ _ s rfl rfl rfl rfl (by rw [hz2]; omega) (by unfold maxLen; omega) (Nat.le_refl _) ?_; intro w1 hown hgr))
  have hb1 : Below w.heap.size w w1 := (Below.refl _ _).grown hgr (Nat.le_refl _) (by intro k hk; cases hk)
  go_loopw [0, 6] (fun m i wr => ∃ k : Nat, k ≤ s ∧ i = .int .i64 ((s : Int) - 1 - k) ∧ m = .int .i64 (n / 256 ^ k) ∧ wr.ownsRow w.heap.size 5 1 (.slice (some ⟨w.heap.size, 0, none⟩) s s) s ((List.replicate (s - k) 0 ++ be k n).map (Value.int .u8)) ∧ Below w.heap.size w wr)
    (fun _ i _ => (intOf i + 1).toNat)
  case atStart =>
    refine ⟨0, Nat.zero_le _, by simp, by simp, ?_, hb1⟩
    rw [made_zero] at hown; simpa [be] using hown
  case round =>
    clear hown
    obtain ⟨k, hk, rfl, rfl, hown, hb⟩ := hrel
    by_cases hks : k < s
    · have hd := div_bounds n k h0
      obtain ⟨d0, d1⟩ := hd
      have ha := i64_and255 (n / 256 ^ k) d0 (by omega)
      obtain ⟨v0, hc⟩ : ∃ v, wr.cell? ⟨w.heap.size, s - 1 - k, none⟩ = some v := by
        rw [hown.cellAt (s - 1 - k) (by omega)]; exact ⟨_, List.getElem?_eq_getElem (by simp [be_length]; omega)⟩
      have hf := hown.frozenAt (s - 1 - k)
      have R := hown.stored (s - 1 - k) (.int .u8 (n / 256 ^ k % 256))
      rw [list_step (Value.int .u8) s k n hks] at R
      have R' := hid R
      have B' := hid (hb.setCell (p := ⟨w.heap.size, s - 1 - k, none⟩) (Nat.le_refl _) (.int .u8 (n / 256 ^ k % 256)))
      clear R hown hb hgr hb1
      go_wp2
      go_roundw
      case rel => exact ⟨k + 1, by omega, by go_num, by rw [pow_ediv], R'.out.1, B'.out⟩
      case measure => simp [intOf]; omega
    · obtain rfl : s = k := by omega
      obtain ⟨x, r, hx⟩ := be_ne n hs0
      have hb64 := be_head h0 h1 H.out hx
      have hor := u8_or_tag x (tag s) hb64.1 hb64.2 (tag_cases s)
      have hc : wr.cell? ⟨w.heap.size, 0, none⟩ = some (.int .u8 x) := by
        rw [hown.cellAt 0 (by omega)]; simp [hx]
      have hf := hown.frozenAt 0
      have hp : (0 : Int) < (s : Int) := by omega
      have fin := (hown.stored 0 (.int .u8 (x + tag s))).1
      have HO := hid (show Own (wr.setCell ⟨w.heap.size, 0, none⟩ (.int .u8 (x + tag s))).drew w.heap.size (some ⟨w.heap.size, 0, none⟩) s s (form n) from by
        rw [form_of H.out hx]; rw [hx] at fin; simp only [Nat.sub_self, List.replicate_zero, List.nil_append, List.map_cons, List.set_cons_zero] at fin; exact fin.drew)
      have HB := hid (show Q w (wr.setCell ⟨w.heap.size, 0, none⟩ (.int .u8 (x + tag s))).drew from (hb.setCell (p := ⟨w.heap.size, 0, none⟩) (Nat.le_refl _) _).drew)
      clear hown hb hx hgr hb1 fin hb64
      go_wp2
      go_region_with (go_at_call 58; refine (tag_any s _ HS.out).mono ?_; rintro e w' ⟨rfl, rfl⟩)
      all_goals go_wp2
      all_goals go_ret2
      all_goals exact ⟨w.heap.size, rfl, HB.out, HO.out⟩

set_option maxHeartbeats 400000 in
theorem put_no (n : Int) (w : World) (h : n < 0 ∨ 4611686018427387903 < n) :
    Calls Try.prog 48 #[.int .i64 n] w fun e w' => e = .returned (.tuple #[.slice none 0 0, .int .i64 10]) ∧ w = w' := by
  have H := hid (sz_none h)
  clear h
  go_enter Try.func48, Try.ntmps48
  go_wp2_with (go_at_call 57; refine (size_any _ _).mono ?_; rintro e w' ⟨rfl, rfl⟩; rw [H.out])
  go_ret2
  exact ⟨rfl, rfl⟩

end Go.Proofs.Ytdlefmlienfjhaa
