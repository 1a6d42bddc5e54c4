/-
  What shake's own number does: a contract that the statements' walks use.
-/
import Derived.Test.YtekpepnonhbkcaaShA
namespace Go.Proofs.Ytekpepnonhbkcaa
open Go.RowKit
set_option linter.unusedVariables false
set_option maxRecDepth 20000

theorem be_get (n : Int) : ∀ (s k : Nat), k < s → (be s n)[k]? = some (n / 256 ^ (s - 1 - k) % 256)
  | 0, k, h => by omega
  | s + 1, 0, h => by
    show some (n / 256 ^ s % 256) = _
    rw [show s + 1 - 1 - 0 = s by omega]
  | s + 1, k + 1, h => by
    show (be s n)[k]? = _
    rw [be_get n s k (by omega), show s + 1 - 1 - (k + 1) = s - 1 - k by omega]
theorem pow8 (m : Nat) : (2 : Int) ^ (8 * m) = 256 ^ m := by
  rw [Int.pow_mul]; rfl
theorem fill_step {L : List Int} {s k : Nat} {v : Int} (hl : L.length = s) (hk : k < s) (hv : L[k]? = some v) :
    ((L.take k ++ List.replicate (s - k) 0).map (Value.int .u8)).set k (Value.int .u8 v) = (L.take (k + 1) ++ List.replicate (s - (k + 1)) 0).map (Value.int .u8) := by
  rw [← List.map_set]
  congr 1
  have h1 : (L.take k).length = k := by rw [List.length_take]; omega
  rw [List.set_append_right _ _ (by omega), h1, Nat.sub_self, show s - k = (s - (k + 1)) + 1 by omega, List.replicate_succ, List.set_cons_zero, List.take_add_one, hv]
  simp
set_option maxHeartbeats 4000000 in
theorem num_any (n : Int) (s : Nat) (w : World) (h0 : 0 ≤ n) (h1 : n ≤ 9223372036854775807) (hs0 : 0 < s) (hs8 : s ≤ 8) :
    Calls Try.prog 56 #[.int .i64 n, .int .i64 (s : Int)] w fun e w' => ∃ g, e = .returned (.slice (some ⟨g, 0, none⟩) s s) ∧ Q w w' ∧ Own w' w.heap.size (some ⟨g, 0, none⟩) s s (be s n) := by
  obtain ⟨i0, hi, hz0, hz1, hz2⟩ := info_parts info5
  go_enter Try.func56, Try.ntmps56
  go_wp2_with (at_make; refine wpList_make_full _ rfl _ _ 24 rfl w.heap.size 5 i0 (.int .u8 0) 1 Try.underlying24 hi hz0 hz1 .i64 .i64 _ _ s rfl rfl rfl rfl (by rw [hz2]; omega) (by unfold maxLen; omega) (Nat.le_refl _) ?_; intro w1 hown hgr)
  have hb1 : Below w.heap.size w w1 := (Below.refl _ _).grown hgr (Nat.le_refl _) (by intro k hk; cases hk)
  rw [made_zero] at hown
  go_loopw [11] (fun i wr => ∃ k : Nat, k ≤ s ∧ i = .int .i64 (k : Int) ∧ wr.ownsRow w.heap.size 5 1 (.slice (some ⟨w.heap.size, 0, none⟩) s s) s (((be s n).take k ++ List.replicate (s - k) 0).map (Value.int .u8)) ∧ Below w.heap.size w wr)
    (fun i _ => (s - (intOf i).toNat))
  case atStart => exact ⟨0, Nat.zero_le _, rfl, by simpa using hown, hb1⟩
  case round =>
    clear hown
    obtain ⟨k, hk, rfl, hown, hb⟩ := hrel
    by_cases hks : k < s
    · have hki : (k : Int) < (s : Int) := by omega
      have h0k : (0 : Int) ≤ (k : Int) := by omega
      obtain ⟨v0, hc⟩ : ∃ v, wr.cell? ⟨w.heap.size, k, none⟩ = some v := by
        rw [hown.cellAt k (by omega)]; exact ⟨_, List.getElem?_eq_getElem (by simp [be_length]; omega)⟩
      have hf := hown.frozenAt k
      have R := hown.stored k (.int .u8 (n / 2 ^ (8 * (s - 1 - k)) % 256))
      rw [fill_step (be_length s n) hks (by rw [be_get n s k hks, pow8])] at R
      have R' := hid R
      have B' := hid (hb.setCell (p := ⟨w.heap.size, k, none⟩) (Nat.le_refl _) (.int .u8 (n / 2 ^ (8 * (s - 1 - k)) % 256)))
      clear R hown hb hgr hb1
      go_wp2
      go_roundw
      case rel => exact ⟨k + 1, by omega, by go_num, R'.out.1, B'.out⟩
      case measure => simp [intOf]; omega
    · have hks' : k = s := by omega
      have hki : ¬ (k : Int) < (s : Int) := by omega
      have HO := hid (show Own wr w.heap.size (some ⟨w.heap.size, 0, none⟩) s s (be s n) from by
        have h5 := hown
        rw [hks', Nat.sub_self, List.take_of_length_le (by rw [be_length]; omega)] at h5
        simpa [Own] using h5)
      have HB := hid (show Q w wr from hb)
      clear hown hb hgr hb1 hks'
      go_wp2
      go_ret
      exact ⟨w.heap.size, rfl, HB.out, HO.out⟩
end Go.Proofs.Ytekpepnonhbkcaa
