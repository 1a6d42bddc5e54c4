/-
  What huff's inner window, ending and match answer. Contracts that the walk of Decode uses.
-/
import Derived.Test.YtehejibllkmflaaEnc
import Derived.Test.YtehejibllkmflaaDecM
namespace Go.Proofs.Ytehejibllkmflaa
open Go.RowKit
set_option linter.unusedVariables false
set_option maxRecDepth 100000

theorem nb_bd {b : List Int} (hb : ∀ y ∈ b, 0 ≤ y ∧ y < 256) (i : Nat) : 0 ≤ nb b i ∧ nb b i < 256 := by
  unfold nb
  rw [List.getD_eq_getElem?_getD]
  cases h : b[i]? with
  | none => simp
  | some v => exact hb v (List.mem_of_getElem? h)
theorem wv_bd {b : List Int} (hb : ∀ y ∈ b, 0 ≤ y ∧ y < 256) (j : Nat) : (0 ≤ wv b j 0 ∧ wv b j 0 < 1) ∧ (0 ≤ wv b j 1 ∧ wv b j 1 < 256) ∧ (0 ≤ wv b j 2 ∧ wv b j 2 < 65536) ∧ (0 ≤ wv b j 3 ∧ wv b j 3 < 16777216) := by
  have h0 := nb_bd hb j; have h1 := nb_bd hb (j + 1); have h2 := nb_bd hb (j + 2)
  simp [wv]
  omega
theorem ones_8 (w : World) : Calls Try.prog 96 #[.int .i64 8] w fun e w' => e = .returned (.int .i64 255) ∧ w = w' := by
  have h := ones_any 8 w (by omega)
  rw [show ((2 : Int) ^ 8 - 1) = 255 from by decide] at h
  exact h
theorem ones_15 (w : World) : Calls Try.prog 96 #[.int .i64 15] w fun e w' => e = .returned (.int .i64 32767) ∧ w = w' := by
  have h := ones_any 15 w (by omega)
  rw [show ((2 : Int) ^ 15 - 1) = 32767 from by decide] at h
  exact h
theorem and_15 (d : Int) (h0 : 0 ≤ d) (h1 : d < 9223372036854775808) : bits .and .i64 d 32767 = d % 32768 := by
  obtain ⟨m, rfl⟩ := Int.eq_ofNat_of_zero_le h0
  have := i64_and_nat m 32767 (by omega) (by omega)
  rw [show (32767 : Nat) = 2 ^ 15 - 1 by decide, Nat.and_two_pow_sub_one_eq_mod] at this
  have e : ((2 ^ 15 - 1 : Nat) : Int) = 32767 := by decide
  rw [e] at this
  rw [this]
  omega
set_option maxHeartbeats 4000000 in
theorem window_any (a : Option Addr) (n c p : Nat) (zs : List Int) (w : World) (hlen : zs.length = n) (hn : n ≤ 16384) (hp : p ≤ 8 * n) (hz : ∀ y ∈ zs, 0 ≤ y ∧ y < 256) (hseg : Seg w a zs) :
    Calls Try.prog 84 #[.slice a n c, .int .i64 p] w fun e w' => e = .returned (.int .i64 (wdL ((ub zs).drop p))) ∧ Q w w' := by
  obtain ⟨j, r, rfl, hr⟩ : ∃ j r : Nat, p = 8 * j + r ∧ r ≤ 7 := ⟨p / 8, p % 8, by omega, by omega⟩
  have HW := hid (win_eq zs hz j r hr (by omega))
  have HB := hid (wv_bd hz j)
  have HNB := hid (fun i => nb_bd hz i)
  have HL := hid hlen
  have HS := hid hseg
  have HZ := hid hz
  have HONE := hid ones_8
  have HON2 := hid ones_15
  clear hlen hseg hz
  generalize wdL ((ub zs).drop (8 * j + r)) = R at *
  generalize hpp : 8 * j + r = p at *
  have hpj : (p : Int) / 8 = (j : Int) := by omega
  have hpr : (p : Int) % 8 = (r : Int) := by omega
  have HJ := hid (show 8 * j + r = p from hpp)
  clear hpp
  go_enter Try.func84, Try.ntmps84
  go_wp2_with fail
  go_loopw [5, 6] (fun v i wr => Q w wr ∧ ∃ k : Nat, k ≤ 3 ∧ i = .int .i64 ((j + k : Nat) : Int) ∧ v = .int .i64 (wv zs j k)) (fun _ i _ => ((j : Int) + 3 - intOf i).toNat)
  case atStart => exact ⟨Q.refl _, 0, by omega, by go_num, rfl⟩
  case round =>
    obtain ⟨hq, k, hk, rfl, rfl⟩ := hrel
    have HQ := hid hq
    clear hq
    by_cases hk3 : k < 3
    · have hki : ((j + k : Nat) : Int) < (j : Int) + 3 := by omega
      have hvb : 0 ≤ wv zs j k ∧ wv zs j k < 65536 := by
        have h := HB.out
        have : k = 0 ∨ k = 1 ∨ k = 2 := by omega
        rcases this with rfl | rfl | rfl <;> omega
      have hxb := HNB.out (j + k)
      have HV := hid (show wv zs j (k + 1) = wv zs j k * 256 + nb zs (j + k) from rfl)
      have hor := i64_or_low (wv zs j k) (nb zs (j + k)) hvb.1 (by omega) hxb.1 hxb.2
      have hmul : wrap64 (wv zs j k * 256) = wv zs j k * 256 := by
        obtain ⟨h1, h2⟩ := hvb
        unfold wrap64; omega
      by_cases hjn : j + k < n
      · have hji : ((j + k : Nat) : Int) < (n : Int) := by omega
        obtain ⟨pb, off, rfl, hc0⟩ := HS.out (by intro e; have := HL.out; rw [e] at this; simp at this; omega)
        have hc1 := hc0 (j + k) (by rw [HL.out]; exact hjn)
        rw [← HQ.out.cell (lt_of_cell hc1)] at hc1
        have hnx : zs.getD (j + k) 0 = nb zs (j + k) := by
          unfold nb
          rw [List.getD_eq_getElem?_getD, List.getD_eq_getElem?_getD, List.getElem?_eq_getElem (by rw [HL.out]; exact hjn)]; rfl
        rw [hnx] at hc1
        clear hnx hc0
        generalize wv zs j k = v at *
        generalize nb zs (j + k) = x at *
        generalize hjk : j + k = i at *
        have HJK := hid hjk
        clear hjk
        go_wp2_with (go_at_call 96; refine (HONE.out _).mono ?_; rintro e w1 ⟨rfl, rfl⟩)
        go_roundw
        case rel => exact ⟨HQ.out, k + 1, by omega, congrArg (Value.int .i64) (by have := HJK.out; omega), by rw [HV.out]⟩
        case measure => simp [intOf]; omega
      · have hji : ¬ ((j + k : Nat) : Int) < (n : Int) := by omega
        have hnx : nb zs (j + k) = 255 := by
          unfold nb
          rw [List.getD_eq_getElem?_getD, List.getElem?_eq_none (by rw [HL.out]; omega)]; rfl
        rw [hnx] at hor HV
        clear hnx hxb
        generalize wv zs j k = v at *
        generalize hjk : j + k = i at *
        have HJK := hid hjk
        clear hjk
        go_wp2_with (go_at_call 96; refine (HONE.out _).mono ?_; rintro e w1 ⟨rfl, rfl⟩)
        go_roundw
        case rel => exact ⟨HQ.out, k + 1, by omega, congrArg (Value.int .i64) (by have := HJK.out; omega), by rw [HV.out]⟩
        case measure => simp [intOf]; omega
    · obtain rfl : k = 3 := by omega
      have hki : ¬ ((j + 3 : Nat) : Int) < (j : Int) + 3 := by omega
      have hb := HB.out.2.2.2
      obtain ⟨f, hf⟩ : ∃ f : Nat, 9 - r = f := ⟨9 - r, rfl⟩
      rw [hf] at HW
      have hfi : (9 : Int) - (r : Int) = (f : Int) := by omega
      have hd : 0 ≤ wv zs j 3 / 2 ^ f ∧ wv zs j 3 / 2 ^ f ≤ wv zs j 3 := ⟨Int.ediv_nonneg hb.1 (Int.le_of_lt (two_pos f)), Int.ediv_le_self _ hb.1⟩
      have hand := and_15 (wv zs j 3 / 2 ^ f) hd.1 (by omega)
      rw [HW.out] at hand
      clear HW hd
      generalize wv zs j 3 = v at *
      go_wp2_with fail
      go_quiet ((go_at_call 96; exact Calls.quiet_of_same ((HON2.out _).mono (by rintro e w' ⟨rfl, rfl⟩; exact ⟨rfl, rfl⟩))))
      go_wp2
      go_ret
      exact ⟨rfl, HQ.out.drewN _⟩
end Go.Proofs.Ytehejibllkmflaa
