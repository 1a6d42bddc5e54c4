/-
  What varint.Get does at every place of every bytes: contracts that the statements' walks use.
-/
import Derived.Test.YtdlefmlienfjhaaBase
namespace Go.Proofs.Ytdlefmlienfjhaa
open Go.RowKit
set_option maxRecDepth 20000
set_option linter.unusedVariables false

theorem getD_bound {r : List Int} (h : ∀ y ∈ r, 0 ≤ y ∧ y < 256) (k : Nat) (hk : k < r.length) : 0 ≤ r.getD k 0 ∧ r.getD k 0 < 256 := by
  rw [List.getD_eq_getElem?_getD, List.getElem?_eq_getElem hk]; exact h _ (List.getElem_mem hk)

theorem take_bound {r : List Int} (h : ∀ y ∈ r, 0 ≤ y ∧ y < 256) (k : Nat) : ∀ y ∈ r.take k, 0 ≤ y ∧ y < 256 := fun y hy => h y (List.mem_of_mem_take hy)

set_option maxHeartbeats 1000000 in
theorem get_1 (b off n c p : Nat) (x : Int) (r : List Int) (w : World) (hn : n ≤ 9223372036854775807) (hp : p < n) (hx0 : 0 ≤ x) (hx1 : x < 256) (hq : x / 64 = 0)
    (hc : w.cell? ⟨b, off + p, none⟩ = some (.int .u8 x)) (hs : p + 1 ≤ n) (hr : 0 ≤ r.length) (hrb : ∀ y ∈ r, 0 ≤ y ∧ y < 256)
    (hcr : ∀ i, i < 0 → w.cell? ⟨b, off + (p + 1 + i), none⟩ = some (.int .u8 (r.getD i 0))) :
    Calls Try.prog 50 #[.slice (some ⟨b, off, none⟩) n c, .int .i64 p] w fun e w' => e = .returned (.tuple #[.int .i64 (val (x % 64) (r.take 0)), .int .i64 (p + 1), .int .i64 0]) ∧ w = w' := by
  have hand := u8_and63 x hx0 hx1
  clear hrb hcr hr
  have t1 : decide ((p : Int) < 0) = false := by simp
  have t2 : decide (n < p) = false := by simp; omega
  have t3 : ((n : Int) - p == 0) = false := by simp; omega
  have t4 : decide ((n : Int) - p < 1) = false := by simp; omega
  go_enter Try.func50, Try.ntmps50
  go_wp2
  go_loop [4, 9] (fun m i => ∃ k : Nat, k ≤ 0 ∧ i = .int .i64 ((p : Int) + 1 + k) ∧ m = .int .i64 (val (x % 64) (r.take k))) (fun _ i => ((p : Int) + 1 - intOf i).toNat)
  case atStart => exact ⟨0, by omega, by simp, by simp [val]⟩
  case round =>
    obtain ⟨k, hk, rfl, rfl⟩ := hrel
    by_cases hlt : k < 0
    · exact absurd hlt (by omega)
    · obtain rfl : 0 = k := by omega
      go_wp2
      go_ret3
      exact ⟨rfl, rfl⟩

set_option maxHeartbeats 1000000 in
theorem get_2 (b off n c p : Nat) (x : Int) (r : List Int) (w : World) (hn : n ≤ 9223372036854775807) (hp : p < n) (hx0 : 0 ≤ x) (hx1 : x < 256) (hq : x / 64 = 1)
    (hc : w.cell? ⟨b, off + p, none⟩ = some (.int .u8 x)) (hs : p + 2 ≤ n) (hr : 1 ≤ r.length) (hrb : ∀ y ∈ r, 0 ≤ y ∧ y < 256)
    (hcr : ∀ i, i < 1 → w.cell? ⟨b, off + (p + 1 + i), none⟩ = some (.int .u8 (r.getD i 0))) :
    Calls Try.prog 50 #[.slice (some ⟨b, off, none⟩) n c, .int .i64 p] w fun e w' => e = .returned (.tuple #[.int .i64 (val (x % 64) (r.take 1)), .int .i64 (p + 2), .int .i64 0]) ∧ w = w' := by
  have hand := u8_and63 x hx0 hx1
  have HR := hid hrb
  have HC := hid hcr
  have HL := hid hr
  clear hrb hcr hr
  have t1 : decide ((p : Int) < 0) = false := by simp
  have t2 : decide (n < p) = false := by simp; omega
  have t3 : ((n : Int) - p == 0) = false := by simp; omega
  have t4 : decide ((n : Int) - p < 2) = false := by simp; omega
  go_enter Try.func50, Try.ntmps50
  go_wp2
  go_loop [4, 9] (fun m i => ∃ k : Nat, k ≤ 1 ∧ i = .int .i64 ((p : Int) + 1 + k) ∧ m = .int .i64 (val (x % 64) (r.take k))) (fun _ i => ((p : Int) + 2 - intOf i).toNat)
  case atStart => exact ⟨0, by omega, by simp, by simp [val]⟩
  case round =>
    obtain ⟨k, hk, rfl, rfl⟩ := hrel
    by_cases hlt : k < 1
    · have hcell := HC.out k hlt
      have hy := getD_bound HR.out k (by have := HL.out; omega)
      have hv := val_smaller (l := r.take k) (a := x % 64) (by omega) (by omega) (take_bound HR.out k) (by have := List.length_take_le k r; omega)
      have HN := hid (show val (x % 64) (r.take (k + 1)) = val (x % 64) (r.take k) * 256 + r.getD k 0 from by rw [take_snoc r k (by have := HL.out; omega), val_snoc])
      obtain ⟨hy0, hy1⟩ := hy
      obtain ⟨hv0, hv1⟩ := hv
      generalize r.getD k 0 = y at *
      generalize val (x % 64) (r.take k) = v at *
      have hor := i64_or_low v y hv0 (by omega) hy0 hy1
      go_wp2
      go_round
      case rel => exact ⟨k + 1, by omega, by go_num, by rw [HN.out]⟩
      case measure => simp [intOf]; omega
    · obtain rfl : 1 = k := by omega
      go_wp2
      go_ret3
      exact ⟨rfl, rfl⟩

set_option maxHeartbeats 1000000 in
theorem get_4 (b off n c p : Nat) (x : Int) (r : List Int) (w : World) (hn : n ≤ 9223372036854775807) (hp : p < n) (hx0 : 0 ≤ x) (hx1 : x < 256) (hq : x / 64 = 2)
    (hc : w.cell? ⟨b, off + p, none⟩ = some (.int .u8 x)) (hs : p + 4 ≤ n) (hr : 3 ≤ r.length) (hrb : ∀ y ∈ r, 0 ≤ y ∧ y < 256)
    (hcr : ∀ i, i < 3 → w.cell? ⟨b, off + (p + 1 + i), none⟩ = some (.int .u8 (r.getD i 0))) :
    Calls Try.prog 50 #[.slice (some ⟨b, off, none⟩) n c, .int .i64 p] w fun e w' => e = .returned (.tuple #[.int .i64 (val (x % 64) (r.take 3)), .int .i64 (p + 4), .int .i64 0]) ∧ w = w' := by
  have hand := u8_and63 x hx0 hx1
  have HR := hid hrb
  have HC := hid hcr
  have HL := hid hr
  clear hrb hcr hr
  have t1 : decide ((p : Int) < 0) = false := by simp
  have t2 : decide (n < p) = false := by simp; omega
  have t3 : ((n : Int) - p == 0) = false := by simp; omega
  have t4 : decide ((n : Int) - p < 4) = false := by simp; omega
  go_enter Try.func50, Try.ntmps50
  go_wp2
  go_loop [4, 9] (fun m i => ∃ k : Nat, k ≤ 3 ∧ i = .int .i64 ((p : Int) + 1 + k) ∧ m = .int .i64 (val (x % 64) (r.take k))) (fun _ i => ((p : Int) + 4 - intOf i).toNat)
  case atStart => exact ⟨0, by omega, by simp, by simp [val]⟩
  case round =>
    obtain ⟨k, hk, rfl, rfl⟩ := hrel
    by_cases hlt : k < 3
    · have hcell := HC.out k hlt
      have hy := getD_bound HR.out k (by have := HL.out; omega)
      have hv := val_smaller (l := r.take k) (a := x % 64) (by omega) (by omega) (take_bound HR.out k) (by have := List.length_take_le k r; omega)
      have HN := hid (show val (x % 64) (r.take (k + 1)) = val (x % 64) (r.take k) * 256 + r.getD k 0 from by rw [take_snoc r k (by have := HL.out; omega), val_snoc])
      obtain ⟨hy0, hy1⟩ := hy
      obtain ⟨hv0, hv1⟩ := hv
      generalize r.getD k 0 = y at *
      generalize val (x % 64) (r.take k) = v at *
      have hor := i64_or_low v y hv0 (by omega) hy0 hy1
      go_wp2
      go_round
      case rel => exact ⟨k + 1, by omega, by go_num, by rw [HN.out]⟩
      case measure => simp [intOf]; omega
    · obtain rfl : 3 = k := by omega
      go_wp2
      go_ret3
      exact ⟨rfl, rfl⟩

set_option maxHeartbeats 1000000 in
theorem get_8 (b off n c p : Nat) (x : Int) (r : List Int) (w : World) (hn : n ≤ 9223372036854775807) (hp : p < n) (hx0 : 0 ≤ x) (hx1 : x < 256) (hq : x / 64 = 3)
    (hc : w.cell? ⟨b, off + p, none⟩ = some (.int .u8 x)) (hs : p + 8 ≤ n) (hr : 7 ≤ r.length) (hrb : ∀ y ∈ r, 0 ≤ y ∧ y < 256)
    (hcr : ∀ i, i < 7 → w.cell? ⟨b, off + (p + 1 + i), none⟩ = some (.int .u8 (r.getD i 0))) :
    Calls Try.prog 50 #[.slice (some ⟨b, off, none⟩) n c, .int .i64 p] w fun e w' => e = .returned (.tuple #[.int .i64 (val (x % 64) (r.take 7)), .int .i64 (p + 8), .int .i64 0]) ∧ w = w' := by
  have hand := u8_and63 x hx0 hx1
  have HR := hid hrb
  have HC := hid hcr
  have HL := hid hr
  clear hrb hcr hr
  have t1 : decide ((p : Int) < 0) = false := by simp
  have t2 : decide (n < p) = false := by simp; omega
  have t3 : ((n : Int) - p == 0) = false := by simp; omega
  have t4 : decide ((n : Int) - p < 8) = false := by simp; omega
  go_enter Try.func50, Try.ntmps50
  go_wp2
  go_loop [4, 9] (fun m i => ∃ k : Nat, k ≤ 7 ∧ i = .int .i64 ((p : Int) + 1 + k) ∧ m = .int .i64 (val (x % 64) (r.take k))) (fun _ i => ((p : Int) + 8 - intOf i).toNat)
  case atStart => exact ⟨0, by omega, by simp, by simp [val]⟩
  case round =>
    obtain ⟨k, hk, rfl, rfl⟩ := hrel
    by_cases hlt : k < 7
    · have hcell := HC.out k hlt
      have hy := getD_bound HR.out k (by have := HL.out; omega)
      have hv := val_smaller (l := r.take k) (a := x % 64) (by omega) (by omega) (take_bound HR.out k) (by have := List.length_take_le k r; omega)
      have HN := hid (show val (x % 64) (r.take (k + 1)) = val (x % 64) (r.take k) * 256 + r.getD k 0 from by rw [take_snoc r k (by have := HL.out; omega), val_snoc])
      obtain ⟨hy0, hy1⟩ := hy
      obtain ⟨hv0, hv1⟩ := hv
      generalize r.getD k 0 = y at *
      generalize val (x % 64) (r.take k) = v at *
      have hor := i64_or_low v y hv0 (by omega) hy0 hy1
      go_wp2
      go_round
      case rel => exact ⟨k + 1, by omega, by go_num, by rw [HN.out]⟩
      case measure => simp [intOf]; omega
    · obtain rfl : 7 = k := by omega
      go_wp2
      go_ret3
      exact ⟨rfl, rfl⟩

set_option maxHeartbeats 1000000 in
theorem get_place (a : Option Addr) (n c : Nat) (p : Int) (w : World) (h : p < 0 ∨ (n : Int) < p) :
    Calls Try.prog 50 #[.slice a n c, .int .i64 p] w fun e w' => e = .returned (.tuple #[.int .i64 0, .int .i64 0, .int .i64 11]) ∧ w = w' := by
  by_cases h0 : p < 0
  · clear h
    go_enter Try.func50, Try.ntmps50
    go_wp2
    go_ret3
    exact ⟨rfl, rfl⟩
  · have h1 : (n : Int) < p := by omega
    clear h
    go_enter Try.func50, Try.ntmps50
    go_wp2
    go_ret3
    exact ⟨rfl, rfl⟩

set_option maxHeartbeats 1000000 in
theorem get_end (a : Option Addr) (n c : Nat) (w : World) (hn : n ≤ 9223372036854775807) :
    Calls Try.prog 50 #[.slice a n c, .int .i64 n] w fun e w' => e = .returned (.tuple #[.int .i64 0, .int .i64 0, .int .i64 12]) ∧ w = w' := by
  go_enter Try.func50, Try.ntmps50
  go_wp2
  go_ret3
  exact ⟨rfl, rfl⟩

set_option maxHeartbeats 1000000 in
theorem get_short_2 (b off n c p : Nat) (x : Int) (w : World) (hn : n ≤ 9223372036854775807) (hp : p < n) (hx0 : 0 ≤ x) (hx1 : x < 256) (hq : x / 64 = 1)
    (hc : w.cell? ⟨b, off + p, none⟩ = some (.int .u8 x)) (hs : n < p + 2) :
    Calls Try.prog 50 #[.slice (some ⟨b, off, none⟩) n c, .int .i64 p] w fun e w' => e = .returned (.tuple #[.int .i64 0, .int .i64 0, .int .i64 12]) ∧ w = w' := by
  have t1 : decide ((p : Int) < 0) = false := by simp
  have t2 : decide (n < p) = false := by simp; omega
  have t3 : (((n : Int) - p == 0)) = false := by simp; omega
  have t4 : decide ((n : Int) - p < 2) = true := by simp; omega
  go_enter Try.func50, Try.ntmps50
  go_wp2
  go_ret3
  exact ⟨rfl, rfl⟩

set_option maxHeartbeats 1000000 in
theorem get_short_4 (b off n c p : Nat) (x : Int) (w : World) (hn : n ≤ 9223372036854775807) (hp : p < n) (hx0 : 0 ≤ x) (hx1 : x < 256) (hq : x / 64 = 2)
    (hc : w.cell? ⟨b, off + p, none⟩ = some (.int .u8 x)) (hs : n < p + 4) :
    Calls Try.prog 50 #[.slice (some ⟨b, off, none⟩) n c, .int .i64 p] w fun e w' => e = .returned (.tuple #[.int .i64 0, .int .i64 0, .int .i64 12]) ∧ w = w' := by
  have t1 : decide ((p : Int) < 0) = false := by simp
  have t2 : decide (n < p) = false := by simp; omega
  have t3 : (((n : Int) - p == 0)) = false := by simp; omega
  have t4 : decide ((n : Int) - p < 4) = true := by simp; omega
  go_enter Try.func50, Try.ntmps50
  go_wp2
  go_ret3
  exact ⟨rfl, rfl⟩

set_option maxHeartbeats 1000000 in
theorem get_short_8 (b off n c p : Nat) (x : Int) (w : World) (hn : n ≤ 9223372036854775807) (hp : p < n) (hx0 : 0 ≤ x) (hx1 : x < 256) (hq : x / 64 = 3)
    (hc : w.cell? ⟨b, off + p, none⟩ = some (.int .u8 x)) (hs : n < p + 8) :
    Calls Try.prog 50 #[.slice (some ⟨b, off, none⟩) n c, .int .i64 p] w fun e w' => e = .returned (.tuple #[.int .i64 0, .int .i64 0, .int .i64 12]) ∧ w = w' := by
  have t1 : decide ((p : Int) < 0) = false := by simp
  have t2 : decide (n < p) = false := by simp; omega
  have t3 : (((n : Int) - p == 0)) = false := by simp; omega
  have t4 : decide ((n : Int) - p < 8) = true := by simp; omega
  go_enter Try.func50, Try.ntmps50
  go_wp2
  go_ret3
  exact ⟨rfl, rfl⟩

/-- What is told at every place. -/
theorem get_any (a : Option Addr) (n c : Nat) (zs : List Int) (p : Int) (w : World) (hl : zs.length = n) (hn : n ≤ 9223372036854775807) (hz : ∀ y ∈ zs, 0 ≤ y ∧ y < 256) (hseg : Seg w a zs) :
    Calls Try.prog 50 #[.slice a n c, .int .i64 p] w fun e w' => e = .returned (.tuple #[.int .i64 (rd zs p).1, .int .i64 (rd zs p).2.1, .int .i64 (rd zs p).2.2]) ∧ w = w' := by
  by_cases hp : p < 0 ∨ (n : Int) < p
  · have e : rd zs p = (0, 0, 11) := by rw [rd, hl, if_pos hp]
    rw [e]; exact get_place a n c p w hp
  obtain ⟨k, rfl⟩ := Int.eq_ofNat_of_zero_le (a := p) (by omega)
  have e : rd zs k = rdAt (zs.drop k) k := by rw [rd, hl, if_neg hp, Int.toNat_natCast]
  by_cases hk : k = n
  · subst hk
    have e2 : zs.drop k = [] := List.drop_of_length_le (by omega)
    rw [e, e2]; exact get_end a k c w hn
  have hkn : k < n := by omega
  obtain ⟨b, off, rfl, hc⟩ := hseg (by intro h; simp [h] at hl; omega)
  obtain ⟨x, r, hd⟩ : ∃ x r, zs.drop k = x :: r := by
    cases h : zs.drop k with
    | nil => have := congrArg List.length h; simp at this; omega
    | cons x r => exact ⟨x, r, rfl⟩
  have hx : zs.getD k 0 = x := by
    have := congrArg (fun l => l[0]?) hd
    simp at this
    simp [List.getD_eq_getElem?_getD, this]
  have hrl : r.length = n - k - 1 := by have := congrArg List.length hd; simp at this; omega
  have hcx : w.cell? ⟨b, off + k, none⟩ = some (.int .u8 x) := by rw [← hx]; exact hc k (by omega)
  have hmem : ∀ y ∈ x :: r, 0 ≤ y ∧ y < 256 := fun y hy => hz y (List.mem_of_mem_drop (hd ▸ hy))
  have hx01 := hmem x (by simp)
  have hrb : ∀ y ∈ r, 0 ≤ y ∧ y < 256 := fun y hy => hmem y (by simp [hy])
  have hcr : ∀ i, i < r.length → w.cell? ⟨b, off + (k + 1 + i), none⟩ = some (.int .u8 (r.getD i 0)) := by
    intro i hi
    rw [hc (k + 1 + i) (by omega)]
    have := congrArg (fun l => l[i + 1]?) hd
    simp at this
    rw [show k + (i + 1) = k + 1 + i from by omega] at this
    rw [List.getD_eq_getElem?_getD, List.getD_eq_getElem?_getD, this]
  rw [e, hd]
  rcases width_cases hx01.1 hx01.2 with ⟨hq, hw⟩ | ⟨hq, hw⟩ | ⟨hq, hw⟩ | ⟨hq, hw⟩
  · have e3 : rdAt (x :: r) (k : Int) = (val (x % 64) (r.take 0), (k : Int) + 1, 0) := by simp only [rdAt]; rw [hw, if_neg (by omega)]; rfl
    rw [e3]
    exact get_1 b off n c k x r w hn hkn hx01.1 hx01.2 hq hcx (by omega) (by omega) hrb (fun i hi => absurd hi (by omega))
  · by_cases hs : n < k + 2
    · have e3 : rdAt (x :: r) (k : Int) = (0, 0, 12) := by simp only [rdAt]; rw [hw, if_pos (by omega)]
      rw [e3]
      exact get_short_2 b off n c k x w hn hkn hx01.1 hx01.2 hq hcx hs
    · have e3 : rdAt (x :: r) (k : Int) = (val (x % 64) (r.take 1), (k : Int) + 2, 0) := by simp only [rdAt]; rw [hw, if_neg (by omega)]; rfl
      rw [e3]
      exact get_2 b off n c k x r w hn hkn hx01.1 hx01.2 hq hcx (by omega) (by omega) hrb (fun i hi => hcr i (by omega))
  · by_cases hs : n < k + 4
    · have e3 : rdAt (x :: r) (k : Int) = (0, 0, 12) := by simp only [rdAt]; rw [hw, if_pos (by omega)]
      rw [e3]
      exact get_short_4 b off n c k x w hn hkn hx01.1 hx01.2 hq hcx hs
    · have e3 : rdAt (x :: r) (k : Int) = (val (x % 64) (r.take 3), (k : Int) + 4, 0) := by simp only [rdAt]; rw [hw, if_neg (by omega)]; rfl
      rw [e3]
      exact get_4 b off n c k x r w hn hkn hx01.1 hx01.2 hq hcx (by omega) (by omega) hrb (fun i hi => hcr i (by omega))
  · by_cases hs : n < k + 8
    · have e3 : rdAt (x :: r) (k : Int) = (0, 0, 12) := by simp only [rdAt]; rw [hw, if_pos (by omega)]
      rw [e3]
      exact get_short_8 b off n c k x w hn hkn hx01.1 hx01.2 hq hcx hs
    · have e3 : rdAt (x :: r) (k : Int) = (val (x % 64) (r.take 7), (k : Int) + 8, 0) := by simp only [rdAt]; rw [hw, if_neg (by omega)]; rfl
      rw [e3]
      exact get_8 b off n c k x r w hn hkn hx01.1 hx01.2 hq hcx (by omega) (by omega) hrb (fun i hi => hcr i (by omega))

end Go.Proofs.Ytdlefmlienfjhaa
