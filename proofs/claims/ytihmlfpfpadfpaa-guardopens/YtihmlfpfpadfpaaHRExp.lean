/-
  What the document's Expand does: contracts that the statements' walks use.
-/
import Derived.Test.YtihmlfpfpadfpaaHExp
namespace Go.Proofs.Ytihmlfpfpadfpaa
open Go.RowKit
set_option linter.unusedVariables false
set_option maxRecDepth 20000

set_option maxHeartbeats 400000 in
theorem rfar_any (a b : Int) (w : World) (a0 : 0 ≤ a) (a1 : a ≤ 4611686018427387904) (b0 : 0 ≤ b) (b1 : b ≤ 4611686018427387904) : Calls Try.prog 85 #[.int .i64 a, .int .i64 b] w fun e w' => e = .returned (.int .i64 (farN a b)) ∧ w = w' := by
  by_cases h : a < b
  · go_enter Try.func85, Try.ntmps85
    go_wp2
    go_ret
    exact ⟨ret_int (by unfold farN; rw [if_pos h]), rfl⟩
  · go_enter Try.func85, Try.ntmps85
    go_wp2
    go_ret
    exact ⟨ret_int (by unfold farN; rw [if_neg (by omega)]), rfl⟩
theorem ds_no {want n : Int} {b : Int × Bool} (h : n < 0 ∨ 4611686018427387903 < n) : ds want b n = b := by unfold ds; rw [if_pos h]
theorem ds_new {want n : Int} {b : Int × Bool} (h : 0 ≤ n) (h1 : n ≤ 4611686018427387903) (h2 : b.2 = false ∨ farN n want ≤ farN b.1 want) : ds want b n = (n, true) := by unfold ds; rw [if_neg (by omega), if_pos h2]
theorem ds_far {want n : Int} {b : Int × Bool} (h1 : b.2 = true) (h2 : ¬ farN n want ≤ farN b.1 want) : ds want b n = b := by
  unfold ds; split
  · rfl
  · rw [if_neg (by rintro (h | h); rw [h1] at h; cases h; exact h2 h)]
theorem ds_range {want n : Int} {b : Int × Bool} (h : b.2 = true → 0 ≤ b.1 ∧ b.1 ≤ 4611686018427387903) (h1 : (ds want b n).2 = true) : 0 ≤ (ds want b n).1 ∧ (ds want b n).1 ≤ 4611686018427387903 := by
  rcases ds_cases want n b with ⟨e, e'⟩ | ⟨e, e'⟩
  · rw [e]; exact ⟨e'.1, e'.2.1⟩
  · rw [e] at h1 ⊢; exact h h1

set_option maxHeartbeats 8000000 in
theorem rexpand_1 (high part base want : Int) (w : World) (hw : high + 1 = want) (h1 : -1 ≤ high) (h2 : high ≤ 4611686018427387903) (p0 : 0 ≤ part) (p1 : part < 256) (hq : want / 256 = base) :
    Calls Try.prog 79 #[.int .i64 high, .int .i64 part, .int .i64 1] w fun e w' => e = .returned (.int .i64 (ds want (ds want (ds want (0, false) ((base - 1) * 256 + part)) (base * 256 + part)) ((base + 1) * 256 + part)).1) ∧ w = w' := by
  have w0 : 0 ≤ want := by omega
  have w1 : want ≤ 4611686018427387904 := by omega
  have HB1 := hid (ds_range (want := want) (b := (0, false)) (n := (base - 1) * 256 + part) (fun h => by cases h))
  have HB2 := hid (ds_range (want := want) (b := ds want (0, false) ((base - 1) * 256 + part)) (n := base * 256 + part) HB1.out)
  have base0 : 0 ≤ base := by omega
  have base1 : base ≤ 18014398509481984 := by omega
  have base2 : base * 256 ≤ 4611686018427387904 := by omega
  have hq' : Int.tdiv want 256 = base := by rw [Int.tdiv_eq_ediv_of_nonneg w0]; exact hq
  obtain ⟨⟨b1, f1⟩, hB1⟩ : ∃ d, ds want (0, false) ((base - 1) * 256 + part) = d := ⟨_, rfl⟩
  rw [hB1] at HB1 HB2 ⊢
  obtain ⟨⟨b2, f2⟩, hB2⟩ : ∃ d, ds want (b1, f1) (base * 256 + part) = d := ⟨_, rfl⟩
  rw [hB2] at HB2 ⊢
  obtain ⟨⟨b3, f3⟩, hB3⟩ : ∃ d, ds want (b2, f2) ((base + 1) * 256 + part) = d := ⟨_, rfl⟩
  rw [hB3]
  have H1 := hid hB1
  have H2 := hid hB2
  have H3 := hid hB3
  have HQ0 := hid hq
  clear hB1 hB2 hB3 hq
  go_enter Try.func79, Try.ntmps79
  go_wp2
  go_loopw [7, 8] (fun s j wr => w = wr ∧ ((j = .int .i64 0 ∧ s = .int .i64 1) ∨ (j = .int .i64 1 ∧ s = .int .i64 256))) (fun _ j _ => (1 - intOf j).toNat)
  case atStart => exact ⟨rfl, .inl ⟨rfl, rfl⟩⟩
  case round =>
    obtain ⟨rfl, ⟨rfl, rfl⟩ | ⟨rfl, rfl⟩⟩ := hrel
    · go_wp2
      go_roundw
      case rel => first | exact ⟨rfl, by simp⟩ | exact ⟨trivial, by simp⟩ | simp
      case measure => simp [intOf]
    · go_wp2
      go_loopw [11, 12, 13] (fun b f k wr => w = wr ∧ ((k = .int .i64 (base - 1) ∧ b = .int .i64 0 ∧ f = .bool false) ∨ (k = .int .i64 base ∧ b = .int .i64 b1 ∧ f = .bool f1) ∨ (k = .int .i64 (base + 1) ∧ b = .int .i64 b2 ∧ f = .bool f2) ∨ (k = .int .i64 (base + 2) ∧ b = .int .i64 b3 ∧ f = .bool f3))) (fun _ _ k _ => (base + 2 - intOf k).toNat)
      case atStart => exact ⟨rfl, .inl ⟨rfl, rfl, rfl⟩⟩
      case round =>
        obtain ⟨rfl, ⟨rfl, rfl, rfl⟩ | ⟨rfl, rfl, rfl⟩ | ⟨rfl, rfl, rfl⟩ | ⟨rfl, rfl, rfl⟩⟩ := hrel
        · by_cases a1 : base - 1 < 0
          · have a1' : decide (base - 1 < 0) = true := by simp; omega
            have hx : (b1, f1) = (0, false) := by rw [← H1.out]; exact ds_no (.inl (by omega))
            simp only [Prod.mk.injEq] at hx
            go_wp2
            go_roundw
            case rel => first | exact ⟨rfl, by simp [hx] <;> omega⟩ | exact ⟨trivial, by simp [hx] <;> omega⟩ | (simp [hx] <;> omega)
            case measure => simp [intOf]; try omega
          have a1' : decide (base - 1 < 0) = false := by simp; omega
          have a2 : (base - 1) * 256 + part ≤ 4611686018427387903 := by omega
          have a2' : decide (4611686018427387903 < (base - 1) * 256 + part) = false := by simp; omega
          have hx : (b1, f1) = ((base - 1) * 256 + part, true) := by rw [← H1.out]; exact ds_new (by omega) (by omega) (.inl rfl)
          simp only [Prod.mk.injEq] at hx
          go_wp2
          go_roundw
          case rel => first | exact ⟨rfl, by simp [hx] <;> omega⟩ | exact ⟨trivial, by simp [hx] <;> omega⟩ | (simp [hx] <;> omega)
          case measure => simp [intOf]; try omega
        · have a1' : decide (base < 0) = false := by simp; omega
          by_cases a2 : 4611686018427387903 < base * 256 + part
          · have a2' : decide (4611686018427387903 < base * 256 + part) = true := by simp; omega
            have hx : (b2, f2) = (b1, f1) := by rw [← H2.out]; exact ds_no (.inr (by omega))
            simp only [Prod.mk.injEq] at hx
            go_wp2
            go_roundw
            case rel => first | exact ⟨rfl, by simp [hx] <;> omega⟩ | exact ⟨trivial, by simp [hx] <;> omega⟩ | (simp [hx] <;> omega)
            case measure => simp [intOf]; try omega
          have a2' : decide (4611686018427387903 < base * 256 + part) = false := by simp; omega
          cases f1
          · have hx : (b2, f2) = (base * 256 + part, true) := by rw [← H2.out]; exact ds_new (by omega) (by omega) (.inl rfl)
            simp only [Prod.mk.injEq] at hx
            go_wp2
            go_roundw
            case rel => first | exact ⟨rfl, by simp [hx] <;> omega⟩ | exact ⟨trivial, by simp [hx] <;> omega⟩ | (simp [hx] <;> omega)
            case measure => simp [intOf]; try omega
          have b0 : 0 ≤ b1 := (HB1.out rfl).1
          have bb : b1 ≤ 4611686018427387903 := (HB1.out rfl).2
          have A1 := hid (rfar_any (base * 256 + part) want (w := w) (by omega) (by omega) w0 w1)
          have A2 := hid (rfar_any b1 want (w := w) (by omega) (by omega) w0 w1)
          have fr1 := far_range (base * 256 + part) want (by omega) (by omega) w0 w1
          have fr2 := far_range b1 want (by omega) (by omega) w0 w1
          by_cases a4 : farN (base * 256 + part) want ≤ farN b1 want
          · have hx : (b2, f2) = (base * 256 + part, true) := by rw [← H2.out]; exact ds_new (by omega) (by omega) (.inr a4)
            simp only [Prod.mk.injEq] at hx
            have a4' : decide (farN (base * 256 + part) want ≤ farN b1 want) = true := by simp; exact a4
            go_wp2_with fail
            refine A1.out.mono ?_
            rintro e w1' ⟨rfl, rfl⟩
            go_wp2_with fail
            refine A2.out.mono ?_
            rintro e w2' ⟨rfl, rfl⟩
            go_wp2
            go_roundw
            case rel => first | exact ⟨rfl, by simp [hx] <;> omega⟩ | exact ⟨trivial, by simp [hx] <;> omega⟩ | (simp [hx] <;> omega)
            case measure => simp [intOf]; try omega
          · have hx : (b2, f2) = (b1, true) := by rw [← H2.out]; exact ds_far rfl a4
            simp only [Prod.mk.injEq] at hx
            have a4' : decide (farN (base * 256 + part) want ≤ farN b1 want) = false := by simp; omega
            go_wp2_with fail
            refine A1.out.mono ?_
            rintro e w1' ⟨rfl, rfl⟩
            go_wp2_with fail
            refine A2.out.mono ?_
            rintro e w2' ⟨rfl, rfl⟩
            go_wp2
            go_roundw
            case rel => first | exact ⟨rfl, by simp [hx] <;> omega⟩ | exact ⟨trivial, by simp [hx] <;> omega⟩ | (simp [hx] <;> omega)
            case measure => simp [intOf]; try omega
        · have a1' : decide (base + 1 < 0) = false := by simp; omega
          by_cases a2 : 4611686018427387903 < (base + 1) * 256 + part
          · have a2' : decide (4611686018427387903 < (base + 1) * 256 + part) = true := by simp; omega
            have hx : (b3, f3) = (b2, f2) := by rw [← H3.out]; exact ds_no (.inr (by omega))
            simp only [Prod.mk.injEq] at hx
            go_wp2
            go_roundw
            case rel => first | exact ⟨rfl, by simp [hx] <;> omega⟩ | exact ⟨trivial, by simp [hx] <;> omega⟩ | (simp [hx] <;> omega)
            case measure => simp [intOf]; try omega
          have a2' : decide (4611686018427387903 < (base + 1) * 256 + part) = false := by simp; omega
          cases f2
          · have hx : (b3, f3) = ((base + 1) * 256 + part, true) := by rw [← H3.out]; exact ds_new (by omega) (by omega) (.inl rfl)
            simp only [Prod.mk.injEq] at hx
            go_wp2
            go_roundw
            case rel => first | exact ⟨rfl, by simp [hx] <;> omega⟩ | exact ⟨trivial, by simp [hx] <;> omega⟩ | (simp [hx] <;> omega)
            case measure => simp [intOf]; try omega
          have b0 : 0 ≤ b2 := (HB2.out rfl).1
          have bb : b2 ≤ 4611686018427387903 := (HB2.out rfl).2
          have A1 := hid (rfar_any ((base + 1) * 256 + part) want (w := w) (by omega) (by omega) w0 w1)
          have A2 := hid (rfar_any b2 want (w := w) (by omega) (by omega) w0 w1)
          have fr1 := far_range ((base + 1) * 256 + part) want (by omega) (by omega) w0 w1
          have fr2 := far_range b2 want (by omega) (by omega) w0 w1
          by_cases a4 : farN ((base + 1) * 256 + part) want ≤ farN b2 want
          · have hx : (b3, f3) = ((base + 1) * 256 + part, true) := by rw [← H3.out]; exact ds_new (by omega) (by omega) (.inr a4)
            simp only [Prod.mk.injEq] at hx
            have a4' : decide (farN ((base + 1) * 256 + part) want ≤ farN b2 want) = true := by simp; exact a4
            go_wp2_with fail
            refine A1.out.mono ?_
            rintro e w1' ⟨rfl, rfl⟩
            go_wp2_with fail
            refine A2.out.mono ?_
            rintro e w2' ⟨rfl, rfl⟩
            go_wp2
            go_roundw
            case rel => first | exact ⟨rfl, by simp [hx] <;> omega⟩ | exact ⟨trivial, by simp [hx] <;> omega⟩ | (simp [hx] <;> omega)
            case measure => simp [intOf]; try omega
          · have hx : (b3, f3) = (b2, true) := by rw [← H3.out]; exact ds_far rfl a4
            simp only [Prod.mk.injEq] at hx
            have a4' : decide (farN ((base + 1) * 256 + part) want ≤ farN b2 want) = false := by simp; omega
            go_wp2_with fail
            refine A1.out.mono ?_
            rintro e w1' ⟨rfl, rfl⟩
            go_wp2_with fail
            refine A2.out.mono ?_
            rintro e w2' ⟨rfl, rfl⟩
            go_wp2
            go_roundw
            case rel => first | exact ⟨rfl, by simp [hx] <;> omega⟩ | exact ⟨trivial, by simp [hx] <;> omega⟩ | (simp [hx] <;> omega)
            case measure => simp [intOf]; try omega
        · go_wp2
          go_ret
          exact ⟨rfl, rfl⟩

set_option maxHeartbeats 8000000 in
theorem rexpand_2 (high part base want : Int) (w : World) (hw : high + 1 = want) (h1 : -1 ≤ high) (h2 : high ≤ 4611686018427387903) (p0 : 0 ≤ part) (p1 : part < 65536) (hq : want / 65536 = base) :
    Calls Try.prog 79 #[.int .i64 high, .int .i64 part, .int .i64 2] w fun e w' => e = .returned (.int .i64 (ds want (ds want (ds want (0, false) ((base - 1) * 65536 + part)) (base * 65536 + part)) ((base + 1) * 65536 + part)).1) ∧ w = w' := by
  have w0 : 0 ≤ want := by omega
  have w1 : want ≤ 4611686018427387904 := by omega
  have HB1 := hid (ds_range (want := want) (b := (0, false)) (n := (base - 1) * 65536 + part) (fun h => by cases h))
  have HB2 := hid (ds_range (want := want) (b := ds want (0, false) ((base - 1) * 65536 + part)) (n := base * 65536 + part) HB1.out)
  have base0 : 0 ≤ base := by omega
  have base1 : base ≤ 18014398509481984 := by omega
  have base2 : base * 65536 ≤ 4611686018427387904 := by omega
  have hq' : Int.tdiv want 65536 = base := by rw [Int.tdiv_eq_ediv_of_nonneg w0]; exact hq
  obtain ⟨⟨b1, f1⟩, hB1⟩ : ∃ d, ds want (0, false) ((base - 1) * 65536 + part) = d := ⟨_, rfl⟩
  rw [hB1] at HB1 HB2 ⊢
  obtain ⟨⟨b2, f2⟩, hB2⟩ : ∃ d, ds want (b1, f1) (base * 65536 + part) = d := ⟨_, rfl⟩
  rw [hB2] at HB2 ⊢
  obtain ⟨⟨b3, f3⟩, hB3⟩ : ∃ d, ds want (b2, f2) ((base + 1) * 65536 + part) = d := ⟨_, rfl⟩
  rw [hB3]
  have H1 := hid hB1
  have H2 := hid hB2
  have H3 := hid hB3
  have HQ0 := hid hq
  clear hB1 hB2 hB3 hq
  go_enter Try.func79, Try.ntmps79
  go_wp2
  go_loopw [7, 8] (fun s j wr => w = wr ∧ ((j = .int .i64 0 ∧ s = .int .i64 1) ∨ (j = .int .i64 1 ∧ s = .int .i64 256) ∨ (j = .int .i64 2 ∧ s = .int .i64 65536))) (fun _ j _ => (2 - intOf j).toNat)
  case atStart => exact ⟨rfl, .inl ⟨rfl, rfl⟩⟩
  case round =>
    obtain ⟨rfl, ⟨rfl, rfl⟩ | ⟨rfl, rfl⟩ | ⟨rfl, rfl⟩⟩ := hrel
    · go_wp2
      go_roundw
      case rel => first | exact ⟨rfl, by simp⟩ | exact ⟨trivial, by simp⟩ | simp
      case measure => simp [intOf]
    · go_wp2
      go_roundw
      case rel => first | exact ⟨rfl, by simp⟩ | exact ⟨trivial, by simp⟩ | simp
      case measure => simp [intOf]
    · go_wp2
      go_loopw [11, 12, 13] (fun b f k wr => w = wr ∧ ((k = .int .i64 (base - 1) ∧ b = .int .i64 0 ∧ f = .bool false) ∨ (k = .int .i64 base ∧ b = .int .i64 b1 ∧ f = .bool f1) ∨ (k = .int .i64 (base + 1) ∧ b = .int .i64 b2 ∧ f = .bool f2) ∨ (k = .int .i64 (base + 2) ∧ b = .int .i64 b3 ∧ f = .bool f3))) (fun _ _ k _ => (base + 2 - intOf k).toNat)
      case atStart => exact ⟨rfl, .inl ⟨rfl, rfl, rfl⟩⟩
      case round =>
        obtain ⟨rfl, ⟨rfl, rfl, rfl⟩ | ⟨rfl, rfl, rfl⟩ | ⟨rfl, rfl, rfl⟩ | ⟨rfl, rfl, rfl⟩⟩ := hrel
        · by_cases a1 : base - 1 < 0
          · have a1' : decide (base - 1 < 0) = true := by simp; omega
            have hx : (b1, f1) = (0, false) := by rw [← H1.out]; exact ds_no (.inl (by omega))
            simp only [Prod.mk.injEq] at hx
            go_wp2
            go_roundw
            case rel => first | exact ⟨rfl, by simp [hx] <;> omega⟩ | exact ⟨trivial, by simp [hx] <;> omega⟩ | (simp [hx] <;> omega)
            case measure => simp [intOf]; try omega
          have a1' : decide (base - 1 < 0) = false := by simp; omega
          have a2 : (base - 1) * 65536 + part ≤ 4611686018427387903 := by omega
          have a2' : decide (4611686018427387903 < (base - 1) * 65536 + part) = false := by simp; omega
          have hx : (b1, f1) = ((base - 1) * 65536 + part, true) := by rw [← H1.out]; exact ds_new (by omega) (by omega) (.inl rfl)
          simp only [Prod.mk.injEq] at hx
          go_wp2
          go_roundw
          case rel => first | exact ⟨rfl, by simp [hx] <;> omega⟩ | exact ⟨trivial, by simp [hx] <;> omega⟩ | (simp [hx] <;> omega)
          case measure => simp [intOf]; try omega
        · have a1' : decide (base < 0) = false := by simp; omega
          by_cases a2 : 4611686018427387903 < base * 65536 + part
          · have a2' : decide (4611686018427387903 < base * 65536 + part) = true := by simp; omega
            have hx : (b2, f2) = (b1, f1) := by rw [← H2.out]; exact ds_no (.inr (by omega))
            simp only [Prod.mk.injEq] at hx
            go_wp2
            go_roundw
            case rel => first | exact ⟨rfl, by simp [hx] <;> omega⟩ | exact ⟨trivial, by simp [hx] <;> omega⟩ | (simp [hx] <;> omega)
            case measure => simp [intOf]; try omega
          have a2' : decide (4611686018427387903 < base * 65536 + part) = false := by simp; omega
          cases f1
          · have hx : (b2, f2) = (base * 65536 + part, true) := by rw [← H2.out]; exact ds_new (by omega) (by omega) (.inl rfl)
            simp only [Prod.mk.injEq] at hx
            go_wp2
            go_roundw
            case rel => first | exact ⟨rfl, by simp [hx] <;> omega⟩ | exact ⟨trivial, by simp [hx] <;> omega⟩ | (simp [hx] <;> omega)
            case measure => simp [intOf]; try omega
          have b0 : 0 ≤ b1 := (HB1.out rfl).1
          have bb : b1 ≤ 4611686018427387903 := (HB1.out rfl).2
          have A1 := hid (rfar_any (base * 65536 + part) want (w := w) (by omega) (by omega) w0 w1)
          have A2 := hid (rfar_any b1 want (w := w) (by omega) (by omega) w0 w1)
          have fr1 := far_range (base * 65536 + part) want (by omega) (by omega) w0 w1
          have fr2 := far_range b1 want (by omega) (by omega) w0 w1
          by_cases a4 : farN (base * 65536 + part) want ≤ farN b1 want
          · have hx : (b2, f2) = (base * 65536 + part, true) := by rw [← H2.out]; exact ds_new (by omega) (by omega) (.inr a4)
            simp only [Prod.mk.injEq] at hx
            have a4' : decide (farN (base * 65536 + part) want ≤ farN b1 want) = true := by simp; exact a4
            go_wp2_with fail
            refine A1.out.mono ?_
            rintro e w1' ⟨rfl, rfl⟩
            go_wp2_with fail
            refine A2.out.mono ?_
            rintro e w2' ⟨rfl, rfl⟩
            go_wp2
            go_roundw
            case rel => first | exact ⟨rfl, by simp [hx] <;> omega⟩ | exact ⟨trivial, by simp [hx] <;> omega⟩ | (simp [hx] <;> omega)
            case measure => simp [intOf]; try omega
          · have hx : (b2, f2) = (b1, true) := by rw [← H2.out]; exact ds_far rfl a4
            simp only [Prod.mk.injEq] at hx
            have a4' : decide (farN (base * 65536 + part) want ≤ farN b1 want) = false := by simp; omega
            go_wp2_with fail
            refine A1.out.mono ?_
            rintro e w1' ⟨rfl, rfl⟩
            go_wp2_with fail
            refine A2.out.mono ?_
            rintro e w2' ⟨rfl, rfl⟩
            go_wp2
            go_roundw
            case rel => first | exact ⟨rfl, by simp [hx] <;> omega⟩ | exact ⟨trivial, by simp [hx] <;> omega⟩ | (simp [hx] <;> omega)
            case measure => simp [intOf]; try omega
        · have a1' : decide (base + 1 < 0) = false := by simp; omega
          by_cases a2 : 4611686018427387903 < (base + 1) * 65536 + part
          · have a2' : decide (4611686018427387903 < (base + 1) * 65536 + part) = true := by simp; omega
            have hx : (b3, f3) = (b2, f2) := by rw [← H3.out]; exact ds_no (.inr (by omega))
            simp only [Prod.mk.injEq] at hx
            go_wp2
            go_roundw
            case rel => first | exact ⟨rfl, by simp [hx] <;> omega⟩ | exact ⟨trivial, by simp [hx] <;> omega⟩ | (simp [hx] <;> omega)
            case measure => simp [intOf]; try omega
          have a2' : decide (4611686018427387903 < (base + 1) * 65536 + part) = false := by simp; omega
          cases f2
          · have hx : (b3, f3) = ((base + 1) * 65536 + part, true) := by rw [← H3.out]; exact ds_new (by omega) (by omega) (.inl rfl)
            simp only [Prod.mk.injEq] at hx
            go_wp2
            go_roundw
            case rel => first | exact ⟨rfl, by simp [hx] <;> omega⟩ | exact ⟨trivial, by simp [hx] <;> omega⟩ | (simp [hx] <;> omega)
            case measure => simp [intOf]; try omega
          have b0 : 0 ≤ b2 := (HB2.out rfl).1
          have bb : b2 ≤ 4611686018427387903 := (HB2.out rfl).2
          have A1 := hid (rfar_any ((base + 1) * 65536 + part) want (w := w) (by omega) (by omega) w0 w1)
          have A2 := hid (rfar_any b2 want (w := w) (by omega) (by omega) w0 w1)
          have fr1 := far_range ((base + 1) * 65536 + part) want (by omega) (by omega) w0 w1
          have fr2 := far_range b2 want (by omega) (by omega) w0 w1
          by_cases a4 : farN ((base + 1) * 65536 + part) want ≤ farN b2 want
          · have hx : (b3, f3) = ((base + 1) * 65536 + part, true) := by rw [← H3.out]; exact ds_new (by omega) (by omega) (.inr a4)
            simp only [Prod.mk.injEq] at hx
            have a4' : decide (farN ((base + 1) * 65536 + part) want ≤ farN b2 want) = true := by simp; exact a4
            go_wp2_with fail
            refine A1.out.mono ?_
            rintro e w1' ⟨rfl, rfl⟩
            go_wp2_with fail
            refine A2.out.mono ?_
            rintro e w2' ⟨rfl, rfl⟩
            go_wp2
            go_roundw
            case rel => first | exact ⟨rfl, by simp [hx] <;> omega⟩ | exact ⟨trivial, by simp [hx] <;> omega⟩ | (simp [hx] <;> omega)
            case measure => simp [intOf]; try omega
          · have hx : (b3, f3) = (b2, true) := by rw [← H3.out]; exact ds_far rfl a4
            simp only [Prod.mk.injEq] at hx
            have a4' : decide (farN ((base + 1) * 65536 + part) want ≤ farN b2 want) = false := by simp; omega
            go_wp2_with fail
            refine A1.out.mono ?_
            rintro e w1' ⟨rfl, rfl⟩
            go_wp2_with fail
            refine A2.out.mono ?_
            rintro e w2' ⟨rfl, rfl⟩
            go_wp2
            go_roundw
            case rel => first | exact ⟨rfl, by simp [hx] <;> omega⟩ | exact ⟨trivial, by simp [hx] <;> omega⟩ | (simp [hx] <;> omega)
            case measure => simp [intOf]; try omega
        · go_wp2
          go_ret
          exact ⟨rfl, rfl⟩

set_option maxHeartbeats 8000000 in
theorem rexpand_3 (high part base want : Int) (w : World) (hw : high + 1 = want) (h1 : -1 ≤ high) (h2 : high ≤ 4611686018427387903) (p0 : 0 ≤ part) (p1 : part < 16777216) (hq : want / 16777216 = base) :
    Calls Try.prog 79 #[.int .i64 high, .int .i64 part, .int .i64 3] w fun e w' => e = .returned (.int .i64 (ds want (ds want (ds want (0, false) ((base - 1) * 16777216 + part)) (base * 16777216 + part)) ((base + 1) * 16777216 + part)).1) ∧ w = w' := by
  have w0 : 0 ≤ want := by omega
  have w1 : want ≤ 4611686018427387904 := by omega
  have HB1 := hid (ds_range (want := want) (b := (0, false)) (n := (base - 1) * 16777216 + part) (fun h => by cases h))
  have HB2 := hid (ds_range (want := want) (b := ds want (0, false) ((base - 1) * 16777216 + part)) (n := base * 16777216 + part) HB1.out)
  have base0 : 0 ≤ base := by omega
  have base1 : base ≤ 18014398509481984 := by omega
  have base2 : base * 16777216 ≤ 4611686018427387904 := by omega
  have hq' : Int.tdiv want 16777216 = base := by rw [Int.tdiv_eq_ediv_of_nonneg w0]; exact hq
  obtain ⟨⟨b1, f1⟩, hB1⟩ : ∃ d, ds want (0, false) ((base - 1) * 16777216 + part) = d := ⟨_, rfl⟩
  rw [hB1] at HB1 HB2 ⊢
  obtain ⟨⟨b2, f2⟩, hB2⟩ : ∃ d, ds want (b1, f1) (base * 16777216 + part) = d := ⟨_, rfl⟩
  rw [hB2] at HB2 ⊢
  obtain ⟨⟨b3, f3⟩, hB3⟩ : ∃ d, ds want (b2, f2) ((base + 1) * 16777216 + part) = d := ⟨_, rfl⟩
  rw [hB3]
  have H1 := hid hB1
  have H2 := hid hB2
  have H3 := hid hB3
  have HQ0 := hid hq
  clear hB1 hB2 hB3 hq
  go_enter Try.func79, Try.ntmps79
  go_wp2
  go_loopw [7, 8] (fun s j wr => w = wr ∧ ((j = .int .i64 0 ∧ s = .int .i64 1) ∨ (j = .int .i64 1 ∧ s = .int .i64 256) ∨ (j = .int .i64 2 ∧ s = .int .i64 65536) ∨ (j = .int .i64 3 ∧ s = .int .i64 16777216))) (fun _ j _ => (3 - intOf j).toNat)
  case atStart => exact ⟨rfl, .inl ⟨rfl, rfl⟩⟩
  case round =>
    obtain ⟨rfl, ⟨rfl, rfl⟩ | ⟨rfl, rfl⟩ | ⟨rfl, rfl⟩ | ⟨rfl, rfl⟩⟩ := hrel
    · go_wp2
      go_roundw
      case rel => first | exact ⟨rfl, by simp⟩ | exact ⟨trivial, by simp⟩ | simp
      case measure => simp [intOf]
    · go_wp2
      go_roundw
      case rel => first | exact ⟨rfl, by simp⟩ | exact ⟨trivial, by simp⟩ | simp
      case measure => simp [intOf]
    · go_wp2
      go_roundw
      case rel => first | exact ⟨rfl, by simp⟩ | exact ⟨trivial, by simp⟩ | simp
      case measure => simp [intOf]
    · go_wp2
      go_loopw [11, 12, 13] (fun b f k wr => w = wr ∧ ((k = .int .i64 (base - 1) ∧ b = .int .i64 0 ∧ f = .bool false) ∨ (k = .int .i64 base ∧ b = .int .i64 b1 ∧ f = .bool f1) ∨ (k = .int .i64 (base + 1) ∧ b = .int .i64 b2 ∧ f = .bool f2) ∨ (k = .int .i64 (base + 2) ∧ b = .int .i64 b3 ∧ f = .bool f3))) (fun _ _ k _ => (base + 2 - intOf k).toNat)
      case atStart => exact ⟨rfl, .inl ⟨rfl, rfl, rfl⟩⟩
      case round =>
        obtain ⟨rfl, ⟨rfl, rfl, rfl⟩ | ⟨rfl, rfl, rfl⟩ | ⟨rfl, rfl, rfl⟩ | ⟨rfl, rfl, rfl⟩⟩ := hrel
        · by_cases a1 : base - 1 < 0
          · have a1' : decide (base - 1 < 0) = true := by simp; omega
            have hx : (b1, f1) = (0, false) := by rw [← H1.out]; exact ds_no (.inl (by omega))
            simp only [Prod.mk.injEq] at hx
            go_wp2
            go_roundw
            case rel => first | exact ⟨rfl, by simp [hx] <;> omega⟩ | exact ⟨trivial, by simp [hx] <;> omega⟩ | (simp [hx] <;> omega)
            case measure => simp [intOf]; try omega
          have a1' : decide (base - 1 < 0) = false := by simp; omega
          have a2 : (base - 1) * 16777216 + part ≤ 4611686018427387903 := by omega
          have a2' : decide (4611686018427387903 < (base - 1) * 16777216 + part) = false := by simp; omega
          have hx : (b1, f1) = ((base - 1) * 16777216 + part, true) := by rw [← H1.out]; exact ds_new (by omega) (by omega) (.inl rfl)
          simp only [Prod.mk.injEq] at hx
          go_wp2
          go_roundw
          case rel => first | exact ⟨rfl, by simp [hx] <;> omega⟩ | exact ⟨trivial, by simp [hx] <;> omega⟩ | (simp [hx] <;> omega)
          case measure => simp [intOf]; try omega
        · have a1' : decide (base < 0) = false := by simp; omega
          by_cases a2 : 4611686018427387903 < base * 16777216 + part
          · have a2' : decide (4611686018427387903 < base * 16777216 + part) = true := by simp; omega
            have hx : (b2, f2) = (b1, f1) := by rw [← H2.out]; exact ds_no (.inr (by omega))
            simp only [Prod.mk.injEq] at hx
            go_wp2
            go_roundw
            case rel => first | exact ⟨rfl, by simp [hx] <;> omega⟩ | exact ⟨trivial, by simp [hx] <;> omega⟩ | (simp [hx] <;> omega)
            case measure => simp [intOf]; try omega
          have a2' : decide (4611686018427387903 < base * 16777216 + part) = false := by simp; omega
          cases f1
          · have hx : (b2, f2) = (base * 16777216 + part, true) := by rw [← H2.out]; exact ds_new (by omega) (by omega) (.inl rfl)
            simp only [Prod.mk.injEq] at hx
            go_wp2
            go_roundw
            case rel => first | exact ⟨rfl, by simp [hx] <;> omega⟩ | exact ⟨trivial, by simp [hx] <;> omega⟩ | (simp [hx] <;> omega)
            case measure => simp [intOf]; try omega
          have b0 : 0 ≤ b1 := (HB1.out rfl).1
          have bb : b1 ≤ 4611686018427387903 := (HB1.out rfl).2
          have A1 := hid (rfar_any (base * 16777216 + part) want (w := w) (by omega) (by omega) w0 w1)
          have A2 := hid (rfar_any b1 want (w := w) (by omega) (by omega) w0 w1)
          have fr1 := far_range (base * 16777216 + part) want (by omega) (by omega) w0 w1
          have fr2 := far_range b1 want (by omega) (by omega) w0 w1
          by_cases a4 : farN (base * 16777216 + part) want ≤ farN b1 want
          · have hx : (b2, f2) = (base * 16777216 + part, true) := by rw [← H2.out]; exact ds_new (by omega) (by omega) (.inr a4)
            simp only [Prod.mk.injEq] at hx
            have a4' : decide (farN (base * 16777216 + part) want ≤ farN b1 want) = true := by simp; exact a4
            go_wp2_with fail
            refine A1.out.mono ?_
            rintro e w1' ⟨rfl, rfl⟩
            go_wp2_with fail
            refine A2.out.mono ?_
            rintro e w2' ⟨rfl, rfl⟩
            go_wp2
            go_roundw
            case rel => first | exact ⟨rfl, by simp [hx] <;> omega⟩ | exact ⟨trivial, by simp [hx] <;> omega⟩ | (simp [hx] <;> omega)
            case measure => simp [intOf]; try omega
          · have hx : (b2, f2) = (b1, true) := by rw [← H2.out]; exact ds_far rfl a4
            simp only [Prod.mk.injEq] at hx
            have a4' : decide (farN (base * 16777216 + part) want ≤ farN b1 want) = false := by simp; omega
            go_wp2_with fail
            refine A1.out.mono ?_
            rintro e w1' ⟨rfl, rfl⟩
            go_wp2_with fail
            refine A2.out.mono ?_
            rintro e w2' ⟨rfl, rfl⟩
            go_wp2
            go_roundw
            case rel => first | exact ⟨rfl, by simp [hx] <;> omega⟩ | exact ⟨trivial, by simp [hx] <;> omega⟩ | (simp [hx] <;> omega)
            case measure => simp [intOf]; try omega
        · have a1' : decide (base + 1 < 0) = false := by simp; omega
          by_cases a2 : 4611686018427387903 < (base + 1) * 16777216 + part
          · have a2' : decide (4611686018427387903 < (base + 1) * 16777216 + part) = true := by simp; omega
            have hx : (b3, f3) = (b2, f2) := by rw [← H3.out]; exact ds_no (.inr (by omega))
            simp only [Prod.mk.injEq] at hx
            go_wp2
            go_roundw
            case rel => first | exact ⟨rfl, by simp [hx] <;> omega⟩ | exact ⟨trivial, by simp [hx] <;> omega⟩ | (simp [hx] <;> omega)
            case measure => simp [intOf]; try omega
          have a2' : decide (4611686018427387903 < (base + 1) * 16777216 + part) = false := by simp; omega
          cases f2
          · have hx : (b3, f3) = ((base + 1) * 16777216 + part, true) := by rw [← H3.out]; exact ds_new (by omega) (by omega) (.inl rfl)
            simp only [Prod.mk.injEq] at hx
            go_wp2
            go_roundw
            case rel => first | exact ⟨rfl, by simp [hx] <;> omega⟩ | exact ⟨trivial, by simp [hx] <;> omega⟩ | (simp [hx] <;> omega)
            case measure => simp [intOf]; try omega
          have b0 : 0 ≤ b2 := (HB2.out rfl).1
          have bb : b2 ≤ 4611686018427387903 := (HB2.out rfl).2
          have A1 := hid (rfar_any ((base + 1) * 16777216 + part) want (w := w) (by omega) (by omega) w0 w1)
          have A2 := hid (rfar_any b2 want (w := w) (by omega) (by omega) w0 w1)
          have fr1 := far_range ((base + 1) * 16777216 + part) want (by omega) (by omega) w0 w1
          have fr2 := far_range b2 want (by omega) (by omega) w0 w1
          by_cases a4 : farN ((base + 1) * 16777216 + part) want ≤ farN b2 want
          · have hx : (b3, f3) = ((base + 1) * 16777216 + part, true) := by rw [← H3.out]; exact ds_new (by omega) (by omega) (.inr a4)
            simp only [Prod.mk.injEq] at hx
            have a4' : decide (farN ((base + 1) * 16777216 + part) want ≤ farN b2 want) = true := by simp; exact a4
            go_wp2_with fail
            refine A1.out.mono ?_
            rintro e w1' ⟨rfl, rfl⟩
            go_wp2_with fail
            refine A2.out.mono ?_
            rintro e w2' ⟨rfl, rfl⟩
            go_wp2
            go_roundw
            case rel => first | exact ⟨rfl, by simp [hx] <;> omega⟩ | exact ⟨trivial, by simp [hx] <;> omega⟩ | (simp [hx] <;> omega)
            case measure => simp [intOf]; try omega
          · have hx : (b3, f3) = (b2, true) := by rw [← H3.out]; exact ds_far rfl a4
            simp only [Prod.mk.injEq] at hx
            have a4' : decide (farN ((base + 1) * 16777216 + part) want ≤ farN b2 want) = false := by simp; omega
            go_wp2_with fail
            refine A1.out.mono ?_
            rintro e w1' ⟨rfl, rfl⟩
            go_wp2_with fail
            refine A2.out.mono ?_
            rintro e w2' ⟨rfl, rfl⟩
            go_wp2
            go_roundw
            case rel => first | exact ⟨rfl, by simp [hx] <;> omega⟩ | exact ⟨trivial, by simp [hx] <;> omega⟩ | (simp [hx] <;> omega)
            case measure => simp [intOf]; try omega
        · go_wp2
          go_ret
          exact ⟨rfl, rfl⟩

set_option maxHeartbeats 8000000 in
theorem rexpand_4 (high part base want : Int) (w : World) (hw : high + 1 = want) (h1 : -1 ≤ high) (h2 : high ≤ 4611686018427387903) (p0 : 0 ≤ part) (p1 : part < 4294967296) (hq : want / 4294967296 = base) :
    Calls Try.prog 79 #[.int .i64 high, .int .i64 part, .int .i64 4] w fun e w' => e = .returned (.int .i64 (ds want (ds want (ds want (0, false) ((base - 1) * 4294967296 + part)) (base * 4294967296 + part)) ((base + 1) * 4294967296 + part)).1) ∧ w = w' := by
  have w0 : 0 ≤ want := by omega
  have w1 : want ≤ 4611686018427387904 := by omega
  have HB1 := hid (ds_range (want := want) (b := (0, false)) (n := (base - 1) * 4294967296 + part) (fun h => by cases h))
  have HB2 := hid (ds_range (want := want) (b := ds want (0, false) ((base - 1) * 4294967296 + part)) (n := base * 4294967296 + part) HB1.out)
  have base0 : 0 ≤ base := by omega
  have base1 : base ≤ 18014398509481984 := by omega
  have base2 : base * 4294967296 ≤ 4611686018427387904 := by omega
  have hq' : Int.tdiv want 4294967296 = base := by rw [Int.tdiv_eq_ediv_of_nonneg w0]; exact hq
  obtain ⟨⟨b1, f1⟩, hB1⟩ : ∃ d, ds want (0, false) ((base - 1) * 4294967296 + part) = d := ⟨_, rfl⟩
  rw [hB1] at HB1 HB2 ⊢
  obtain ⟨⟨b2, f2⟩, hB2⟩ : ∃ d, ds want (b1, f1) (base * 4294967296 + part) = d := ⟨_, rfl⟩
  rw [hB2] at HB2 ⊢
  obtain ⟨⟨b3, f3⟩, hB3⟩ : ∃ d, ds want (b2, f2) ((base + 1) * 4294967296 + part) = d := ⟨_, rfl⟩
  rw [hB3]
  have H1 := hid hB1
  have H2 := hid hB2
  have H3 := hid hB3
  have HQ0 := hid hq
  clear hB1 hB2 hB3 hq
  go_enter Try.func79, Try.ntmps79
  go_wp2
  go_loopw [7, 8] (fun s j wr => w = wr ∧ ((j = .int .i64 0 ∧ s = .int .i64 1) ∨ (j = .int .i64 1 ∧ s = .int .i64 256) ∨ (j = .int .i64 2 ∧ s = .int .i64 65536) ∨ (j = .int .i64 3 ∧ s = .int .i64 16777216) ∨ (j = .int .i64 4 ∧ s = .int .i64 4294967296))) (fun _ j _ => (4 - intOf j).toNat)
  case atStart => exact ⟨rfl, .inl ⟨rfl, rfl⟩⟩
  case round =>
    obtain ⟨rfl, ⟨rfl, rfl⟩ | ⟨rfl, rfl⟩ | ⟨rfl, rfl⟩ | ⟨rfl, rfl⟩ | ⟨rfl, rfl⟩⟩ := hrel
    · go_wp2
      go_roundw
      case rel => first | exact ⟨rfl, by simp⟩ | exact ⟨trivial, by simp⟩ | simp
      case measure => simp [intOf]
    · go_wp2
      go_roundw
      case rel => first | exact ⟨rfl, by simp⟩ | exact ⟨trivial, by simp⟩ | simp
      case measure => simp [intOf]
    · go_wp2
      go_roundw
      case rel => first | exact ⟨rfl, by simp⟩ | exact ⟨trivial, by simp⟩ | simp
      case measure => simp [intOf]
    · go_wp2
      go_roundw
      case rel => first | exact ⟨rfl, by simp⟩ | exact ⟨trivial, by simp⟩ | simp
      case measure => simp [intOf]
    · go_wp2
      go_loopw [11, 12, 13] (fun b f k wr => w = wr ∧ ((k = .int .i64 (base - 1) ∧ b = .int .i64 0 ∧ f = .bool false) ∨ (k = .int .i64 base ∧ b = .int .i64 b1 ∧ f = .bool f1) ∨ (k = .int .i64 (base + 1) ∧ b = .int .i64 b2 ∧ f = .bool f2) ∨ (k = .int .i64 (base + 2) ∧ b = .int .i64 b3 ∧ f = .bool f3))) (fun _ _ k _ => (base + 2 - intOf k).toNat)
      case atStart => exact ⟨rfl, .inl ⟨rfl, rfl, rfl⟩⟩
      case round =>
        obtain ⟨rfl, ⟨rfl, rfl, rfl⟩ | ⟨rfl, rfl, rfl⟩ | ⟨rfl, rfl, rfl⟩ | ⟨rfl, rfl, rfl⟩⟩ := hrel
        · by_cases a1 : base - 1 < 0
          · have a1' : decide (base - 1 < 0) = true := by simp; omega
            have hx : (b1, f1) = (0, false) := by rw [← H1.out]; exact ds_no (.inl (by omega))
            simp only [Prod.mk.injEq] at hx
            go_wp2
            go_roundw
            case rel => first | exact ⟨rfl, by simp [hx] <;> omega⟩ | exact ⟨trivial, by simp [hx] <;> omega⟩ | (simp [hx] <;> omega)
            case measure => simp [intOf]; try omega
          have a1' : decide (base - 1 < 0) = false := by simp; omega
          have a2 : (base - 1) * 4294967296 + part ≤ 4611686018427387903 := by omega
          have a2' : decide (4611686018427387903 < (base - 1) * 4294967296 + part) = false := by simp; omega
          have hx : (b1, f1) = ((base - 1) * 4294967296 + part, true) := by rw [← H1.out]; exact ds_new (by omega) (by omega) (.inl rfl)
          simp only [Prod.mk.injEq] at hx
          go_wp2
          go_roundw
          case rel => first | exact ⟨rfl, by simp [hx] <;> omega⟩ | exact ⟨trivial, by simp [hx] <;> omega⟩ | (simp [hx] <;> omega)
          case measure => simp [intOf]; try omega
        · have a1' : decide (base < 0) = false := by simp; omega
          by_cases a2 : 4611686018427387903 < base * 4294967296 + part
          · have a2' : decide (4611686018427387903 < base * 4294967296 + part) = true := by simp; omega
            have hx : (b2, f2) = (b1, f1) := by rw [← H2.out]; exact ds_no (.inr (by omega))
            simp only [Prod.mk.injEq] at hx
            go_wp2
            go_roundw
            case rel => first | exact ⟨rfl, by simp [hx] <;> omega⟩ | exact ⟨trivial, by simp [hx] <;> omega⟩ | (simp [hx] <;> omega)
            case measure => simp [intOf]; try omega
          have a2' : decide (4611686018427387903 < base * 4294967296 + part) = false := by simp; omega
          cases f1
          · have hx : (b2, f2) = (base * 4294967296 + part, true) := by rw [← H2.out]; exact ds_new (by omega) (by omega) (.inl rfl)
            simp only [Prod.mk.injEq] at hx
            go_wp2
            go_roundw
            case rel => first | exact ⟨rfl, by simp [hx] <;> omega⟩ | exact ⟨trivial, by simp [hx] <;> omega⟩ | (simp [hx] <;> omega)
            case measure => simp [intOf]; try omega
          have b0 : 0 ≤ b1 := (HB1.out rfl).1
          have bb : b1 ≤ 4611686018427387903 := (HB1.out rfl).2
          have A1 := hid (rfar_any (base * 4294967296 + part) want (w := w) (by omega) (by omega) w0 w1)
          have A2 := hid (rfar_any b1 want (w := w) (by omega) (by omega) w0 w1)
          have fr1 := far_range (base * 4294967296 + part) want (by omega) (by omega) w0 w1
          have fr2 := far_range b1 want (by omega) (by omega) w0 w1
          by_cases a4 : farN (base * 4294967296 + part) want ≤ farN b1 want
          · have hx : (b2, f2) = (base * 4294967296 + part, true) := by rw [← H2.out]; exact ds_new (by omega) (by omega) (.inr a4)
            simp only [Prod.mk.injEq] at hx
            have a4' : decide (farN (base * 4294967296 + part) want ≤ farN b1 want) = true := by simp; exact a4
            go_wp2_with fail
            refine A1.out.mono ?_
            rintro e w1' ⟨rfl, rfl⟩
            go_wp2_with fail
            refine A2.out.mono ?_
            rintro e w2' ⟨rfl, rfl⟩
            go_wp2
            go_roundw
            case rel => first | exact ⟨rfl, by simp [hx] <;> omega⟩ | exact ⟨trivial, by simp [hx] <;> omega⟩ | (simp [hx] <;> omega)
            case measure => simp [intOf]; try omega
          · have hx : (b2, f2) = (b1, true) := by rw [← H2.out]; exact ds_far rfl a4
            simp only [Prod.mk.injEq] at hx
            have a4' : decide (farN (base * 4294967296 + part) want ≤ farN b1 want) = false := by simp; omega
            go_wp2_with fail
            refine A1.out.mono ?_
            rintro e w1' ⟨rfl, rfl⟩
            go_wp2_with fail
            refine A2.out.mono ?_
            rintro e w2' ⟨rfl, rfl⟩
            go_wp2
            go_roundw
            case rel => first | exact ⟨rfl, by simp [hx] <;> omega⟩ | exact ⟨trivial, by simp [hx] <;> omega⟩ | (simp [hx] <;> omega)
            case measure => simp [intOf]; try omega
        · have a1' : decide (base + 1 < 0) = false := by simp; omega
          by_cases a2 : 4611686018427387903 < (base + 1) * 4294967296 + part
          · have a2' : decide (4611686018427387903 < (base + 1) * 4294967296 + part) = true := by simp; omega
            have hx : (b3, f3) = (b2, f2) := by rw [← H3.out]; exact ds_no (.inr (by omega))
            simp only [Prod.mk.injEq] at hx
            go_wp2
            go_roundw
            case rel => first | exact ⟨rfl, by simp [hx] <;> omega⟩ | exact ⟨trivial, by simp [hx] <;> omega⟩ | (simp [hx] <;> omega)
            case measure => simp [intOf]; try omega
          have a2' : decide (4611686018427387903 < (base + 1) * 4294967296 + part) = false := by simp; omega
          cases f2
          · have hx : (b3, f3) = ((base + 1) * 4294967296 + part, true) := by rw [← H3.out]; exact ds_new (by omega) (by omega) (.inl rfl)
            simp only [Prod.mk.injEq] at hx
            go_wp2
            go_roundw
            case rel => first | exact ⟨rfl, by simp [hx] <;> omega⟩ | exact ⟨trivial, by simp [hx] <;> omega⟩ | (simp [hx] <;> omega)
            case measure => simp [intOf]; try omega
          have b0 : 0 ≤ b2 := (HB2.out rfl).1
          have bb : b2 ≤ 4611686018427387903 := (HB2.out rfl).2
          have A1 := hid (rfar_any ((base + 1) * 4294967296 + part) want (w := w) (by omega) (by omega) w0 w1)
          have A2 := hid (rfar_any b2 want (w := w) (by omega) (by omega) w0 w1)
          have fr1 := far_range ((base + 1) * 4294967296 + part) want (by omega) (by omega) w0 w1
          have fr2 := far_range b2 want (by omega) (by omega) w0 w1
          by_cases a4 : farN ((base + 1) * 4294967296 + part) want ≤ farN b2 want
          · have hx : (b3, f3) = ((base + 1) * 4294967296 + part, true) := by rw [← H3.out]; exact ds_new (by omega) (by omega) (.inr a4)
            simp only [Prod.mk.injEq] at hx
            have a4' : decide (farN ((base + 1) * 4294967296 + part) want ≤ farN b2 want) = true := by simp; exact a4
            go_wp2_with fail
            refine A1.out.mono ?_
            rintro e w1' ⟨rfl, rfl⟩
            go_wp2_with fail
            refine A2.out.mono ?_
            rintro e w2' ⟨rfl, rfl⟩
            go_wp2
            go_roundw
            case rel => first | exact ⟨rfl, by simp [hx] <;> omega⟩ | exact ⟨trivial, by simp [hx] <;> omega⟩ | (simp [hx] <;> omega)
            case measure => simp [intOf]; try omega
          · have hx : (b3, f3) = (b2, true) := by rw [← H3.out]; exact ds_far rfl a4
            simp only [Prod.mk.injEq] at hx
            have a4' : decide (farN ((base + 1) * 4294967296 + part) want ≤ farN b2 want) = false := by simp; omega
            go_wp2_with fail
            refine A1.out.mono ?_
            rintro e w1' ⟨rfl, rfl⟩
            go_wp2_with fail
            refine A2.out.mono ?_
            rintro e w2' ⟨rfl, rfl⟩
            go_wp2
            go_roundw
            case rel => first | exact ⟨rfl, by simp [hx] <;> omega⟩ | exact ⟨trivial, by simp [hx] <;> omega⟩ | (simp [hx] <;> omega)
            case measure => simp [intOf]; try omega
        · go_wp2
          go_ret
          exact ⟨rfl, rfl⟩
end Go.Proofs.Ytihmlfpfpadfpaa
