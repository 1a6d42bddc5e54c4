/-
  Whether a rune stands in a text of ASCII bytes: contracts that the statements' walks use.
-/
import Derived.Test.YtclapheglgiokaaDoorRnB
import Derived.Lib.BytesEntry
import Derived.Lib.Walk
import Derived.Laws.BytesArg
import Derived.BigRegion
namespace Go.Proofs.YtclapheglgiokaaDoor
open Go.RowKit
set_option linter.unusedVariables false
set_option maxRecDepth 20000

theorem ixa_any (s : ByteArray) (c : Int) (w : World) : Calls Tryd.prog 123 #[.string s, .int .u8 c] w fun e w' => e = .returned (.int .i64 (Lib.indexByte s.data.toList c.toNat.toUInt8)) ∧ w' = w := by
  have key := Lib.run_indexByteString (P := Tryd.prog) s c w
  generalize Lib.indexByte s.data.toList c.toNat.toUInt8 = v at *
  go_enter Tryd.func123, Tryd.ntmps123
  go_wp2
  rw [run_callFunc_extern Tryd.func129 (by kernel_rfl) (by kernel_rfl) (by kernel_rfl) (e := Extern.BytealgIndexByte.indexByte) (by kernel_rfl), key]
  simp only [Result.andThen]
  rw [Oper.upon_value]
  go_wp2
  go_ret
  exact ⟨rfl, rfl⟩
theorem ixb_any (s : ByteArray) (c : Int) (w : World) : Calls Tryd.prog 127 #[.string s, .int .u8 c] w fun e w' => e = .returned (.int .i64 (Lib.indexByte s.data.toList c.toNat.toUInt8)) ∧ w' = w := by
  have key := hid (ixa_any s c w)
  generalize Lib.indexByte s.data.toList c.toNat.toUInt8 = v at *
  go_enter Tryd.func127, Tryd.ntmps127
  go_wp2_with (go_at_call 123; refine key.out.mono ?_; rintro e w1 ⟨rfl, rfl⟩)
  go_ret
  exact ⟨rfl, rfl⟩
theorem ix_no (l : List UInt8) (c : UInt8) (h : ∀ b ∈ l, b ≠ c) : Lib.indexByte l c = -1 := by
  induction l with
  | nil => rfl
  | cons b t ih =>
    have h1 : b ≠ c := h b (by simp)
    have := ih (fun x hx => h x (by simp [hx]))
    simp [Lib.indexByte, h1, this]
theorem ix_lo (l : List UInt8) (c : UInt8) : -1 ≤ Lib.indexByte l c := by
  induction l with
  | nil => exact Int.le_refl _
  | cons b t ih =>
    unfold Lib.indexByte
    split
    · omega
    · split <;> omega
theorem ix_ge (l : List UInt8) (c : UInt8) : (decide (0 ≤ Lib.indexByte l c)) = l.contains c := by
  induction l with
  | nil => rfl
  | cons b t ih =>
    have hl := ix_lo t c
    rw [List.contains_cons, ← ih]
    by_cases h : b = c
    · subst h; simp [Lib.indexByte]
    · have e2 : (c == b) = false := by simpa using fun e => h e.symm
      have e3 : (b == c) = false := by simpa using h
      have e4 : Lib.indexByte (b :: t) c = if (Lib.indexByte t c == -1) = true then -1 else Lib.indexByte t c + 1 := by
        conv => lhs; unfold Lib.indexByte
        rw [e3]; rfl
      rw [e2, Bool.false_or, e4]
      by_cases h3 : Lib.indexByte t c = -1
      · rw [if_pos (by simpa using h3), h3]
      · rw [if_neg (by simpa using h3), decide_eq_decide]; omega
/-- A rune that may be written, or not. -/
theorem valid_any (r : Nat) (w : World) : ∃ b, Calls Tryd.prog 128 #[.int .i32 r] w fun e w' => e = .returned (.bool b) ∧ w' = w := by
  by_cases h1 : r < 55296
  · refine ⟨true, ?_⟩
    have a0 : (0 : Int) ≤ (r : Int) := by omega
    have a1 : (r : Int) < 55296 := by omega
    go_enter Tryd.func128, Tryd.ntmps128
    go_wp2
    go_ret
    exact ⟨rfl, rfl⟩
  · have a0 : (0 : Int) ≤ (r : Int) := by omega
    have a1 : ¬ (r : Int) < 55296 := by omega
    by_cases h2 : 57343 < r
    · have a2 : (57343 : Int) < (r : Int) := by omega
      by_cases h3 : r ≤ 1114111
      · have a3 : (r : Int) ≤ 1114111 := by omega
        refine ⟨true, ?_⟩
        go_enter Tryd.func128, Tryd.ntmps128
        go_wp2
        go_ret
        exact ⟨rfl, rfl⟩
      · have a3 : ¬ (r : Int) ≤ 1114111 := by omega
        refine ⟨false, ?_⟩
        go_enter Tryd.func128, Tryd.ntmps128
        go_wp2
        go_ret
        exact ⟨rfl, rfl⟩
    · have a2 : ¬ (57343 : Int) < (r : Int) := by omega
      refine ⟨false, ?_⟩
      go_enter Tryd.func128, Tryd.ntmps128
      go_wp2
      go_ret
      exact ⟨rfl, rfl⟩
theorem enc_c (r : Nat) (h : 128 ≤ r) : ∃ c : Nat, 128 ≤ c ∧ c < 1114112 ∧ (if Utf8.valid (r : Int) then (r : Int).toNat else Utf8.runeError) = c := by
  by_cases hv : Utf8.valid (r : Int) = true
  · refine ⟨r, h, ?_, by rw [if_pos hv]; rfl⟩
    unfold Utf8.valid at hv
    simp only [Bool.or_eq_true, Bool.and_eq_true, decide_eq_true_eq] at hv
    omega
  · exact ⟨65533, by omega, by omega, by rw [if_neg hv]; rfl⟩
theorem enc_two (c : Nat) (r : Int) (h1 : 128 ≤ c) (g1 : c < 2048) (he : (if Utf8.valid r then r.toNat else Utf8.runeError) = c) : Utf8.encode r = ⟨[UInt8.ofNat (0xC0 + c / 64), UInt8.ofNat (0x80 + c % 64)].toArray⟩ := by
  unfold Utf8.encode
  simp only [he]
  rw [if_neg (by omega), if_pos g1]
theorem enc_three (c : Nat) (r : Int) (h1 : ¬ c < 2048) (g1 : c < 65536) (he : (if Utf8.valid r then r.toNat else Utf8.runeError) = c) : Utf8.encode r = ⟨[UInt8.ofNat (0xE0 + c / 4096), UInt8.ofNat (0x80 + c / 64 % 64), UInt8.ofNat (0x80 + c % 64)].toArray⟩ := by
  unfold Utf8.encode
  simp only [he]
  rw [if_neg (by omega), if_neg h1, if_pos g1]
theorem enc_four (c : Nat) (r : Int) (h1 : ¬ c < 65536) (he : (if Utf8.valid r then r.toNat else Utf8.runeError) = c) : Utf8.encode r = ⟨[UInt8.ofNat (0xF0 + c / 262144), UInt8.ofNat (0x80 + c / 4096 % 64), UInt8.ofNat (0x80 + c / 64 % 64), UInt8.ofNat (0x80 + c % 64)].toArray⟩ := by
  unfold Utf8.encode
  simp only [he]
  rw [if_neg (by omega), if_neg (by omega), if_neg h1]
theorem o_high (n : Nat) (h1 : 128 ≤ n) (h2 : n < 256) : 128 ≤ (UInt8.ofNat n).toNat := by rw [UInt8.toNat_ofNat']; omega
theorem enc_key (e : ByteArray) : ∀ l : List UInt8, e = ⟨l.toArray⟩ → 2 ≤ l.length → l.length ≤ 4 → (∀ b ∈ l, 128 ≤ b.toNat) → 2 ≤ e.size ∧ e.size ≤ 4 ∧ ∀ j (hj : j < e.size), 128 ≤ (e[j]'hj).toNat := by
    intro l e a1 a2 a3
    subst e
    refine ⟨a1, a2, fun j hj => a3 _ ?_⟩
    have hj' : j < l.length := hj
    show l.toArray[j] ∈ l
    simp
theorem enc_high (r : Nat) (h : 128 ≤ r) (E : ByteArray) (hE : Utf8.encode (r : Int) = E) : 2 ≤ E.size ∧ E.size ≤ 4 ∧ ∀ j (hj : j < E.size), 128 ≤ (E[j]'hj).toNat := by
  obtain ⟨c, h1, h2, he⟩ := enc_c r h
  by_cases g1 : c < 2048
  · refine enc_key _ _ (hE.symm.trans (enc_two c _ h1 g1 he)) (Nat.le_refl _) (by show 2 ≤ 4; omega) ?_
    intro b hb
    simp only [List.mem_cons, List.not_mem_nil, or_false] at hb
    rcases hb with rfl | rfl <;> exact o_high _ (by omega) (by omega)
  · by_cases g2 : c < 65536
    · refine enc_key _ _ (hE.symm.trans (enc_three c _ g1 g2 he)) (by show 2 ≤ 3; omega) (by show 3 ≤ 4; omega) ?_
      intro b hb
      simp only [List.mem_cons, List.not_mem_nil, or_false] at hb
      rcases hb with rfl | rfl | rfl <;> exact o_high _ (by omega) (by omega)
    · refine enc_key _ _ (hE.symm.trans (enc_four c _ g2 he)) (by show 2 ≤ 4; omega) (Nat.le_refl _) ?_
      intro b hb
      simp only [List.mem_cons, List.not_mem_nil, or_false] at hb
      rcases hb with rfl | rfl | rfl | rfl <;> exact o_high _ (by omega) (by omega)
theorem conv_rune (r : Nat) (W : World) : (convert 21 9 (.int .i32 r)).run Tryd.prog W = .ok (.string (Utf8.encode (r : Int))) W := by kernel_rfl
/-- A text of ASCII bytes, four at least. -/
structure Asc (m : ByteArray) : Prop where
  four : 4 ≤ m.size
  most : m.size ≤ 100
  low : ∀ j (h : j < m.size), (m[j]'h).toNat < 128
theorem asc_mem {m : ByteArray} (h : Asc m) : ∀ b ∈ m.data.toList, b.toNat < 128 := by
  intro b hb
  obtain ⟨j, hj, rfl⟩ := List.mem_iff_getElem.1 hb
  exact h.low j (by simpa using hj)
/-- Whether a rune stands there. -/
def hasR (m : ByteArray) (r : Nat) : Bool := m.data.toList.any fun b => decide (b.toNat = r)
theorem hasR_high {m : ByteArray} (h : Asc m) {r : Nat} (hr : 128 ≤ r) : hasR m r = false := by
  unfold hasR
  rw [List.any_eq_false]
  intro b hb e
  have := asc_mem h b hb
  simp at e
  omega
theorem hasR_low (m : ByteArray) {r : Nat} (hr : r < 128) : decide (0 ≤ Lib.indexByte m.data.toList ((r : Int).toNat.toUInt8)) = hasR m r := by
  rw [ix_ge]
  unfold hasR
  have hc : ((r : Int).toNat.toUInt8).toNat = r := by
    rw [Int.toNat_natCast]
    show (UInt8.ofNat r).toNat = r
    rw [UInt8.toNat_ofNat']; omega
  generalize (r : Int).toNat.toUInt8 = c at *
  subst hc
  rw [List.contains_eq_any_beq]
  congr 1
  funext b
  rw [Bool.eq_iff_iff]
  simp only [beq_iff_eq, decide_eq_true_eq]
  constructor
  · intro e; rw [e]
  · intro e; exact (UInt8.toNat_inj.1 e).symm
theorem ext_all (m : ByteArray) (i : Nat) : (m.extract i m.size).data.toList = m.data.toList.drop i := by
  rw [ByteArray.data_extract]
  simp [List.extract_eq_take_drop]
  rw [List.take_of_length_le (by simp)]
end Go.Proofs.YtclapheglgiokaaDoor
