/-
  What holds and rightSpans answer: contracts that the statements' walks use.
-/
import Derived.Test.YtjhihcmemnhbbaaLs
import Derived.BigRegion
namespace Go.Proofs.Ytjhihcmemnhbbaa
open Go.RowKit
set_option linter.unusedVariables false
set_option maxRecDepth 20000

def cmpS (x : Spn) (n : Int) : Int := if x.2 < n then -1 else if n < x.1 then 1 else 0
theorem cmp_any (x : Spn) (n : Int) (w : World) : Calls Try.prog 40 #[.agg #[.int .i64 x.1, .int .i64 x.2], .int .i64 n] w fun e w' => e = .returned (.int .i64 (cmpS x n)) ∧ Q w w' := by
  by_cases h1 : x.2 < n
  · have b1 : decide (x.2 < n) = true := by simp [h1]
    have HE := hid (show cmpS x n = -1 by unfold cmpS; rw [if_pos h1])
    clear h1
    go_enter Try.func40, Try.ntmps40
    go_wp2
    go_ret
    exact ⟨ret_int HE.out.symm, (Q.refl w).alloc _⟩
  · have b1 : decide (x.2 < n) = false := by simp [h1]
    by_cases h2 : n < x.1
    · have b2 : decide (n < x.1) = true := by simp [h2]
      have HE := hid (show cmpS x n = 1 by unfold cmpS; rw [if_neg h1, if_pos h2])
      clear h1 h2
      go_enter Try.func40, Try.ntmps40
      go_wp2
      go_ret
      exact ⟨ret_int HE.out.symm, (Q.refl w).alloc _⟩
    · have b2 : decide (n < x.1) = false := by simp [h2]
      have HE := hid (show cmpS x n = 0 by unfold cmpS; rw [if_neg h1, if_neg h2])
      clear h1 h2
      go_enter Try.func40, Try.ntmps40
      go_wp2
      go_ret
      exact ⟨ret_int HE.out.symm, (Q.refl w).alloc _⟩

/-- Is a number in spans? -/
def inS (l : List Spn) (n : Int) : Bool := l.any fun x => decide (x.1 ≤ n) && decide (n ≤ x.2)
def gS (l : List Spn) (i : Nat) : Spn := l.getD i (0, 0)
theorem srt_lt {l : List Spn} (h : Srt l) {i j : Nat} (hij : i < j) (hj : j < l.length) : (gS l i).2 < (gS l j).1 := by
  induction l generalizing i j with
  | nil => simp at hj
  | cons x r ih =>
    obtain ⟨h0, h1, h2, h3, h4⟩ := h
    cases j with
    | zero => omega
    | succ j =>
      have hj' : j < r.length := by simp at hj; omega
      cases i with
      | zero =>
        refine h3 _ ?_
        show r.getD j (0, 0) ∈ r
        rw [List.getD_eq_getElem?_getD, List.getElem?_eq_getElem hj']; exact List.getElem_mem _
      | succ i => exact ih h4 (by omega) hj'
theorem srt_at {l : List Spn} (h : Srt l) {i : Nat} (hi : i < l.length) : 0 ≤ (gS l i).1 ∧ (gS l i).1 ≤ (gS l i).2 := by
  induction l generalizing i with
  | nil => simp at hi
  | cons x r ih =>
    obtain ⟨h0, h1, h2, h3, h4⟩ := h
    cases i with
    | zero => exact ⟨h0, h1⟩
    | succ i => exact ih h4 (by simp at hi; omega)
theorem inS_iff (l : List Spn) (n : Int) : inS l n = true ↔ ∃ i, i < l.length ∧ (gS l i).1 ≤ n ∧ n ≤ (gS l i).2 := by
  unfold inS
  rw [List.any_eq_true]
  constructor
  · rintro ⟨x, hx, h⟩
    obtain ⟨i, hi, rfl⟩ := List.getElem_of_mem hx
    refine ⟨i, hi, ?_⟩
    have : gS l i = l[i] := by unfold gS; rw [List.getD_eq_getElem?_getD, List.getElem?_eq_getElem hi]; rfl
    rw [this]; simpa using h
  · rintro ⟨i, hi, h⟩
    have : gS l i = l[i] := by unfold gS; rw [List.getD_eq_getElem?_getD, List.getElem?_eq_getElem hi]; rfl
    rw [this] at h
    exact ⟨l[i], List.getElem_mem _, by simpa using h⟩
/-- What the search knows: all spans ahead of i end below n, none from j on does. -/
structure BInv (l : List Spn) (n : Int) (i j : Nat) : Prop where
  lo : ∀ t, t < i → (gS l t).2 < n
  hi : ∀ t, j ≤ t → t < l.length → ¬ (gS l t).2 < n
  le : i ≤ j
  len : j ≤ l.length
theorem binv_end {l : List Spn} {n : Int} {i : Nat} (hs : Srt l) (h : BInv l n i i) : inS l n = (decide (i < l.length) && decide ((gS l i).1 ≤ n)) := by
  rw [Bool.eq_iff_iff, inS_iff, Bool.and_eq_true, decide_eq_true_eq, decide_eq_true_eq]
  constructor
  · rintro ⟨t, ht, h1, h2⟩
    rcases Nat.lt_trichotomy t i with e | e | e
    · have := h.lo t e; omega
    · subst e; exact ⟨ht, h1⟩
    · have h3 := srt_lt hs e ht
      have h4 := h.hi i (Nat.le_refl _) (by omega)
      have h5 := h.hi t (by omega) ht
      exact ⟨by omega, by have := srt_at hs (i := i) (by omega); omega⟩
  · rintro ⟨h1, h2⟩
    exact ⟨i, h1, h2, by have := h.hi i (Nat.le_refl _) h1; omega⟩

set_option maxHeartbeats 4000000 in
theorem bsearch_any {w : World} {a : Option Addr} {m c : Nat} {l : List Spn} (ht : SegS w a l) (hl : l.length = m) (hs : Srt l) (hm : m ≤ 4611686018427387904) (n : Int) :
    Calls Try.prog 39 #[.slice a m c, .int .i64 n, .func (.func 40) #[] #[]] w fun e w' => ∃ i : Int, e = .returned (.tuple #[.int .i64 i, .bool (inS l n)]) ∧ Q w w' := by
  have HT := hid ht
  have HL := hid hl
  have HS := hid hs
  have HM := hid hm
  clear ht hl hs
  go_enter Try.func39, Try.ntmps39
  go_wp2
  go_loopw [9, 10] (fun x y wr => ∃ i j : Nat, x = .int .i64 i ∧ y = .int .i64 j ∧ BInv l n i j ∧ Q w wr) (fun x y _ => (intOf y).toNat - (intOf x).toNat)
  case atStart => exact ⟨0, m, rfl, rfl, ⟨fun t ht => by omega, fun t h1 h2 => by have := HL.out; omega, by omega, by have := HL.out; omega⟩, Q.refl w⟩
  case round =>
    obtain ⟨i, j, rfl, rfl, hB, hq⟩ := hrel
    have hjm : j ≤ m := by have := hB.len; have := HL.out; omega
    by_cases hlt : i < j
    · have hlt' : (i : Int) < (j : Int) := by omega
      have hmm := HM.out
      obtain ⟨h, hh⟩ : ∃ h : Nat, h = (i + j) / 2 := ⟨_, rfl⟩
      have h1 : ((i : Int) + (j : Int)) / 2 = (h : Int) := by omega
      have hhm : (h : Int) < (m : Int) := by omega
      have hil : i ≤ h := by omega
      have hhj : h < j := by omega
      have hw1 : IntKind.i64.wrap ((i : Int) + (j : Int)) = (i : Int) + (j : Int) := by rw [IntKind.wrap_i64]; omega
      have HH := hid hh
      have HI1 := hid hil
      have HHJ := hid hhj
      have hhl : h < l.length := by have := HL.out; omega
      obtain ⟨g, o2, rfl, hc⟩ := (HT.out.q hq) (by intro e; rw [e] at hhl; simp at hhl)
      have hS := hc h hhl
      have c0 := hS.c0
      have c1 := hS.c1
      have HQ := hid hq
      have HB := hid hB
      obtain ⟨x, hx⟩ : ∃ x, x = gS l h := ⟨_, rfl⟩
      have hx' : l.getD h (0, 0) = x := hx.symm
      rw [hx'] at c0 c1
      have C := hid (cmp_any x n wr)
      have HX := hid hx
      have HHL := hid hhl
      clear hh hil hhj hS hc hq hB hx hx' hhl
      by_cases hcm : x.2 < n
      · have e1 : cmpS x n = -1 := by unfold cmpS; rw [if_pos hcm]
        rw [e1] at C
        have REL := hid (show BInv l n (h + 1) j from by
          have hB := HB.out
          refine ⟨fun t ht => ?_, hB.hi, by have := HHJ.out; omega, hB.len⟩
          by_cases e : t = h
          · rw [e, ← HX.out]; exact hcm
          · have h2 := srt_lt HS.out (i := t) (j := h) (by omega) HHL.out
            have h3 := srt_at HS.out HHL.out
            rw [← HX.out] at h2 h3
            omega)
        have hw2 : IntKind.i64.wrap ((h : Int) + 1) = ((h + 1 : Nat) : Int) := by rw [IntKind.wrap_i64]; omega
        clear hcm e1
        go_wp2_with fail
        refine C.out.mono ?_
        rintro e w1 ⟨rfl, q1⟩
        have Q1 := hid (HQ.out.trans q1)
        clear q1
        go_wp2
        go_roundw
        case rel => exact ⟨h + 1, j, by go_num, rfl, REL.out, Q1.out⟩
        case measure => simp [intOf]; have := HHJ.out; have := HI1.out; omega
      · have e1 : decide (cmpS x n < 0) = false := by unfold cmpS; rw [if_neg hcm]; split <;> decide
        have REL := hid (show BInv l n i h from by
          have hB := HB.out
          refine ⟨hB.lo, fun t h1 h2 => ?_, HI1.out, by have := HHL.out; omega⟩
          by_cases e : t = h
          · rw [e, ← HX.out]; exact hcm
          · have h2' := srt_lt HS.out (i := h) (j := t) (by omega) h2
            have h3 := srt_at HS.out h2
            rw [← HX.out] at h2'
            omega)
        clear hcm
        go_wp2_with fail
        refine C.out.mono ?_
        rintro e w1 ⟨rfl, q1⟩
        have Q1 := hid (HQ.out.trans q1)
        clear q1
        generalize cmpS x n = q at *
        go_wp2
        go_roundw
        case rel => exact ⟨i, h, rfl, by go_num, REL.out, Q1.out⟩
        case measure => simp [intOf]; have := HHJ.out; have := HI1.out; omega
    · obtain rfl : i = j := by have := hB.le; omega
      have HE := binv_end HS.out hB
      rw [HL.out] at HE
      have HQ := hid hq
      by_cases hi : i < m
      · have g1 : decide ((i : Int) < (m : Int)) = true := by simp; omega
        have hi' : (i : Int) < (m : Int) := by omega
        have hil : i < l.length := by have := HL.out; omega
        obtain ⟨g, o2, rfl, hc⟩ := (HT.out.q hq) (by intro e; rw [e] at hil; simp at hil)
        have hS := hc i hil
        have c0 := hS.c0
        have c1 := hS.c1
        obtain ⟨x, hx⟩ : ∃ x, x = gS l i := ⟨_, rfl⟩
        have hx' : l.getD i (0, 0) = x := hx.symm
        rw [hx'] at c0 c1
        rw [← hx] at HE
        have C := hid (cmp_any x n wr)
        have hnl := hB.hi i (Nat.le_refl _) hil
        rw [← hx] at hnl
        have HR := hid (show (cmpS x n == 0) = inS l n by
          rw [HE]
          unfold cmpS
          rw [if_neg hnl]
          have : decide (i < m) = true := by simp [hi]
          rw [this]
          by_cases e : n < x.1
          · rw [if_pos e]; simp; omega
          · rw [if_neg e]; simp; omega)
        clear hS hc hq hB hx hx' hil HE hnl hlt hi
        go_wp2_with fail
        refine C.out.mono ?_
        rintro e w1 ⟨rfl, q1⟩
        have Q1 := hid (HQ.out.trans q1)
        clear q1
        go_wp2
        go_ret2
        exact ⟨_, by rw [← HR.out]; rfl, Q1.out⟩
      · have g1 : decide ((i : Int) < (m : Int)) = false := by simp; omega
        have HR := hid (show inS l n = false by rw [HE]; simp; omega)
        have g2 : (i < m) = False := by simp; omega
        have HIM := hid hi
        clear hq hB HE hlt hi hjm
        go_wp2
        go_ret2
        exact ⟨_, by rw [HR.out]; rfl, HQ.out⟩

theorem holds_any {w : World} {a : Option Addr} {m c : Nat} {l : List Spn} (ht : SegS w a l) (hl : l.length = m) (hs : Srt l) (hm : m ≤ 4611686018427387904) (n : Int) :
    Calls Try.prog 26 #[.slice a m c, .int .i64 n] w fun e w' => e = .returned (.bool (inS l n)) ∧ Q w w' := by
  have A := hid (bsearch_any (c := c) ht hl hs hm n)
  clear ht hl hs hm
  go_enter Try.func26, Try.ntmps26
  go_wp2_with fail
  refine A.out.mono ?_
  rintro e w1 ⟨i, rfl, q1⟩
  have Q1 := hid q1
  clear q1
  go_wp2
  go_ret
  exact ⟨rfl, Q1.out⟩
end Go.Proofs.Ytjhihcmemnhbbaa
