/-
  What the document's own spans does: a contract that the statements' walks use.
-/
import Derived.Test.YtdoodbaogmdloabRHas
import Derived.BigQuiet
namespace Go.Proofs.Ytdoodbaogmdloab
open Go.RowKit
set_option linter.unusedVariables false
set_option maxRecDepth 20000

/-- The lowest From that the span at j may have. -/
def lowAt (l : List (Int × Int)) : Nat → Int
  | 0 => 0
  | i + 1 => (l.getD i (0, 0)).2 + 2

set_option maxHeartbeats 4000000 in
theorem rspans_any (s : Sv) (l : List (Int × Int)) (w : World) (hl : l.length = s.n) (hs : SegS w s.a l) : Calls Try.prog 43 #[.slice s.a s.n s.c] w fun e w' => e = .returned (.bool (spansB l)) ∧ Q w w' := by
  obtain ⟨a, n, c⟩ := s
  dsimp only at hl hs
  by_cases h1 : n < 1
  · have HR := hid (show spansB l = false from by unfold spansB; rw [decide_eq_false (by omega)]; rfl)
    have hi : decide ((n : Int) < 1) = true := by simp; omega
    have hi' : (n : Int) < 1 := by omega
    clear hl hs
    go_enter Try.func43, Try.ntmps43
    go_wp2
    go_ret
    exact ⟨ret_bool HR.out.symm, Q.refl _⟩
  by_cases h2 : 64 < n
  · have HR := hid (show spansB l = false from by unfold spansB; rw [decide_eq_false (by omega)]; rfl)
    have hi : decide ((n : Int) < 1) = false := by simp; omega
    have hi' : ¬ (n : Int) < 1 := by omega
    have hk : (64 : Int) < n := by omega
    clear hl hs
    go_enter Try.func43, Try.ntmps43
    go_wp2
    go_ret
    exact ⟨ret_bool HR.out.symm, Q.refl _⟩
  have HR := hid (show spansB l = spOk 0 (l.drop 0) from by unfold spansB; rw [decide_eq_true (by omega)]; rfl)
  have hi : decide ((n : Int) < 1) = false := by simp; omega
  have hi' : ¬ (n : Int) < 1 := by omega
  have hk : ¬ (64 : Int) < n := by omega
  have HL := hid hl
  have HS := hid hs
  clear hl hs
  go_enter Try.func43, Try.ntmps43
  go_wp2
  go_loopw [3] (fun i wr => Q w wr ∧ ∃ (j : Nat), j ≤ n ∧ i = .int .i64 j ∧ spOk 0 (l.drop 0) = spOk (lowAt l j) (l.drop j) ∧ 0 ≤ lowAt l j ∧ lowAt l j ≤ 4611686018427387905 ∧ (0 < j → 2 ≤ lowAt l j)) (fun i _ => ((n : Int) - intOf i).toNat)
  case atStart => exact ⟨Q.refl _, 0, Nat.zero_le _, rfl, rfl, by show (0 : Int) ≤ 0; omega, by show (0 : Int) ≤ _; omega, by intro h; omega⟩
  case round =>
    obtain ⟨hq, j, hj, rfl, he, hl0, hl1, hl2⟩ := hrel
    have HQ := hid hq
    clear hq
    by_cases hjn : j < n
    · obtain ⟨b, off, rfl, hc⟩ := HS.out (by intro e; have := HL.out; rw [e] at this; simp at this; omega)
      have hcj := (hc j (by rw [HL.out]; exact hjn))
      obtain ⟨hc0, hc1⟩ := hcj
      have hb := lt_of_cell hc0
      rw [← HQ.out.cell (by exact hb)] at hc0 hc1
      have hbr : b < wr.heap.size := Nat.lt_of_lt_of_le hb HQ.out.size
      have hd := spOk_drop (low := lowAt l j) (l := l) (j := j) (by rw [HL.out]; exact hjn)
      have hji : (j : Int) < (n : Int) := by omega
      have hj0 : (0 : Int) ≤ (j : Int) := by omega
      have hy : lowAt l (j + 1) = (l.getD j (0, 0)).2 + 2 := rfl
      cases j with
      | zero =>
        have hlw : lowAt l 0 = 0 := rfl
        rw [hlw] at hd he
        rw [Nat.zero_mul, Nat.add_zero] at hc0 hc1
        generalize (l.getD 0 (0, 0)).1 = x at *
        generalize (l.getD 0 (0, 0)).2 = y at *
        have HD := hid hd
        have HE := hid he
        have HY := hid hy
        clear hc hl0 hl1 hl2 hlw hd he hy
        by_cases hx : x < 0
        · have HF := hid (show spOk 0 (l.drop 0) = false from by rw [HD.out, decide_eq_false (by omega)]; rfl)
          have b1 : decide (x < 0) = true := by simp; omega
          go_wp2
          go_quiet (fail)
          go_wp2
          go_ret
          exact ⟨ret_bool (by rw [HR.out, HF.out]), HQ.out.trans (by repeat (first | exact Q.refl _ | apply Q.drewN | apply Q.drew))⟩
        by_cases hyx : y < x
        · have HF := hid (show spOk 0 (l.drop 0) = false from by rw [HD.out, decide_eq_false (by omega)]; rfl)
          have b1 : decide (x < 0) = false := by simp; omega
          have b2 : decide (y < x) = true := by simp; omega
          go_wp2
          go_quiet (fail)
          go_wp2
          go_ret
          exact ⟨ret_bool (by rw [HR.out, HF.out]), HQ.out.trans (by repeat (first | exact Q.refl _ | apply Q.drewN | apply Q.drew))⟩
        by_cases hz : 4611686018427387903 < y
        · have HF := hid (show spOk 0 (l.drop 0) = false from by rw [HD.out, decide_eq_false (by omega)]; rfl)
          have b1 : decide (x < 0) = false := by simp; omega
          have b2 : decide (y < x) = false := by simp; omega
          have b3 : decide (4611686018427387903 < y) = true := by simp; omega
          go_wp2
          go_quiet (fail)
          go_wp2
          go_ret
          exact ⟨ret_bool (by rw [HR.out, HF.out]), HQ.out.trans (by repeat (first | exact Q.refl _ | apply Q.drewN | apply Q.drew))⟩
        have HF := hid (show spOk 0 (l.drop 0) = spOk (y + 2) (l.drop (0 + 1)) from by rw [HD.out, decide_eq_true (by omega)]; rfl)
        have b1 : decide (x < 0) = false := by simp; omega
        have b2 : decide (y < x) = false := by simp; omega
        have b3 : decide (4611686018427387903 < y) = false := by simp; omega
        go_wp2
        go_quiet (fail)
        go_wp2
        go_roundw
        case rel => exact ⟨HQ.out.trans (by repeat (first | exact Q.refl _ | apply Q.drewN | apply Q.drew)), (0 + 1), by omega, by go_num, by rw [HY.out, HF.out], by rw [HY.out]; omega, by rw [HY.out]; omega, by rw [HY.out]; omega⟩
        case measure => simp [intOf]; omega
      | succ i =>
        have hcp := (hc i (by rw [HL.out]; omega)).2
        rw [← HQ.out.cell (by exact hb)] at hcp
        have hlw : lowAt l (i + 1) = (l.getD i (0, 0)).2 + 2 := rfl
        have hl2' := hl2 (by omega)
        rw [hlw] at hd he hl1 hl2'
        generalize (l.getD i (0, 0)).2 = p at *
        generalize (l.getD (i + 1) (0, 0)).1 = x at *
        generalize (l.getD (i + 1) (0, 0)).2 = y at *
        have hp0 : 0 ≤ p := by omega
        have hp1 : p ≤ 4611686018427387903 := by omega
        have HD := hid hd
        have HE := hid he
        have HY := hid hy
        clear hc hl0 hl1 hl2 hl2' hlw hd he hy
        by_cases hx : x < 0
        · have HF := hid (show spOk (p + 2) (l.drop (i + 1)) = false from by rw [HD.out, decide_eq_false (by omega)]; rfl)
          have b1 : decide (x < 0) = true := by simp; omega
          go_wp2
          go_quiet (fail)
          go_wp2
          go_ret
          exact ⟨ret_bool (by rw [HR.out, HE.out, HF.out]), HQ.out.trans (by repeat (first | exact Q.refl _ | apply Q.drewN | apply Q.drew))⟩
        by_cases hyx : y < x
        · have HF := hid (show spOk (p + 2) (l.drop (i + 1)) = false from by rw [HD.out, decide_eq_false (by omega)]; rfl)
          have b1 : decide (x < 0) = false := by simp; omega
          have b2 : decide (y < x) = true := by simp; omega
          go_wp2
          go_quiet (fail)
          go_wp2
          go_ret
          exact ⟨ret_bool (by rw [HR.out, HE.out, HF.out]), HQ.out.trans (by repeat (first | exact Q.refl _ | apply Q.drewN | apply Q.drew))⟩
        by_cases hz : 4611686018427387903 < y
        · have HF := hid (show spOk (p + 2) (l.drop (i + 1)) = false from by rw [HD.out, decide_eq_false (by omega)]; rfl)
          have b1 : decide (x < 0) = false := by simp; omega
          have b2 : decide (y < x) = false := by simp; omega
          have b3 : decide (4611686018427387903 < y) = true := by simp; omega
          go_wp2
          go_quiet (fail)
          go_wp2
          go_ret
          exact ⟨ret_bool (by rw [HR.out, HE.out, HF.out]), HQ.out.trans (by repeat (first | exact Q.refl _ | apply Q.drewN | apply Q.drew))⟩
        by_cases hp : x - 1 ≤ p
        · have HF := hid (show spOk (p + 2) (l.drop (i + 1)) = false from by rw [HD.out, decide_eq_false (by omega)]; rfl)
          have b1 : decide (x < 0) = false := by simp; omega
          have b2 : decide (y < x) = false := by simp; omega
          have b3 : decide (4611686018427387903 < y) = false := by simp; omega
          have w1 : IntKind.i64.wrap (x - 1) = x - 1 := by rw [IntKind.wrap_i64]; omega
          have w2 : IntKind.i64.wrap (((i + 1 : Nat) : Int) - 1) = (i : Int) := by rw [IntKind.wrap_i64]; omega
          have b5 : decide ((0 : Int) < ((i + 1 : Nat) : Int)) = true := by apply decide_eq_true; omega
          have b4 : decide (x - 1 ≤ p) = true := by simp; omega
          go_wp2
          go_quiet (fail)
          go_wp2
          go_ret
          exact ⟨ret_bool (by rw [HR.out, HE.out, HF.out]), HQ.out.trans (by repeat (first | exact Q.refl _ | apply Q.drewN | apply Q.drew))⟩
        have HF := hid (show spOk (p + 2) (l.drop (i + 1)) = spOk (y + 2) (l.drop (i + 1 + 1)) from by rw [HD.out, decide_eq_true (by omega)]; rfl)
        have b1 : decide (x < 0) = false := by simp; omega
        have b2 : decide (y < x) = false := by simp; omega
        have b3 : decide (4611686018427387903 < y) = false := by simp; omega
        have w1 : IntKind.i64.wrap (x - 1) = x - 1 := by rw [IntKind.wrap_i64]; omega
        have w2 : IntKind.i64.wrap (((i + 1 : Nat) : Int) - 1) = (i : Int) := by rw [IntKind.wrap_i64]; omega
        have b5 : decide ((0 : Int) < ((i + 1 : Nat) : Int)) = true := by apply decide_eq_true; omega
        have b4 : decide (x - 1 ≤ p) = false := by simp; omega
        go_wp2
        go_quiet (fail)
        go_wp2
        go_roundw
        case rel => exact ⟨HQ.out.trans (by repeat (first | exact Q.refl _ | apply Q.drewN | apply Q.drew)), (i + 1 + 1), by omega, by go_num, by rw [HY.out, HE.out, HF.out], by rw [HY.out]; omega, by rw [HY.out]; omega, by rw [HY.out]; omega⟩
        case measure => simp [intOf]; omega
    · have hji : ¬ (j : Int) < (n : Int) := by omega
      have HE := hid he
      clear hl0 hl1 hl2 he
      go_wp2
      go_ret
      exact ⟨ret_bool (by rw [HR.out, HE.out, List.drop_of_length_le (by rw [HL.out]; omega)]; rfl), HQ.out⟩
end Go.Proofs.Ytdoodbaogmdloab
