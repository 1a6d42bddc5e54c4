/-
  What guard's checkParts and checkPacket, and the document's Right and Check do: contracts that the statements' walks use.
-/
import Derived.Test.YtihmlfpfpadfpaaKys
namespace Go.Proofs.Ytihmlfpfpadfpaa
open Go.RowKit
set_option linter.unusedVariables false
set_option maxRecDepth 20000

/-- What is refused of a packet ahead of a look at its bytes. -/
def chP (len : Nat) (at_ high : Int) : Int := if at_ < 1 ∨ (len : Int) - at_ < 20 then 12 else if high < -1 ∨ 4611686018427387903 < high then 10 else if 16380 < at_ ∨ 16400 < (len : Int) - at_ then 52 else 0
theorem chP_ok {len : Nat} {at_ high : Int} (h : chP len at_ high = 0) : 1 ≤ at_ ∧ at_ + 20 ≤ len ∧ -1 ≤ high ∧ high ≤ 4611686018427387903 ∧ at_ ≤ 16380 ∧ (len : Int) - at_ ≤ 16400 := by
  unfold chP at h
  split at h
  · simp at h
  split at h
  · simp at h
  split at h
  · simp at h
  omega
set_option maxHeartbeats 8000000 in
theorem parts_any (k i h hd pl : Sv) (num wd : Int) (w : World) (bp : (pl.n : Int) ≤ 9223372036854775807) (bh : (hd.n : Int) ≤ 9223372036854775807) :
    Calls Try.prog 37 #[.agg (kcells k i h), .slice hd.a hd.n hd.c, .int .i64 num, .int .i64 wd, .slice pl.a pl.n pl.c] w fun e w' => e = .returned (.int .i64 (ptE k.n i.n h.n hd.n num wd pl.n)) ∧ Q w w' := by
  have HC := hid (fun u => kcheck_any k i h u)
  have HP := hid (show ptE k.n i.n h.n hd.n num wd pl.n = if kyE k.n i.n h.n ≠ 0 then 70 else if hd.n = 0 ∨ (pl.n < 4 ∧ wd < 4 - pl.n) then 12 else if wd < 1 ∨ 4 < wd ∨ num < 0 ∨ 4611686018427387903 < num then 10 else if 16380 < hd.n ∨ 16380 < pl.n then 52 else 0 from rfl)
  have HE70 := hid (show kyE k.n i.n h.n ≠ 0 → kyE k.n i.n h.n = 70 from by unfold kyE; split <;> simp)
  generalize ptE k.n i.n h.n hd.n num wd pl.n = PE at *
  generalize kyE k.n i.n h.n = E at *
  obtain ⟨ha, hn, hc⟩ := hd
  obtain ⟨pa, pn, pc⟩ := pl
  dsimp only at *
  by_cases c0 : E = 0
  · subst c0
    by_cases cB : (hn : Int) = 0
    · have HR := hid (show PE = 12 from by rw [HP.out]; simp [*] <;> omega)
      have f0 : (((hn : Int)) == 0) = true := by simp; omega
      go_enter Try.func37, Try.ntmps37
      go_wp2_with (go_at_call 49; refine (HC.out _).mono ?_; rintro e w1 ⟨rfl, q1⟩)
      have Q1 := hid (Q.trans ((Q.refl w).alloc _) q1)
      clear q1
      go_wp2
      go_ret
      exact ⟨by rw [HR.out]; rfl, Q1.out⟩
    · by_cases cP : (pn : Int) < 4
      · by_cases cC : wd < 4 - (pn : Int)
        · have HR := hid (show PE = 12 from by rw [HP.out]; simp [*] <;> omega)
          have f0 : (((hn : Int)) == 0) = false := by simp; omega
          have f1 : decide ((pn : Int) < 4) = true := by simp; omega
          have g1 : ((pn : Int) < 4) := by omega
          have f2 : decide (wd < 4 - (pn : Int)) = true := by simp; omega
          have g2 : (wd < 4 - (pn : Int)) := by omega
          go_enter Try.func37, Try.ntmps37
          go_wp2_with (go_at_call 49; refine (HC.out _).mono ?_; rintro e w1 ⟨rfl, q1⟩)
          have Q1 := hid (Q.trans ((Q.refl w).alloc _) q1)
          clear q1
          go_wp2
          go_ret
          exact ⟨by rw [HR.out]; rfl, Q1.out⟩
        · by_cases cD : wd < 1
          · have HR := hid (show PE = 10 from by rw [HP.out]; simp [*] <;> omega)
            have f0 : (((hn : Int)) == 0) = false := by simp; omega
            have f1 : decide ((pn : Int) < 4) = true := by simp; omega
            have g1 : ((pn : Int) < 4) := by omega
            have f2 : decide (wd < 4 - (pn : Int)) = false := by simp; omega
            have g2 : ¬ (wd < 4 - (pn : Int)) := by omega
            have f3 : decide (wd < 1) = true := by simp; omega
            have g3 : (wd < 1) := by omega
            go_enter Try.func37, Try.ntmps37
            go_wp2_with (go_at_call 49; refine (HC.out _).mono ?_; rintro e w1 ⟨rfl, q1⟩)
            have Q1 := hid (Q.trans ((Q.refl w).alloc _) q1)
            clear q1
            go_wp2
            go_ret
            exact ⟨by rw [HR.out]; rfl, Q1.out⟩
          · by_cases cE : 4 < wd
            · have HR := hid (show PE = 10 from by rw [HP.out]; simp [*] <;> omega)
              have f0 : (((hn : Int)) == 0) = false := by simp; omega
              have f1 : decide ((pn : Int) < 4) = true := by simp; omega
              have g1 : ((pn : Int) < 4) := by omega
              have f2 : decide (wd < 4 - (pn : Int)) = false := by simp; omega
              have g2 : ¬ (wd < 4 - (pn : Int)) := by omega
              have f3 : decide (wd < 1) = false := by simp; omega
              have g3 : ¬ (wd < 1) := by omega
              have f4 : decide ((4 : Int) < wd) = true := by simp; omega
              have g4 : ((4 : Int) < wd) := by omega
              go_enter Try.func37, Try.ntmps37
              go_wp2_with (go_at_call 49; refine (HC.out _).mono ?_; rintro e w1 ⟨rfl, q1⟩)
              have Q1 := hid (Q.trans ((Q.refl w).alloc _) q1)
              clear q1
              go_wp2
              go_ret
              exact ⟨by rw [HR.out]; rfl, Q1.out⟩
            · by_cases cF : num < 0
              · have HR := hid (show PE = 10 from by rw [HP.out]; simp [*] <;> omega)
                have f0 : (((hn : Int)) == 0) = false := by simp; omega
                have f1 : decide ((pn : Int) < 4) = true := by simp; omega
                have g1 : ((pn : Int) < 4) := by omega
                have f2 : decide (wd < 4 - (pn : Int)) = false := by simp; omega
                have g2 : ¬ (wd < 4 - (pn : Int)) := by omega
                have f3 : decide (wd < 1) = false := by simp; omega
                have g3 : ¬ (wd < 1) := by omega
                have f4 : decide ((4 : Int) < wd) = false := by simp; omega
                have g4 : ¬ ((4 : Int) < wd) := by omega
                have f5 : decide (num < 0) = true := by simp; omega
                have g5 : (num < 0) := by omega
                go_enter Try.func37, Try.ntmps37
                go_wp2_with (go_at_call 49; refine (HC.out _).mono ?_; rintro e w1 ⟨rfl, q1⟩)
                have Q1 := hid (Q.trans ((Q.refl w).alloc _) q1)
                clear q1
                go_wp2
                go_ret
                exact ⟨by rw [HR.out]; rfl, Q1.out⟩
              · by_cases cG : 4611686018427387903 < num
                · have HR := hid (show PE = 10 from by rw [HP.out]; simp [*] <;> omega)
                  have f0 : (((hn : Int)) == 0) = false := by simp; omega
                  have f1 : decide ((pn : Int) < 4) = true := by simp; omega
                  have g1 : ((pn : Int) < 4) := by omega
                  have f2 : decide (wd < 4 - (pn : Int)) = false := by simp; omega
                  have g2 : ¬ (wd < 4 - (pn : Int)) := by omega
                  have f3 : decide (wd < 1) = false := by simp; omega
                  have g3 : ¬ (wd < 1) := by omega
                  have f4 : decide ((4 : Int) < wd) = false := by simp; omega
                  have g4 : ¬ ((4 : Int) < wd) := by omega
                  have f5 : decide (num < 0) = false := by simp; omega
                  have g5 : ¬ (num < 0) := by omega
                  have f6 : decide ((4611686018427387903 : Int) < num) = true := by simp; omega
                  have g6 : ((4611686018427387903 : Int) < num) := by omega
                  go_enter Try.func37, Try.ntmps37
                  go_wp2_with (go_at_call 49; refine (HC.out _).mono ?_; rintro e w1 ⟨rfl, q1⟩)
                  have Q1 := hid (Q.trans ((Q.refl w).alloc _) q1)
                  clear q1
                  go_wp2
                  go_ret
                  exact ⟨by rw [HR.out]; rfl, Q1.out⟩
                · by_cases cH : 16380 < (hn : Int)
                  · have HR := hid (show PE = 52 from by rw [HP.out]; simp [*] <;> omega)
                    have f0 : (((hn : Int)) == 0) = false := by simp; omega
                    have f1 : decide ((pn : Int) < 4) = true := by simp; omega
                    have g1 : ((pn : Int) < 4) := by omega
                    have f2 : decide (wd < 4 - (pn : Int)) = false := by simp; omega
                    have g2 : ¬ (wd < 4 - (pn : Int)) := by omega
                    have f3 : decide (wd < 1) = false := by simp; omega
                    have g3 : ¬ (wd < 1) := by omega
                    have f4 : decide ((4 : Int) < wd) = false := by simp; omega
                    have g4 : ¬ ((4 : Int) < wd) := by omega
                    have f5 : decide (num < 0) = false := by simp; omega
                    have g5 : ¬ (num < 0) := by omega
                    have f6 : decide ((4611686018427387903 : Int) < num) = false := by simp; omega
                    have g6 : ¬ ((4611686018427387903 : Int) < num) := by omega
                    have f7 : decide ((16380 : Int) < (hn : Int)) = true := by simp; omega
                    have g7 : ((16380 : Int) < (hn : Int)) := by omega
                    go_enter Try.func37, Try.ntmps37
                    go_wp2_with (go_at_call 49; refine (HC.out _).mono ?_; rintro e w1 ⟨rfl, q1⟩)
                    have Q1 := hid (Q.trans ((Q.refl w).alloc _) q1)
                    clear q1
                    go_wp2
                    go_ret
                    exact ⟨by rw [HR.out]; rfl, Q1.out⟩
                  · by_cases cJ : 16380 < (pn : Int)
                    · have HR := hid (show PE = 52 from by rw [HP.out]; simp [*] <;> omega)
                      have f0 : (((hn : Int)) == 0) = false := by simp; omega
                      have f1 : decide ((pn : Int) < 4) = true := by simp; omega
                      have g1 : ((pn : Int) < 4) := by omega
                      have f2 : decide (wd < 4 - (pn : Int)) = false := by simp; omega
                      have g2 : ¬ (wd < 4 - (pn : Int)) := by omega
                      have f3 : decide (wd < 1) = false := by simp; omega
                      have g3 : ¬ (wd < 1) := by omega
                      have f4 : decide ((4 : Int) < wd) = false := by simp; omega
                      have g4 : ¬ ((4 : Int) < wd) := by omega
                      have f5 : decide (num < 0) = false := by simp; omega
                      have g5 : ¬ (num < 0) := by omega
                      have f6 : decide ((4611686018427387903 : Int) < num) = false := by simp; omega
                      have g6 : ¬ ((4611686018427387903 : Int) < num) := by omega
                      have f7 : decide ((16380 : Int) < (hn : Int)) = false := by simp; omega
                      have g7 : ¬ ((16380 : Int) < (hn : Int)) := by omega
                      have f8 : decide ((16380 : Int) < (pn : Int)) = true := by simp; omega
                      have g8 : ((16380 : Int) < (pn : Int)) := by omega
                      go_enter Try.func37, Try.ntmps37
                      go_wp2_with (go_at_call 49; refine (HC.out _).mono ?_; rintro e w1 ⟨rfl, q1⟩)
                      have Q1 := hid (Q.trans ((Q.refl w).alloc _) q1)
                      clear q1
                      go_wp2
                      go_ret
                      exact ⟨by rw [HR.out]; rfl, Q1.out⟩
                    · have HR := hid (show PE = 0 from by rw [HP.out]; simp [*] <;> omega)
                      have f0 : (((hn : Int)) == 0) = false := by simp; omega
                      have f1 : decide ((pn : Int) < 4) = true := by simp; omega
                      have g1 : ((pn : Int) < 4) := by omega
                      have f2 : decide (wd < 4 - (pn : Int)) = false := by simp; omega
                      have g2 : ¬ (wd < 4 - (pn : Int)) := by omega
                      have f3 : decide (wd < 1) = false := by simp; omega
                      have g3 : ¬ (wd < 1) := by omega
                      have f4 : decide ((4 : Int) < wd) = false := by simp; omega
                      have g4 : ¬ ((4 : Int) < wd) := by omega
                      have f5 : decide (num < 0) = false := by simp; omega
                      have g5 : ¬ (num < 0) := by omega
                      have f6 : decide ((4611686018427387903 : Int) < num) = false := by simp; omega
                      have g6 : ¬ ((4611686018427387903 : Int) < num) := by omega
                      have f7 : decide ((16380 : Int) < (hn : Int)) = false := by simp; omega
                      have g7 : ¬ ((16380 : Int) < (hn : Int)) := by omega
                      have f8 : decide ((16380 : Int) < (pn : Int)) = false := by simp; omega
                      have g8 : ¬ ((16380 : Int) < (pn : Int)) := by omega
                      go_enter Try.func37, Try.ntmps37
                      go_wp2_with (go_at_call 49; refine (HC.out _).mono ?_; rintro e w1 ⟨rfl, q1⟩)
                      have Q1 := hid (Q.trans ((Q.refl w).alloc _) q1)
                      clear q1
                      go_wp2
                      go_ret
                      exact ⟨by rw [HR.out]; rfl, Q1.out⟩
      · by_cases cD : wd < 1
        · have HR := hid (show PE = 10 from by rw [HP.out]; simp [*] <;> omega)
          have f0 : (((hn : Int)) == 0) = false := by simp; omega
          have f1 : decide ((pn : Int) < 4) = false := by simp; omega
          have g1 : ¬ ((pn : Int) < 4) := by omega
          have f2 : decide (wd < 1) = true := by simp; omega
          have g2 : (wd < 1) := by omega
          go_enter Try.func37, Try.ntmps37
          go_wp2_with (go_at_call 49; refine (HC.out _).mono ?_; rintro e w1 ⟨rfl, q1⟩)
          have Q1 := hid (Q.trans ((Q.refl w).alloc _) q1)
          clear q1
          go_wp2
          go_ret
          exact ⟨by rw [HR.out]; rfl, Q1.out⟩
        · by_cases cE : 4 < wd
          · have HR := hid (show PE = 10 from by rw [HP.out]; simp [*] <;> omega)
            have f0 : (((hn : Int)) == 0) = false := by simp; omega
            have f1 : decide ((pn : Int) < 4) = false := by simp; omega
            have g1 : ¬ ((pn : Int) < 4) := by omega
            have f2 : decide (wd < 1) = false := by simp; omega
            have g2 : ¬ (wd < 1) := by omega
            have f3 : decide ((4 : Int) < wd) = true := by simp; omega
            have g3 : ((4 : Int) < wd) := by omega
            go_enter Try.func37, Try.ntmps37
            go_wp2_with (go_at_call 49; refine (HC.out _).mono ?_; rintro e w1 ⟨rfl, q1⟩)
            have Q1 := hid (Q.trans ((Q.refl w).alloc _) q1)
            clear q1
            go_wp2
            go_ret
            exact ⟨by rw [HR.out]; rfl, Q1.out⟩
          · by_cases cF : num < 0
            · have HR := hid (show PE = 10 from by rw [HP.out]; simp [*] <;> omega)
              have f0 : (((hn : Int)) == 0) = false := by simp; omega
              have f1 : decide ((pn : Int) < 4) = false := by simp; omega
              have g1 : ¬ ((pn : Int) < 4) := by omega
              have f2 : decide (wd < 1) = false := by simp; omega
              have g2 : ¬ (wd < 1) := by omega
              have f3 : decide ((4 : Int) < wd) = false := by simp; omega
              have g3 : ¬ ((4 : Int) < wd) := by omega
              have f4 : decide (num < 0) = true := by simp; omega
              have g4 : (num < 0) := by omega
              go_enter Try.func37, Try.ntmps37
              go_wp2_with (go_at_call 49; refine (HC.out _).mono ?_; rintro e w1 ⟨rfl, q1⟩)
              have Q1 := hid (Q.trans ((Q.refl w).alloc _) q1)
              clear q1
              go_wp2
              go_ret
              exact ⟨by rw [HR.out]; rfl, Q1.out⟩
            · by_cases cG : 4611686018427387903 < num
              · have HR := hid (show PE = 10 from by rw [HP.out]; simp [*] <;> omega)
                have f0 : (((hn : Int)) == 0) = false := by simp; omega
                have f1 : decide ((pn : Int) < 4) = false := by simp; omega
                have g1 : ¬ ((pn : Int) < 4) := by omega
                have f2 : decide (wd < 1) = false := by simp; omega
                have g2 : ¬ (wd < 1) := by omega
                have f3 : decide ((4 : Int) < wd) = false := by simp; omega
                have g3 : ¬ ((4 : Int) < wd) := by omega
                have f4 : decide (num < 0) = false := by simp; omega
                have g4 : ¬ (num < 0) := by omega
                have f5 : decide ((4611686018427387903 : Int) < num) = true := by simp; omega
                have g5 : ((4611686018427387903 : Int) < num) := by omega
                go_enter Try.func37, Try.ntmps37
                go_wp2_with (go_at_call 49; refine (HC.out _).mono ?_; rintro e w1 ⟨rfl, q1⟩)
                have Q1 := hid (Q.trans ((Q.refl w).alloc _) q1)
                clear q1
                go_wp2
                go_ret
                exact ⟨by rw [HR.out]; rfl, Q1.out⟩
              · by_cases cH : 16380 < (hn : Int)
                · have HR := hid (show PE = 52 from by rw [HP.out]; simp [*] <;> omega)
                  have f0 : (((hn : Int)) == 0) = false := by simp; omega
                  have f1 : decide ((pn : Int) < 4) = false := by simp; omega
                  have g1 : ¬ ((pn : Int) < 4) := by omega
                  have f2 : decide (wd < 1) = false := by simp; omega
                  have g2 : ¬ (wd < 1) := by omega
                  have f3 : decide ((4 : Int) < wd) = false := by simp; omega
                  have g3 : ¬ ((4 : Int) < wd) := by omega
                  have f4 : decide (num < 0) = false := by simp; omega
                  have g4 : ¬ (num < 0) := by omega
                  have f5 : decide ((4611686018427387903 : Int) < num) = false := by simp; omega
                  have g5 : ¬ ((4611686018427387903 : Int) < num) := by omega
                  have f6 : decide ((16380 : Int) < (hn : Int)) = true := by simp; omega
                  have g6 : ((16380 : Int) < (hn : Int)) := by omega
                  go_enter Try.func37, Try.ntmps37
                  go_wp2_with (go_at_call 49; refine (HC.out _).mono ?_; rintro e w1 ⟨rfl, q1⟩)
                  have Q1 := hid (Q.trans ((Q.refl w).alloc _) q1)
                  clear q1
                  go_wp2
                  go_ret
                  exact ⟨by rw [HR.out]; rfl, Q1.out⟩
                · by_cases cJ : 16380 < (pn : Int)
                  · have HR := hid (show PE = 52 from by rw [HP.out]; simp [*] <;> omega)
                    have f0 : (((hn : Int)) == 0) = false := by simp; omega
                    have f1 : decide ((pn : Int) < 4) = false := by simp; omega
                    have g1 : ¬ ((pn : Int) < 4) := by omega
                    have f2 : decide (wd < 1) = false := by simp; omega
                    have g2 : ¬ (wd < 1) := by omega
                    have f3 : decide ((4 : Int) < wd) = false := by simp; omega
                    have g3 : ¬ ((4 : Int) < wd) := by omega
                    have f4 : decide (num < 0) = false := by simp; omega
                    have g4 : ¬ (num < 0) := by omega
                    have f5 : decide ((4611686018427387903 : Int) < num) = false := by simp; omega
                    have g5 : ¬ ((4611686018427387903 : Int) < num) := by omega
                    have f6 : decide ((16380 : Int) < (hn : Int)) = false := by simp; omega
                    have g6 : ¬ ((16380 : Int) < (hn : Int)) := by omega
                    have f7 : decide ((16380 : Int) < (pn : Int)) = true := by simp; omega
                    have g7 : ((16380 : Int) < (pn : Int)) := by omega
                    go_enter Try.func37, Try.ntmps37
                    go_wp2_with (go_at_call 49; refine (HC.out _).mono ?_; rintro e w1 ⟨rfl, q1⟩)
                    have Q1 := hid (Q.trans ((Q.refl w).alloc _) q1)
                    clear q1
                    go_wp2
                    go_ret
                    exact ⟨by rw [HR.out]; rfl, Q1.out⟩
                  · have HR := hid (show PE = 0 from by rw [HP.out]; simp [*] <;> omega)
                    have f0 : (((hn : Int)) == 0) = false := by simp; omega
                    have f1 : decide ((pn : Int) < 4) = false := by simp; omega
                    have g1 : ¬ ((pn : Int) < 4) := by omega
                    have f2 : decide (wd < 1) = false := by simp; omega
                    have g2 : ¬ (wd < 1) := by omega
                    have f3 : decide ((4 : Int) < wd) = false := by simp; omega
                    have g3 : ¬ ((4 : Int) < wd) := by omega
                    have f4 : decide (num < 0) = false := by simp; omega
                    have g4 : ¬ (num < 0) := by omega
                    have f5 : decide ((4611686018427387903 : Int) < num) = false := by simp; omega
                    have g5 : ¬ ((4611686018427387903 : Int) < num) := by omega
                    have f6 : decide ((16380 : Int) < (hn : Int)) = false := by simp; omega
                    have g6 : ¬ ((16380 : Int) < (hn : Int)) := by omega
                    have f7 : decide ((16380 : Int) < (pn : Int)) = false := by simp; omega
                    have g7 : ¬ ((16380 : Int) < (pn : Int)) := by omega
                    go_enter Try.func37, Try.ntmps37
                    go_wp2_with (go_at_call 49; refine (HC.out _).mono ?_; rintro e w1 ⟨rfl, q1⟩)
                    have Q1 := hid (Q.trans ((Q.refl w).alloc _) q1)
                    clear q1
                    go_wp2
                    go_ret
                    exact ⟨by rw [HR.out]; rfl, Q1.out⟩
  · have HR := hid (show PE = 70 from by rw [HP.out, if_pos c0])
    obtain rfl := HE70.out c0
    go_enter Try.func37, Try.ntmps37
    go_wp2_with (go_at_call 49; refine (HC.out _).mono ?_; rintro e w1 ⟨rfl, q1⟩)
    have Q1 := hid (Q.trans ((Q.refl w).alloc _) q1)
    clear q1
    go_wp2
    go_ret
    exact ⟨by rw [HR.out]; rfl, Q1.out⟩
set_option maxHeartbeats 8000000 in
theorem packet_any (pk : Sv) (at_ high : Int) (w : World) (bp : (pk.n : Int) ≤ 140737488375808) (b0 : -9223372036854775808 ≤ at_) (b1 : at_ ≤ 9223372036854775807) :
    Calls Try.prog 50 #[.slice pk.a pk.n pk.c, .int .i64 at_, .int .i64 high] w fun e w' => e = .returned (.int .i64 (chP pk.n at_ high)) ∧ w = w' := by
  have HP := hid (show chP pk.n at_ high = if at_ < 1 ∨ (pk.n : Int) - at_ < 20 then 12 else if high < -1 ∨ 4611686018427387903 < high then 10 else if 16380 < at_ ∨ 16400 < (pk.n : Int) - at_ then 52 else 0 from rfl)
  generalize chP pk.n at_ high = PE at *
  obtain ⟨pa, pn, pc⟩ := pk
  dsimp only at *
  by_cases cA : at_ < 1
  · have HR := hid (show PE = 12 from by rw [HP.out]; simp [*] <;> omega)
    have f0 : decide (at_ < 1) = true := by simp; omega
    have g0 : (at_ < 1) := by omega
    go_enter Try.func50, Try.ntmps50
    go_wp2
    go_ret
    exact ⟨by rw [HR.out]; rfl, rfl⟩
  · by_cases cB : (pn : Int) - at_ < 20
    · have HR := hid (show PE = 12 from by rw [HP.out]; simp [*] <;> omega)
      have f0 : decide (at_ < 1) = false := by simp; omega
      have g0 : ¬ (at_ < 1) := by omega
      have f1 : decide ((pn : Int) - at_ < 20) = true := by simp; omega
      have g1 : ((pn : Int) - at_ < 20) := by omega
      go_enter Try.func50, Try.ntmps50
      go_wp2
      go_ret
      exact ⟨by rw [HR.out]; rfl, rfl⟩
    · by_cases cC : high < -1
      · have HR := hid (show PE = 10 from by rw [HP.out]; simp [*] <;> omega)
        have f0 : decide (at_ < 1) = false := by simp; omega
        have g0 : ¬ (at_ < 1) := by omega
        have f1 : decide ((pn : Int) - at_ < 20) = false := by simp; omega
        have g1 : ¬ ((pn : Int) - at_ < 20) := by omega
        have f2 : decide (high < -1) = true := by simp; omega
        have g2 : (high < -1) := by omega
        go_enter Try.func50, Try.ntmps50
        go_wp2
        go_ret
        exact ⟨by rw [HR.out]; rfl, rfl⟩
      · by_cases cD : 4611686018427387903 < high
        · have HR := hid (show PE = 10 from by rw [HP.out]; simp [*] <;> omega)
          have f0 : decide (at_ < 1) = false := by simp; omega
          have g0 : ¬ (at_ < 1) := by omega
          have f1 : decide ((pn : Int) - at_ < 20) = false := by simp; omega
          have g1 : ¬ ((pn : Int) - at_ < 20) := by omega
          have f2 : decide (high < -1) = false := by simp; omega
          have g2 : ¬ (high < -1) := by omega
          have f3 : decide ((4611686018427387903 : Int) < high) = true := by simp; omega
          have g3 : ((4611686018427387903 : Int) < high) := by omega
          go_enter Try.func50, Try.ntmps50
          go_wp2
          go_ret
          exact ⟨by rw [HR.out]; rfl, rfl⟩
        · by_cases cE : 16380 < at_
          · have HR := hid (show PE = 52 from by rw [HP.out]; simp [*] <;> omega)
            have f0 : decide (at_ < 1) = false := by simp; omega
            have g0 : ¬ (at_ < 1) := by omega
            have f1 : decide ((pn : Int) - at_ < 20) = false := by simp; omega
            have g1 : ¬ ((pn : Int) - at_ < 20) := by omega
            have f2 : decide (high < -1) = false := by simp; omega
            have g2 : ¬ (high < -1) := by omega
            have f3 : decide ((4611686018427387903 : Int) < high) = false := by simp; omega
            have g3 : ¬ ((4611686018427387903 : Int) < high) := by omega
            have f4 : decide ((16380 : Int) < at_) = true := by simp; omega
            have g4 : ((16380 : Int) < at_) := by omega
            go_enter Try.func50, Try.ntmps50
            go_wp2
            go_ret
            exact ⟨by rw [HR.out]; rfl, rfl⟩
          · by_cases cF : 16400 < (pn : Int) - at_
            · have HR := hid (show PE = 52 from by rw [HP.out]; simp [*] <;> omega)
              have f0 : decide (at_ < 1) = false := by simp; omega
              have g0 : ¬ (at_ < 1) := by omega
              have f1 : decide ((pn : Int) - at_ < 20) = false := by simp; omega
              have g1 : ¬ ((pn : Int) - at_ < 20) := by omega
              have f2 : decide (high < -1) = false := by simp; omega
              have g2 : ¬ (high < -1) := by omega
              have f3 : decide ((4611686018427387903 : Int) < high) = false := by simp; omega
              have g3 : ¬ ((4611686018427387903 : Int) < high) := by omega
              have f4 : decide ((16380 : Int) < at_) = false := by simp; omega
              have g4 : ¬ ((16380 : Int) < at_) := by omega
              have f5 : decide ((16400 : Int) < (pn : Int) - at_) = true := by simp; omega
              have g5 : ((16400 : Int) < (pn : Int) - at_) := by omega
              go_enter Try.func50, Try.ntmps50
              go_wp2
              go_ret
              exact ⟨by rw [HR.out]; rfl, rfl⟩
            · have HR := hid (show PE = 0 from by rw [HP.out]; simp [*] <;> omega)
              have f0 : decide (at_ < 1) = false := by simp; omega
              have g0 : ¬ (at_ < 1) := by omega
              have f1 : decide ((pn : Int) - at_ < 20) = false := by simp; omega
              have g1 : ¬ ((pn : Int) - at_ < 20) := by omega
              have f2 : decide (high < -1) = false := by simp; omega
              have g2 : ¬ (high < -1) := by omega
              have f3 : decide ((4611686018427387903 : Int) < high) = false := by simp; omega
              have g3 : ¬ ((4611686018427387903 : Int) < high) := by omega
              have f4 : decide ((16380 : Int) < at_) = false := by simp; omega
              have g4 : ¬ ((16380 : Int) < at_) := by omega
              have f5 : decide ((16400 : Int) < (pn : Int) - at_) = false := by simp; omega
              have g5 : ¬ ((16400 : Int) < (pn : Int) - at_) := by omega
              go_enter Try.func50, Try.ntmps50
              go_wp2
              go_ret
              exact ⟨by rw [HR.out]; rfl, rfl⟩
set_option maxHeartbeats 8000000 in
theorem rpacket_any (pk : Sv) (at_ high : Int) (w : World) (bp : (pk.n : Int) ≤ 140737488375808) (b0 : -9223372036854775808 ≤ at_) (b1 : at_ ≤ 9223372036854775807) :
    Calls Try.prog 54 #[.slice pk.a pk.n pk.c, .int .i64 at_, .int .i64 high] w fun e w' => e = .returned (.int .i64 (chP pk.n at_ high)) ∧ w = w' := by
  have HP := hid (show chP pk.n at_ high = if at_ < 1 ∨ (pk.n : Int) - at_ < 20 then 12 else if high < -1 ∨ 4611686018427387903 < high then 10 else if 16380 < at_ ∨ 16400 < (pk.n : Int) - at_ then 52 else 0 from rfl)
  generalize chP pk.n at_ high = PE at *
  obtain ⟨pa, pn, pc⟩ := pk
  dsimp only at *
  by_cases cA : at_ < 1
  · have HR := hid (show PE = 12 from by rw [HP.out]; simp [*] <;> omega)
    have f0 : decide (at_ < 1) = true := by simp; omega
    have g0 : (at_ < 1) := by omega
    go_enter Try.func54, Try.ntmps54
    go_wp2
    go_ret
    exact ⟨by rw [HR.out]; rfl, rfl⟩
  · by_cases cX : (pn : Int) < at_
    · have HR := hid (show PE = 12 from by rw [HP.out]; simp [*] <;> omega)
      have f0 : decide (at_ < 1) = false := by simp; omega
      have g0 : ¬ (at_ < 1) := by omega
      have f1 : decide ((pn : Int) < at_) = true := by simp; omega
      have g1 : ((pn : Int) < at_) := by omega
      go_enter Try.func54, Try.ntmps54
      go_wp2
      go_ret
      exact ⟨by rw [HR.out]; rfl, rfl⟩
    · by_cases cB : (pn : Int) - at_ < 20
      · have HR := hid (show PE = 12 from by rw [HP.out]; simp [*] <;> omega)
        have f0 : decide (at_ < 1) = false := by simp; omega
        have g0 : ¬ (at_ < 1) := by omega
        have f1 : decide ((pn : Int) < at_) = false := by simp; omega
        have g1 : ¬ ((pn : Int) < at_) := by omega
        have f2 : decide ((pn : Int) - at_ < 20) = true := by simp; omega
        have g2 : ((pn : Int) - at_ < 20) := by omega
        go_enter Try.func54, Try.ntmps54
        go_wp2
        go_ret
        exact ⟨by rw [HR.out]; rfl, rfl⟩
      · by_cases cC : high < -1
        · have HR := hid (show PE = 10 from by rw [HP.out]; simp [*] <;> omega)
          have f0 : decide (at_ < 1) = false := by simp; omega
          have g0 : ¬ (at_ < 1) := by omega
          have f1 : decide ((pn : Int) < at_) = false := by simp; omega
          have g1 : ¬ ((pn : Int) < at_) := by omega
          have f2 : decide ((pn : Int) - at_ < 20) = false := by simp; omega
          have g2 : ¬ ((pn : Int) - at_ < 20) := by omega
          have f3 : decide (high < -1) = true := by simp; omega
          have g3 : (high < -1) := by omega
          go_enter Try.func54, Try.ntmps54
          go_wp2
          go_ret
          exact ⟨by rw [HR.out]; rfl, rfl⟩
        · by_cases cD : 4611686018427387903 < high
          · have HR := hid (show PE = 10 from by rw [HP.out]; simp [*] <;> omega)
            have f0 : decide (at_ < 1) = false := by simp; omega
            have g0 : ¬ (at_ < 1) := by omega
            have f1 : decide ((pn : Int) < at_) = false := by simp; omega
            have g1 : ¬ ((pn : Int) < at_) := by omega
            have f2 : decide ((pn : Int) - at_ < 20) = false := by simp; omega
            have g2 : ¬ ((pn : Int) - at_ < 20) := by omega
            have f3 : decide (high < -1) = false := by simp; omega
            have g3 : ¬ (high < -1) := by omega
            have f4 : decide ((4611686018427387903 : Int) < high) = true := by simp; omega
            have g4 : ((4611686018427387903 : Int) < high) := by omega
            go_enter Try.func54, Try.ntmps54
            go_wp2
            go_ret
            exact ⟨by rw [HR.out]; rfl, rfl⟩
          · by_cases cE : 16380 < at_
            · have HR := hid (show PE = 52 from by rw [HP.out]; simp [*] <;> omega)
              have f0 : decide (at_ < 1) = false := by simp; omega
              have g0 : ¬ (at_ < 1) := by omega
              have f1 : decide ((pn : Int) < at_) = false := by simp; omega
              have g1 : ¬ ((pn : Int) < at_) := by omega
              have f2 : decide ((pn : Int) - at_ < 20) = false := by simp; omega
              have g2 : ¬ ((pn : Int) - at_ < 20) := by omega
              have f3 : decide (high < -1) = false := by simp; omega
              have g3 : ¬ (high < -1) := by omega
              have f4 : decide ((4611686018427387903 : Int) < high) = false := by simp; omega
              have g4 : ¬ ((4611686018427387903 : Int) < high) := by omega
              have f5 : decide ((16380 : Int) < at_) = true := by simp; omega
              have g5 : ((16380 : Int) < at_) := by omega
              go_enter Try.func54, Try.ntmps54
              go_wp2
              go_ret
              exact ⟨by rw [HR.out]; rfl, rfl⟩
            · by_cases cF : 16400 < (pn : Int) - at_
              · have HR := hid (show PE = 52 from by rw [HP.out]; simp [*] <;> omega)
                have f0 : decide (at_ < 1) = false := by simp; omega
                have g0 : ¬ (at_ < 1) := by omega
                have f1 : decide ((pn : Int) < at_) = false := by simp; omega
                have g1 : ¬ ((pn : Int) < at_) := by omega
                have f2 : decide ((pn : Int) - at_ < 20) = false := by simp; omega
                have g2 : ¬ ((pn : Int) - at_ < 20) := by omega
                have f3 : decide (high < -1) = false := by simp; omega
                have g3 : ¬ (high < -1) := by omega
                have f4 : decide ((4611686018427387903 : Int) < high) = false := by simp; omega
                have g4 : ¬ ((4611686018427387903 : Int) < high) := by omega
                have f5 : decide ((16380 : Int) < at_) = false := by simp; omega
                have g5 : ¬ ((16380 : Int) < at_) := by omega
                have f6 : decide ((16400 : Int) < (pn : Int) - at_) = true := by simp; omega
                have g6 : ((16400 : Int) < (pn : Int) - at_) := by omega
                go_enter Try.func54, Try.ntmps54
                go_wp2
                go_ret
                exact ⟨by rw [HR.out]; rfl, rfl⟩
              · have HR := hid (show PE = 0 from by rw [HP.out]; simp [*] <;> omega)
                have f0 : decide (at_ < 1) = false := by simp; omega
                have g0 : ¬ (at_ < 1) := by omega
                have f1 : decide ((pn : Int) < at_) = false := by simp; omega
                have g1 : ¬ ((pn : Int) < at_) := by omega
                have f2 : decide ((pn : Int) - at_ < 20) = false := by simp; omega
                have g2 : ¬ ((pn : Int) - at_ < 20) := by omega
                have f3 : decide (high < -1) = false := by simp; omega
                have g3 : ¬ (high < -1) := by omega
                have f4 : decide ((4611686018427387903 : Int) < high) = false := by simp; omega
                have g4 : ¬ ((4611686018427387903 : Int) < high) := by omega
                have f5 : decide ((16380 : Int) < at_) = false := by simp; omega
                have g5 : ¬ ((16380 : Int) < at_) := by omega
                have f6 : decide ((16400 : Int) < (pn : Int) - at_) = false := by simp; omega
                have g6 : ¬ ((16400 : Int) < (pn : Int) - at_) := by omega
                go_enter Try.func54, Try.ntmps54
                go_wp2
                go_ret
                exact ⟨by rw [HR.out]; rfl, rfl⟩
set_option maxHeartbeats 4000000 in
theorem right_any (k i h : Sv) (w : World) : Calls Try.prog 44 #[.agg (kcells k i h)] w fun e w' => e = .returned (.bool (decide (kyE k.n i.n h.n = 0))) ∧ Q w w' := by
  obtain ⟨ka, kn, kc⟩ := k
  obtain ⟨ia, n, ic⟩ := i
  obtain ⟨ha, hn, hc⟩ := h
  dsimp only
  by_cases h1 : kn = 16
  · by_cases h2 : n = 12
    · by_cases h3 : hn = 16
      · rw [show kyE kn n hn = 0 from by unfold kyE; rw [if_pos ⟨h1, h2, h3⟩]]
        subst h1 h2 h3
        go_enter Try.func44, Try.ntmps44
        go_wp2
        go_ret
        exact ⟨rfl, (Q.refl w).alloc _⟩
      · rw [show kyE kn n hn = 70 from by unfold kyE; rw [if_neg (by omega)]]
        subst h1 h2
        have h3' : ((hn : Int) == 16) = false := by simp; omega
        go_enter Try.func44, Try.ntmps44
        go_wp2
        go_ret
        exact ⟨rfl, (Q.refl w).alloc _⟩
    · rw [show kyE kn n hn = 70 from by unfold kyE; rw [if_neg (by omega)]]
      subst h1
      have h3' : ((n : Int) == 12) = false := by simp; omega
      go_enter Try.func44, Try.ntmps44
      go_wp2
      go_ret
      exact ⟨rfl, (Q.refl w).alloc _⟩
  · rw [show kyE kn n hn = 70 from by unfold kyE; rw [if_neg (by omega)]]
    have h3' : ((kn : Int) == 16) = false := by simp; omega
    go_enter Try.func44, Try.ntmps44
    go_wp2
    go_ret
    exact ⟨rfl, (Q.refl w).alloc _⟩
end Go.Proofs.Ytihmlfpfpadfpaa
