/-
  What a reading's zeros does: a contract that the statements' walks use.
-/
import Derived.Test.YtdoodbaogmdloabRdTwo
namespace Go.Proofs.Ytdoodbaogmdloab
open Go.RowKit
set_option linter.unusedVariables false
set_option maxRecDepth 20000

/-- How many zeros stand at the beginning. -/
def zrun : List Int → Nat
  | [] => 0
  | x :: r => if x = 0 then zrun r + 1 else 0
theorem zrun_le (l : List Int) : zrun l ≤ l.length := by
  induction l with
  | nil => simp [zrun]
  | cons x r ih => simp only [zrun]; split <;> simp <;> omega
theorem zrun_drop {l : List Int} {k : Nat} (hk : k < l.length) : zrun (l.drop k) = if l.getD k 0 = 0 then zrun (l.drop (k + 1)) + 1 else 0 := by
  rw [List.drop_eq_getElem_cons hk, zrun, List.getD_eq_getElem?_getD, List.getElem?_eq_getElem hk]; rfl

def zerosO (zs : List Int) (P : Nat) : Out Int := .ok (1 + zrun (zs.drop (P + 1)) : Nat) ((P + 1 + zrun (zs.drop (P + 1)) : Nat) : Int)

theorem someO_ok {zs : List Int} {p k : Int} (hk : 0 ≤ k) (hpk : p + k ≤ zs.length) : someO zs p k = .ok ((zs.drop p.toNat).take k.toNat) (p + k) := by
  have e : takeR zs p 0 k = ((zs.drop p.toNat).take k.toNat, p + k, 0) := by
    unfold takeR
    rw [if_neg (by simp), if_neg (by omega), if_neg (by omega)]
  unfold someO
  rw [e]
  rfl

section
variable (rk rb g : Nat) (b : Sv) (zs : List Int) (P : Nat) (w : World)
set_option maxHeartbeats 2000000 in
theorem zeros_at (h : Rg w rk rb g b zs P (P + 1)) : Calls Try.prog 49 #[.pointer (some ⟨rk, 0, none⟩)] w fun e w' => Ans w rk rb g b zs P (fun m w' v => v = .int .i64 m) (zerosO zs P) e w' := by
  have HH := hid h
  have c0 := h.c0
  have c2 := h.c2
  have hsm := h.small
  have hlen := h.len
  have hp1 := h.p1
  obtain ⟨ba, bn, bc⟩ := b
  dsimp only at *
  have hPl : P < zs.length := by omega
  obtain ⟨bb, off, rfl, hcell⟩ := h.seg (by intro e; rw [e] at hPl; simp at hPl)
  have HC := hid hcell
  have HL := hid hlen
  clear h hcell hlen
  have EX := hid (show ∀ (j : Nat) (v : Value) (w1 : World) (k : Nat) {n : Int} {m : List Int} {q : Int}, ((1 + j : Nat) : Int) = n → zrun (zs.drop (P + 1)) = j → Keep (fun k => k = rb) (w.drewN k) w1 → someO zs ((P : Int) + 1) j = .ok m q → Rg w1 rk rb g ⟨some ⟨bb, off, none⟩, bn, bc⟩ zs P q → Ans w rk rb g ⟨some ⟨bb, off, none⟩, bn, bc⟩ zs P (fun m w' v => v = .int .i64 m) (zerosO zs P) (.returned (.int .i64 n)) w1 from by
    intro j v w1 k n m q hn hf hk ho hr
    refine ⟨Keep.ofDrewN hk, .inl ⟨n, q, _, ?_, rfl, rfl, hr⟩⟩
    have hz := zrun_le (zs.drop (P + 1))
    rw [List.length_drop, hf] at hz
    rw [someO_ok (by omega) (by omega)] at ho
    cases ho
    unfold zerosO
    rw [hf, ← hn]
    congr 1)
  go_enter Try.func49, Try.ntmps49
  go_wp2
  go_loopw [3] (fun n wr => (∃ k, wr = w.drewN k) ∧ ∃ j : Nat, n = .int .i64 ((1 + j : Nat) : Int) ∧ P + 1 + j ≤ bn ∧ zrun (zs.drop (P + 1)) = j + zrun (zs.drop (P + 1 + j))) (fun n _ => ((bn : Int) - intOf n).toNat)
  case atStart => exact ⟨⟨0, rfl⟩, 0, rfl, by omega, by simp⟩
  case round =>
    obtain ⟨⟨k, rfl⟩, j, rfl, hj, hz⟩ := hrel
    have HZ := hid hz
    clear hz
    have hw : IntKind.i64.wrap ((P : Int) + ((1 + j : Nat) : Int)) = ((P + 1 + j : Nat) : Int) := by rw [IntKind.wrap_i64]; omega
    have hw2 : IntKind.i64.wrap (((1 + j : Nat) : Int) - 1) = (j : Int) := by rw [IntKind.wrap_i64]; omega
    have hw3 : IntKind.i64.wrap (((1 + j : Nat) : Int) + 1) = ((1 + (j + 1) : Nat) : Int) := by rw [IntKind.wrap_i64]; omega
    generalize hn : ((1 + j : Nat) : Int) = n at *
    generalize hn1 : ((1 + (j + 1) : Nat) : Int) = n1 at *
    by_cases hlt : P + 1 + j < bn
    · have hx := HC.out (P + 1 + j) (by rw [HL.out]; exact hlt)
      have HD := hid (zrun_drop (l := zs) (k := P + 1 + j) (by rw [HL.out]; exact hlt))
      have hl1 : decide (((P + 1 + j : Nat) : Int) < (bn : Int)) = true := by simp only [decide_eq_true_eq]; omega
      have hl2 : ((P + 1 + j : Nat) : Int) < (bn : Int) := by omega
      have hl3 : (0 : Int) ≤ ((P + 1 + j : Nat) : Int) := by omega
      generalize hi : P + 1 + j = i at *
      have hl4 : decide (i < bn) = true := by simp [hlt]
      have HN := hid hn
      have HN1 := hid hn1
      have HI := hid hi
      clear hn hn1 hi
      by_cases hx0 : zs.getD i 0 = 0
      · rw [hx0] at hx
        have HE := hid (show zrun (zs.drop (P + 1)) = (j + 1) + zrun (zs.drop (i + 1)) from by rw [HZ.out, HD.out, if_pos hx0]; omega)
        clear hx0
        go_wp2
        go_quiet (fail)
        go_wp2
        go_roundw
        case rel => exact ⟨⟨_, rfl⟩, j + 1, by rw [← HN1.out], by have := HI.out; omega, by rw [HE.out]; have := HI.out; rw [show P + 1 + (j + 1) = i + 1 by omega]⟩
        case measure => have := HN.out; have := HN1.out; have := HI.out; simp [intOf]; omega
      · have hx1 : (zs.getD i 0 == 0) = false := by simpa using hx0
        have HF := hid (show zrun (zs.drop (P + 1)) = j from by rw [HZ.out, HD.out, if_neg hx0]; omega)
        have hji : P + 1 + j ≤ bn := by have := HI.out; omega
        generalize zs.getD i 0 = xx at *
        go_wp2
        go_quiet (fail)
        go_wp2_with fail
        refine (some_at rk rb g _ zs P ((P : Int) + 1) _ j (HH.out.q ((Q.refl w).drewN _))).mono ?_
        rintro e w1 ⟨hk, ⟨m, q, v, ho, rfl, hv, hr⟩ | ⟨hs, rfl⟩⟩
        · have HA := hid (EX.out j v w1 _ HN.out HF.out hk ho hr)
          clear hk ho hv hr
          go_wp2
          go_ret
          exact HA.out
        · exact absurd (someO_ok (by omega) (by rw [HL.out]; have := HI.out; omega)) (hs _ _)
    · have HF := hid (show zrun (zs.drop (P + 1)) = j from by rw [HZ.out, List.drop_of_length_le (by rw [HL.out]; omega)]; rfl)
      have hl1 : decide (((P + 1 + j : Nat) : Int) < (bn : Int)) = false := by simp only [decide_eq_false_iff_not]; omega
      have hl2 : ¬ ((P + 1 + j : Nat) : Int) < (bn : Int) := by omega
      have hji : P + 1 + j ≤ bn := by omega
      generalize hi : P + 1 + j = i at *
      have hl4 : decide (i < bn) = false := by simp; omega
      have HN := hid hn
      have HN1 := hid hn1
      have HI := hid hi
      clear hn hn1 hi
      go_wp2
      go_quiet (fail)
      go_wp2_with fail
      refine (some_at rk rb g _ zs P ((P : Int) + 1) _ j (HH.out.q ((Q.refl w).drewN _))).mono ?_
      rintro e w1 ⟨hk, ⟨m, q, v, ho, rfl, hv, hr⟩ | ⟨hs, rfl⟩⟩
      · have HA := hid (EX.out j v w1 _ HN.out HF.out hk ho hr)
        clear hk ho hv hr
        go_wp2
        go_ret
        exact HA.out
      · exact absurd (someO_ok (by omega) (by rw [HL.out]; have := HI.out; omega)) (hs _ _)
end
end Go.Proofs.Ytdoodbaogmdloab
