/-
  What huff's inner match and ending answer. Contracts that the walk of Decode uses.
-/
import Derived.Test.YtehejibllkmflaaWin
namespace Go.Proofs.Ytehejibllkmflaa
open Go.RowKit
set_option linter.unusedVariables false
set_option maxRecDepth 100000

theorem ending_any (left a : Nat) (w : World) : Calls Try.prog 86 #[.int .i64 left, .int .i64 a] w fun e w' => e = .returned (.int .i64 (endN left a)) ∧ Q w w' := by
  have HON := hid ones_15
  have HE := hid (show endN left a = if left < 8 ∧ a = 32767 then 0 else if left < 15 then 141 else 140 from rfl)
  generalize endN left a = v at *
  go_enter Try.func86, Try.ntmps86
  by_cases h8 : left < 8
  · have h8i : (left : Int) < 8 := by omega
    by_cases ha : a = 32767
    · subst ha
      rw [if_pos ⟨h8, rfl⟩] at HE
      go_wp2_with (go_at_call 96; refine (HON.out _).mono ?_; rintro e w1 ⟨rfl, rfl⟩)
      go_ret
      exact ⟨ret_int HE.out.symm, Q.refl _⟩
    · have hai : ((a : Int) == 32767) = false := beq_eq_false_iff_ne.2 (by omega)
      rw [if_neg (fun k => ha k.2), if_pos (by omega)] at HE
      have h15 : (left : Int) < 15 := by omega
      clear ha
      go_wp2_with (go_at_call 96; refine (HON.out _).mono ?_; rintro e w1 ⟨rfl, rfl⟩)
      go_ret
      exact ⟨ret_int HE.out.symm, Q.refl _⟩
  · have h8i : decide ((left : Int) < 8) = false := decide_eq_false (by omega)
    rw [if_neg (fun k => h8 k.1)] at HE
    by_cases h15 : left < 15
    · have h15i : (left : Int) < 15 := by omega
      rw [if_pos h15] at HE
      go_wp2_with fail
      go_ret
      exact ⟨ret_int HE.out.symm, Q.refl _⟩
    · have h15i : decide ((left : Int) < 15) = false := decide_eq_false (by omega)
      rw [if_neg h15] at HE
      go_wp2_with fail
      go_ret
      exact ⟨ret_int HE.out.symm, Q.refl _⟩

theorem mtN_eq (a : Nat) : mtN a = if a / 1024 < 10 then (hq5.getD (a / 1024) 0, 5) else if a / 512 < 46 then (hq6.getD (a / 512 - 20) 0, 6) else if a / 256 < 124 then (hq7.getD (a / 256 - 92) 0, 7)
  else if a / 128 < 254 then (hq8.getD (a / 128 - 248) 0, 8) else if a < 32694 then (hq15.getD (a - 32512) 0, 15) else (0, 0) := rfl
/-- In none of the first k classes. -/
def NoC (k a : Nat) : Prop := (0 < k → ¬ a / 1024 < 10) ∧ (1 < k → ¬ a / 512 < 46) ∧ (2 < k → ¬ a / 256 < 124) ∧ (3 < k → ¬ a / 128 < 254) ∧ (4 < k → ¬ a < 32694)
theorem at_nat {m : List Int} (hm : ∀ y ∈ m, 0 ≤ y ∧ y < 256) {i : Nat} (hi : i < m.length) : ∃ y : Nat, m[i]? = some (y : Int) ∧ y < 256 ∧ m.getD i 0 = (y : Int) := by
  obtain ⟨y, h1, h2, h3⟩ := byte_nat hm hi
  exact ⟨y, h3, h1, h2⟩
theorem mem_bd : (∀ y ∈ hq5, 0 ≤ y ∧ y < 256) ∧ (∀ y ∈ hq6, 0 ≤ y ∧ y < 256) ∧ (∀ y ∈ hq7, 0 ≤ y ∧ y < 256) ∧ (∀ y ∈ hq8, 0 ≤ y ∧ y < 256) ∧ (∀ y ∈ hq15, 0 ≤ y ∧ y < 256) := by decide +kernel
set_option maxHeartbeats 16000000 in
theorem match_any (a : Nat) (w : World) (ha : a < 32768) : Calls Try.prog 85 #[.agg (clC 20 92 248 32512), .int .i64 a] w fun e w' => e = .returned (.tuple #[.int .u8 (mtN a).1, .int .i64 ((mtN a).2 : Nat)]) ∧ Q w w' := by
  have HB := hid behind_any
  have HM := hid (mtN_eq a)
  generalize mtN a = mt at *
  go_enter Try.func85, Try.ntmps85
  go_wp2_with fail
  generalize hW : World.alloc w _ = W0
  have HQ0 := hid (show Q w W0 from by rw [← hW]; exact (Q.refl w).alloc _)
  clear hW
  go_loopw [10] (fun i wr => Q w wr ∧ ∃ k : Nat, k ≤ 5 ∧ i = .int .i64 k ∧ NoC k a) (fun i _ => ((5 : Int) - intOf i).toNat)
  case atStart => exact ⟨HQ0.out, 0, by omega, rfl, by refine ⟨?_, ?_, ?_, ?_, ?_⟩ <;> intro h <;> omega⟩
  case round =>
    clear HQ0
    obtain ⟨hq, k, hk, rfl, hN⟩ := hrel
    have HQ := hid hq
    have HN := hid hN
    clear hq hN
    have hcs : k = 0 ∨ k = 1 ∨ k = 2 ∨ k = 3 ∨ k = 4 ∨ k = 5 := by omega
    clear hk
    rcases hcs with rfl | rfl | rfl | rfl | rfl | rfl
    · have hix : ∀ W, (Instr.index 125 (.agg (clC 20 92 248 32512)) (.int .i64 0)).run Try.prog W = .ok (.agg #[.int .i64 5, .int .i64 0, .string (strOfNums hq5)]) W := fun W => by kernel_rfl
      obtain ⟨d, hd⟩ : ∃ d : Nat, a / 1024 = d := ⟨_, rfl⟩
      have hdi : (a : Int) / 1024 = (d : Int) := by omega
      have hp := HN.out
      have HBB := hid (fun W => behind_any 5 0 hq5 10 W (by decide) (by decide) (by decide) (by decide))
      by_cases hlt : d < 10
      · have hlti : (d : Int) < 10 := by omega
        have hge : 0 ≤ d := by have h1 := hp.1; have h2 := hp.2.1; have h3 := hp.2.2.1; have h4 := hp.2.2.2.1; omega
        obtain ⟨y, hy1, hy2, hy3⟩ := at_nat (m := hq5) mem_bd.1 (i := d) (by show _ < 10; omega)
        rw [if_pos (by omega)] at HM
        rw [hd, hy3] at HM
        obtain ⟨i, hi⟩ : ∃ i : Nat, d = i := ⟨_, rfl⟩
        rw [hi] at hy1
        have hsb : (d : Int) - 0 = (i : Int) := by omega
        have hsg : ∀ W, (Instr.index 9 (.string (strOfNums hq5)) (.int .i64 (i : Int))).run Try.prog W = .ok (.int .u8 (y : Int)) W := fun W => str_get hy1 hy2 .i64 W
        have HMM := hid HM.out
        clear HM hy1 hy2 hy3 hp hd hi
        go_wp2_with (go_at_call 95; refine (HBB.out _).mono ?_; rintro e w1 ⟨rfl, q1⟩; have Q1 := hid (Q.trans (HQ.out.alloc _) q1); have C0 := (q1.cell (p := ⟨wr.heap.size, 0, none⟩) (by simp)).trans (World.cell?_alloc_new wr _ 124 0); have C1 := (q1.cell (p := ⟨wr.heap.size, 1, none⟩) (by simp)).trans (World.cell?_alloc_new wr _ 124 1); have C2 := (q1.cell (p := ⟨wr.heap.size, 2, none⟩) (by simp)).trans (World.cell?_alloc_new wr _ 124 2); simp only [List.getElem?_toArray, List.getElem?_cons_zero, List.getElem?_cons_succ] at C0 C1 C2; clear q1)
        go_quiet (fail)
        go_wp2
        go_ret2
        exact ⟨by rw [HMM.out]; rfl, Q1.out.drewN _⟩
      · have hlti : decide ((d : Int) < 10) = false := decide_eq_false (by omega)
        have HN2 := hid (show NoC 1 a from ⟨fun h => by omega, fun h => by omega, fun h => by omega, fun h => by omega, fun h => by omega⟩)
        clear hp hd
        go_wp2_with (go_at_call 95; refine (HBB.out _).mono ?_; rintro e w1 ⟨rfl, q1⟩; have Q1 := hid (Q.trans (HQ.out.alloc _) q1); clear q1)
        go_roundw
        case rel => exact ⟨Q1.out, 1, by omega, rfl, HN2.out⟩
        case measure => simp [intOf]
    · have hix : ∀ W, (Instr.index 125 (.agg (clC 20 92 248 32512)) (.int .i64 1)).run Try.prog W = .ok (.agg #[.int .i64 6, .int .i64 20, .string (strOfNums hq6)]) W := fun W => by kernel_rfl
      obtain ⟨d, hd⟩ : ∃ d : Nat, a / 512 = d := ⟨_, rfl⟩
      have hdi : (a : Int) / 512 = (d : Int) := by omega
      have hp := HN.out
      have HBB := hid (fun W => behind_any 6 20 hq6 46 W (by decide) (by decide) (by decide) (by decide))
      by_cases hlt : d < 46
      · have hlti : (d : Int) < 46 := by omega
        have hge : 20 ≤ d := by have h1 := hp.1; have h2 := hp.2.1; have h3 := hp.2.2.1; have h4 := hp.2.2.2.1; omega
        obtain ⟨y, hy1, hy2, hy3⟩ := at_nat (m := hq6) mem_bd.2.1 (i := d - 20) (by show _ < 26; omega)
        rw [if_neg (hp.1 (by omega)), if_pos (by omega)] at HM
        rw [hd, hy3] at HM
        obtain ⟨i, hi⟩ : ∃ i : Nat, d - 20 = i := ⟨_, rfl⟩
        rw [hi] at hy1
        have hsb : (d : Int) - 20 = (i : Int) := by omega
        have hsg : ∀ W, (Instr.index 9 (.string (strOfNums hq6)) (.int .i64 (i : Int))).run Try.prog W = .ok (.int .u8 (y : Int)) W := fun W => str_get hy1 hy2 .i64 W
        have HMM := hid HM.out
        clear HM hy1 hy2 hy3 hp hd hi
        go_wp2_with (go_at_call 95; refine (HBB.out _).mono ?_; rintro e w1 ⟨rfl, q1⟩; have Q1 := hid (Q.trans (HQ.out.alloc _) q1); have C0 := (q1.cell (p := ⟨wr.heap.size, 0, none⟩) (by simp)).trans (World.cell?_alloc_new wr _ 124 0); have C1 := (q1.cell (p := ⟨wr.heap.size, 1, none⟩) (by simp)).trans (World.cell?_alloc_new wr _ 124 1); have C2 := (q1.cell (p := ⟨wr.heap.size, 2, none⟩) (by simp)).trans (World.cell?_alloc_new wr _ 124 2); simp only [List.getElem?_toArray, List.getElem?_cons_zero, List.getElem?_cons_succ] at C0 C1 C2; clear q1)
        go_quiet (fail)
        go_wp2
        go_ret2
        exact ⟨by rw [HMM.out]; rfl, Q1.out.drewN _⟩
      · have hlti : decide ((d : Int) < 46) = false := decide_eq_false (by omega)
        have HN2 := hid (show NoC 2 a from ⟨fun h => hp.1 (by omega), fun h => by omega, fun h => by omega, fun h => by omega, fun h => by omega⟩)
        clear hp hd
        go_wp2_with (go_at_call 95; refine (HBB.out _).mono ?_; rintro e w1 ⟨rfl, q1⟩; have Q1 := hid (Q.trans (HQ.out.alloc _) q1); clear q1)
        go_roundw
        case rel => exact ⟨Q1.out, 2, by omega, rfl, HN2.out⟩
        case measure => simp [intOf]
    · have hix : ∀ W, (Instr.index 125 (.agg (clC 20 92 248 32512)) (.int .i64 2)).run Try.prog W = .ok (.agg #[.int .i64 7, .int .i64 92, .string (strOfNums hq7)]) W := fun W => by kernel_rfl
      obtain ⟨d, hd⟩ : ∃ d : Nat, a / 256 = d := ⟨_, rfl⟩
      have hdi : (a : Int) / 256 = (d : Int) := by omega
      have hp := HN.out
      have HBB := hid (fun W => behind_any 7 92 hq7 124 W (by decide) (by decide) (by decide) (by decide))
      by_cases hlt : d < 124
      · have hlti : (d : Int) < 124 := by omega
        have hge : 92 ≤ d := by have h1 := hp.1; have h2 := hp.2.1; have h3 := hp.2.2.1; have h4 := hp.2.2.2.1; omega
        obtain ⟨y, hy1, hy2, hy3⟩ := at_nat (m := hq7) mem_bd.2.2.1 (i := d - 92) (by show _ < 32; omega)
        rw [if_neg (hp.1 (by omega)), if_neg (hp.2.1 (by omega)), if_pos (by omega)] at HM
        rw [hd, hy3] at HM
        obtain ⟨i, hi⟩ : ∃ i : Nat, d - 92 = i := ⟨_, rfl⟩
        rw [hi] at hy1
        have hsb : (d : Int) - 92 = (i : Int) := by omega
        have hsg : ∀ W, (Instr.index 9 (.string (strOfNums hq7)) (.int .i64 (i : Int))).run Try.prog W = .ok (.int .u8 (y : Int)) W := fun W => str_get hy1 hy2 .i64 W
        have HMM := hid HM.out
        clear HM hy1 hy2 hy3 hp hd hi
        go_wp2_with (go_at_call 95; refine (HBB.out _).mono ?_; rintro e w1 ⟨rfl, q1⟩; have Q1 := hid (Q.trans (HQ.out.alloc _) q1); have C0 := (q1.cell (p := ⟨wr.heap.size, 0, none⟩) (by simp)).trans (World.cell?_alloc_new wr _ 124 0); have C1 := (q1.cell (p := ⟨wr.heap.size, 1, none⟩) (by simp)).trans (World.cell?_alloc_new wr _ 124 1); have C2 := (q1.cell (p := ⟨wr.heap.size, 2, none⟩) (by simp)).trans (World.cell?_alloc_new wr _ 124 2); simp only [List.getElem?_toArray, List.getElem?_cons_zero, List.getElem?_cons_succ] at C0 C1 C2; clear q1)
        go_quiet (fail)
        go_wp2
        go_ret2
        exact ⟨by rw [HMM.out]; rfl, Q1.out.drewN _⟩
      · have hlti : decide ((d : Int) < 124) = false := decide_eq_false (by omega)
        have HN2 := hid (show NoC 3 a from ⟨fun h => hp.1 (by omega), fun h => hp.2.1 (by omega), fun h => by omega, fun h => by omega, fun h => by omega⟩)
        clear hp hd
        go_wp2_with (go_at_call 95; refine (HBB.out _).mono ?_; rintro e w1 ⟨rfl, q1⟩; have Q1 := hid (Q.trans (HQ.out.alloc _) q1); clear q1)
        go_roundw
        case rel => exact ⟨Q1.out, 3, by omega, rfl, HN2.out⟩
        case measure => simp [intOf]
    · have hix : ∀ W, (Instr.index 125 (.agg (clC 20 92 248 32512)) (.int .i64 3)).run Try.prog W = .ok (.agg #[.int .i64 8, .int .i64 248, .string (strOfNums hq8)]) W := fun W => by kernel_rfl
      obtain ⟨d, hd⟩ : ∃ d : Nat, a / 128 = d := ⟨_, rfl⟩
      have hdi : (a : Int) / 128 = (d : Int) := by omega
      have hp := HN.out
      have HBB := hid (fun W => behind_any 8 248 hq8 254 W (by decide) (by decide) (by decide) (by decide))
      by_cases hlt : d < 254
      · have hlti : (d : Int) < 254 := by omega
        have hge : 248 ≤ d := by have h1 := hp.1; have h2 := hp.2.1; have h3 := hp.2.2.1; have h4 := hp.2.2.2.1; omega
        obtain ⟨y, hy1, hy2, hy3⟩ := at_nat (m := hq8) mem_bd.2.2.2.1 (i := d - 248) (by show _ < 6; omega)
        rw [if_neg (hp.1 (by omega)), if_neg (hp.2.1 (by omega)), if_neg (hp.2.2.1 (by omega)), if_pos (by omega)] at HM
        rw [hd, hy3] at HM
        obtain ⟨i, hi⟩ : ∃ i : Nat, d - 248 = i := ⟨_, rfl⟩
        rw [hi] at hy1
        have hsb : (d : Int) - 248 = (i : Int) := by omega
        have hsg : ∀ W, (Instr.index 9 (.string (strOfNums hq8)) (.int .i64 (i : Int))).run Try.prog W = .ok (.int .u8 (y : Int)) W := fun W => str_get hy1 hy2 .i64 W
        have HMM := hid HM.out
        clear HM hy1 hy2 hy3 hp hd hi
        go_wp2_with (go_at_call 95; refine (HBB.out _).mono ?_; rintro e w1 ⟨rfl, q1⟩; have Q1 := hid (Q.trans (HQ.out.alloc _) q1); have C0 := (q1.cell (p := ⟨wr.heap.size, 0, none⟩) (by simp)).trans (World.cell?_alloc_new wr _ 124 0); have C1 := (q1.cell (p := ⟨wr.heap.size, 1, none⟩) (by simp)).trans (World.cell?_alloc_new wr _ 124 1); have C2 := (q1.cell (p := ⟨wr.heap.size, 2, none⟩) (by simp)).trans (World.cell?_alloc_new wr _ 124 2); simp only [List.getElem?_toArray, List.getElem?_cons_zero, List.getElem?_cons_succ] at C0 C1 C2; clear q1)
        go_quiet (fail)
        go_wp2
        go_ret2
        exact ⟨by rw [HMM.out]; rfl, Q1.out.drewN _⟩
      · have hlti : decide ((d : Int) < 254) = false := decide_eq_false (by omega)
        have HN2 := hid (show NoC 4 a from ⟨fun h => hp.1 (by omega), fun h => hp.2.1 (by omega), fun h => hp.2.2.1 (by omega), fun h => by omega, fun h => by omega⟩)
        clear hp hd
        go_wp2_with (go_at_call 95; refine (HBB.out _).mono ?_; rintro e w1 ⟨rfl, q1⟩; have Q1 := hid (Q.trans (HQ.out.alloc _) q1); clear q1)
        go_roundw
        case rel => exact ⟨Q1.out, 4, by omega, rfl, HN2.out⟩
        case measure => simp [intOf]
    · have hix : ∀ W, (Instr.index 125 (.agg (clC 20 92 248 32512)) (.int .i64 4)).run Try.prog W = .ok (.agg #[.int .i64 15, .int .i64 32512, .string (strOfNums hq15)]) W := fun W => by kernel_rfl
      have hp := HN.out
      have HBB := hid (fun W => behind_any 15 32512 hq15 32694 W (by decide) (by decide) (by decide) (by decide))
      by_cases hlt : a < 32694
      · have hlti : (a : Int) < 32694 := by omega
        have hge : 32512 ≤ a := by have h1 := hp.1; have h2 := hp.2.1; have h3 := hp.2.2.1; have h4 := hp.2.2.2.1; omega
        obtain ⟨y, hy1, hy2, hy3⟩ := at_nat (m := hq15) mem_bd.2.2.2.2 (i := a - 32512) (by show _ < 182; omega)
        rw [if_neg (hp.1 (by omega)), if_neg (hp.2.1 (by omega)), if_neg (hp.2.2.1 (by omega)), if_neg (hp.2.2.2.1 (by omega)), if_pos (by omega)] at HM
        rw [hy3] at HM
        obtain ⟨i, hi⟩ : ∃ i : Nat, a - 32512 = i := ⟨_, rfl⟩
        rw [hi] at hy1
        have hsb : (a : Int) - 32512 = (i : Int) := by omega
        have hsg : ∀ W, (Instr.index 9 (.string (strOfNums hq15)) (.int .i64 (i : Int))).run Try.prog W = .ok (.int .u8 (y : Int)) W := fun W => str_get hy1 hy2 .i64 W
        have HMM := hid HM.out
        clear HM hy1 hy2 hy3 hp hi
        go_wp2_with (go_at_call 95; refine (HBB.out _).mono ?_; rintro e w1 ⟨rfl, q1⟩; have Q1 := hid (Q.trans (HQ.out.alloc _) q1); have C0 := (q1.cell (p := ⟨wr.heap.size, 0, none⟩) (by simp)).trans (World.cell?_alloc_new wr _ 124 0); have C1 := (q1.cell (p := ⟨wr.heap.size, 1, none⟩) (by simp)).trans (World.cell?_alloc_new wr _ 124 1); have C2 := (q1.cell (p := ⟨wr.heap.size, 2, none⟩) (by simp)).trans (World.cell?_alloc_new wr _ 124 2); simp only [List.getElem?_toArray, List.getElem?_cons_zero, List.getElem?_cons_succ] at C0 C1 C2; clear q1)
        go_quiet (fail)
        go_wp2
        go_ret2
        exact ⟨by rw [HMM.out]; rfl, Q1.out.drewN _⟩
      · have hlti : decide ((a : Int) < 32694) = false := decide_eq_false (by omega)
        have HN2 := hid (show NoC 5 a from ⟨fun h => hp.1 (by omega), fun h => hp.2.1 (by omega), fun h => hp.2.2.1 (by omega), fun h => hp.2.2.2.1 (by omega), fun h => by omega⟩)
        clear hp
        go_wp2_with (go_at_call 95; refine (HBB.out _).mono ?_; rintro e w1 ⟨rfl, q1⟩; have Q1 := hid (Q.trans (HQ.out.alloc _) q1); clear q1)
        go_roundw
        case rel => exact ⟨Q1.out, 5, by omega, rfl, HN2.out⟩
        case measure => simp [intOf]
    · have hp := HN.out
      rw [if_neg (hp.1 (by omega)), if_neg (hp.2.1 (by omega)), if_neg (hp.2.2.1 (by omega)), if_neg (hp.2.2.2.1 (by omega)), if_neg (hp.2.2.2.2 (by omega))] at HM
      have HMM := hid HM.out
      clear HM hp
      go_wp2
      go_ret2
      exact ⟨by rw [HMM.out]; rfl, HQ.out⟩
end Go.Proofs.Ytehejibllkmflaa
