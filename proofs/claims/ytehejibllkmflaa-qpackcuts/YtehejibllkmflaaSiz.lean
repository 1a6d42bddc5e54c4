/-
  What huff's Size, the inner sizeBy and the inner ones answer. Contracts that the statements' walks use.
-/
import Derived.Test.YtehejibllkmflaaCod
namespace Go.Proofs.Ytehejibllkmflaa
open Go.RowKit
set_option linter.unusedVariables false
set_option maxRecDepth 100000

theorem byte_nat {zs : List Int} (hz : ∀ y ∈ zs, 0 ≤ y ∧ y < 256) {k : Nat} (hk : k < zs.length) : ∃ y : Nat, y < 256 ∧ zs.getD k 0 = (y : Int) ∧ zs[k]? = some (y : Int) := by
  have h := hz zs[k] (List.getElem_mem _)
  obtain ⟨y, hy⟩ := Int.eq_ofNat_of_zero_le h.1
  exact ⟨y, by omega, by rw [List.getD_eq_getElem?_getD, List.getElem?_eq_getElem hk, Option.getD_some, hy], by rw [List.getElem?_eq_getElem hk, hy]⟩
theorem hN_take {zs : List Int} {k : Nat} {y : Nat} (h : zs[k]? = some (y : Int)) : hN (zs.take (k + 1)) = hN (zs.take k) + hl (y : Int) := by
  rw [List.take_add_one, h, Option.toList_some, hN_app]
  simp [hN]
theorem hN_take_le (zs : List Int) (k : Nat) : hN (zs.take k) ≤ 15 * k := by
  have h := (hN_bd (zs.take k)).2
  have := List.length_take_le k zs
  omega
theorem cdA_box {W : World} {b : Nat} (h : Blk W b 143 cdA.toArray) {y : Nat} (hy : y < 256) : W.cell? ⟨b, y * 2, none⟩ = some (.int .i64 (hc (y : Int))) ∧ W.cell? ⟨b, y * 2 + 1, none⟩ = some (.int .i64 (hl (y : Int) : Nat)) := by
  have g := cdA_get y hy
  rw [h.cell, h.cell, List.getElem?_toArray, List.getElem?_toArray]
  exact g

set_option maxHeartbeats 4000000 in
theorem sizeBy_any (a : Option Addr) (n c : Nat) (zs : List Int) (w : World) (hlen : zs.length = n) (hn : n ≤ 140737488355328) (hz : ∀ y ∈ zs, 0 ≤ y ∧ y < 256) (hseg : Seg w a zs) :
    Calls Try.prog 98 #[.agg cdA.toArray, .slice a n c] w fun e w' => e = .returned (.int .i64 (hM (hN zs) : Nat)) ∧ Q w w' := by
  have HL := hid hlen
  have HZ := hid hz
  have HS := hid hseg
  have HA := hid (fun (W : World) (b : Nat) (h : Blk W b 143 cdA.toArray) (y : Nat) (hy : y < 256) => cdA_box h hy)
  clear hlen hz hseg
  generalize hNZ : hN zs = NZ
  have HNZ := hid hNZ
  clear hNZ
  generalize hMZ : hM NZ = mz
  have HM := hid (show ((NZ : Nat) + 7 : Int) / 8 = (mz : Nat) from by rw [← hMZ]; unfold hM; omega)
  clear hMZ
  generalize cdA.toArray = C at *
  go_enter Try.func98, Try.ntmps98
  go_wp2_with fail
  generalize hW : World.alloc w _ = W0
  have HQ0 := hid (show Q w W0 from by rw [← hW]; exact (Q.refl w).alloc _)
  have HB0 := hid (show Blk W0 w.heap.size 143 C from by rw [← hW]; exact blk_new w C 143)
  clear hW
  generalize w.heap.size = b at *
  go_loopw [5, 10] (fun s i wr => Q w wr ∧ Blk wr b 143 C ∧ ∃ k : Nat, k ≤ n ∧ i = .int .i64 k ∧ s = .int .i64 (hN (zs.take k) : Nat)) (fun _ i _ => ((n : Int) - intOf i).toNat)
  case atStart => exact ⟨HQ0.out, HB0.out, 0, Nat.zero_le _, rfl, rfl⟩
  case round =>
    clear HQ0 HB0
    obtain ⟨hq, hb, k, hk, rfl, rfl⟩ := hrel
    have HQ := hid hq
    have HB := hid hb
    clear hq hb
    have hle := hN_take_le zs k
    by_cases hkn : k < n
    · have hki : (k : Int) < (n : Int) := by omega
      obtain ⟨y, hy, hg, hy2⟩ := byte_nat HZ.out (k := k) (by rw [HL.out]; exact hkn)
      obtain ⟨p, off, rfl, hc⟩ := HS.out (by intro e; have := HL.out; rw [e] at this; simp at this; omega)
      have hc1 := hc k (by rw [HL.out]; exact hkn)
      rw [hg, ← HQ.out.cell (lt_of_cell hc1)] at hc1
      have hcy := (HA.out wr b HB.out y hy).2
      have HN := hid (hN_take hy2)
      have hly := hl_bd (y : Int)
      have hyi : (y : Int) < 256 := by omega
      clear hc hy2 hg
      generalize hN (zs.take k) = s at *
      generalize hl (y : Int) = l at *
      go_wp2_with fail
      go_roundw
      case rel => exact ⟨HQ.out, HB.out, k + 1, by omega, by go_num, congrArg (Value.int .i64) (by rw [HN.out]; omega)⟩
      case measure => simp [intOf]; omega
    · obtain rfl : k = n := by omega
      have e : zs.take k = zs := List.take_of_length_le (by rw [HL.out]; exact Nat.le_refl _)
      rw [e, HNZ.out] at hle ⊢
      clear e
      go_wp2_with fail
      go_ret
      refine ⟨ret_int ?_, HQ.out⟩
      have := HM.out
      omega

set_option maxHeartbeats 4000000 in
theorem size_any (a : Option Addr) (n c : Nat) (zs : List Int) (w : World) (hlen : zs.length = n) (hn : n ≤ 140737488355328) (hz : ∀ y ∈ zs, 0 ≤ y ∧ y < 256) (hseg : Seg w a zs) :
    Calls Try.prog 92 #[.slice a n c] w fun e w' => e = .returned (.int .i64 (hM (hN zs) : Nat)) ∧ Q w w' := by
  have HC := hid codes_any
  have HB := hid (fun (W : World) (h : Q w W) => sizeBy_any a n c zs W hlen hn hz (hseg.q h))
  clear hlen hz hseg
  generalize cdA.toArray = C at *
  generalize hM (hN zs) = mz at *
  go_enter Try.func92, Try.ntmps92
  go_wp2_with (first | (go_at_call 99; refine (HC.out _).mono ?_; rintro e w1 ⟨rfl, q1⟩; have Q1 := hid q1; clear q1) | (go_at_call 98; refine (HB.out _ Q1.out).mono ?_; rintro e w2 ⟨rfl, q2⟩; have Q2 := hid (Q1.out.trans q2); clear q2))
  go_ret
  exact ⟨rfl, Q2.out⟩

/-- ones. -/
theorem ones_any (k : Nat) (w : World) (hk : k ≤ 62) : Calls Try.prog 96 #[.int .i64 k] w fun e w' => e = .returned (.int .i64 ((2 : Int) ^ k - 1)) ∧ w = w' := by
  have hp : (2 : Int) ^ k ≤ 4611686018427387904 := by
    have h := Nat.pow_le_pow_right (n := 2) (by decide) hk
    have e : ((2 ^ k : Nat) : Int) = (2 : Int) ^ k := by simp
    omega
  have hp0 := two_pos k
  have hw1 : IntKind.i64.wrap (1 * 2 ^ (min (k : Int).toNat 64)) = (2 : Int) ^ k := by rw [wrap_i64, show min (k : Int).toNat 64 = k by omega]; omega
  go_enter Try.func96, Try.ntmps96
  go_wp2_with fail
  go_ret
  exact ⟨rfl, rfl⟩
end Go.Proofs.Ytehejibllkmflaa
