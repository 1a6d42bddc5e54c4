/-
  What the document's own Join does: new memory with the pieces one behind the other. A contract that the statements' walks use.
-/
import Derived.Test.YtdlefmlienfjhaaCat
namespace Go.Proofs.Ytdlefmlienfjhaa
open Go.RowKit
set_option linter.unusedVariables false
set_option maxRecDepth 20000

theorem row_empty (w : World) : Row (w.alloc (.cells #[] 5)) ⟨some ⟨w.heap.size, 0, none⟩, 0, 0⟩ [] :=
  ⟨by simp, .inr ⟨w.heap.size, 0, #[], rfl, heap_alloc_new w _, Nat.le_refl _, Nat.zero_le _, by simp, fun j hj => by simp at hj⟩⟩
set_option maxHeartbeats 4000000 in
theorem join_any (pb m c : Nat) (P : Nat → Sv) (Z : Nat → List Int) (w : World) (hp : ∀ j, j < m → w.cell? ⟨pb, j, none⟩ = some (.slice (P j).a (P j).n (P j).c)) (hz : ∀ j, j < m → Seg w (P j).a (Z j) ∧ (Z j).length = (P j).n) (hm : m ≤ 100) (ht : (cat Z m).length ≤ 1000000) :
    Calls Try.prog 29 #[.slice (some ⟨pb, 0, none⟩) m c] w fun e w' => ∃ x : Sv, e = .returned (.slice x.a x.n x.c) ∧ Q w w' ∧ Row w' x (cat Z m) ∧ New w.heap.size x := by
  have HP := hid hp
  have HZ := hid hz
  have HT := hid ht
  clear hp hz ht
  go_enter Try.func29, Try.ntmps29
  go_wp2
  generalize hw1 : World.alloc w _ = w1
  have HQ1 := hid (show Q w w1 from by rw [← hw1]; exact (Q.refl w).alloc _)
  have HR1 := hid (show Row w1 ⟨some ⟨w.heap.size, 0, none⟩, 0, 0⟩ [] from by rw [← hw1]; exact row_empty w)
  clear hw1
  go_loopw [3, 4] (fun fo i wr => Q w wr ∧ ∃ (k : Nat) (x : Sv), k ≤ m ∧ i = .int .i64 k ∧ fo = .slice x.a x.n x.c ∧ Row wr x (cat Z k) ∧ New w.heap.size x) (fun _ i _ => ((m : Int) - intOf i).toNat)
  case atStart => exact ⟨HQ1.out, 0, ⟨some ⟨w.heap.size, 0, none⟩, 0, 0⟩, Nat.zero_le _, rfl, rfl, HR1.out, fun b e => by cases e; exact Nat.le_refl _⟩
  case round =>
    obtain ⟨hq, k, ⟨xa, xn, xc⟩, hk, rfl, rfl, hr, hnew⟩ := hrel
    have HQ := hid hq
    have HR := hid hr
    have HN := hid hnew
    clear hq hr hnew
    by_cases hkn : k < m
    · have hc := HP.out k hkn
      rw [← HQ.out.cell (lt_of_cell hc)] at hc
      have hz := HZ.out k hkn
      have hki : (k : Int) < (m : Int) := by omega
      have hle := cat_le (Z := Z) (j := k + 1) (m := m) (by omega)
      have hT := HT.out
      have hxl := Row.len HR.out
      rw [show cat Z (k + 1) = cat Z k ++ Z k from rfl, List.length_append] at hle
      obtain ⟨⟨ya, yn, yc⟩, w2, hrun, hrow, hkp, hb⟩ := row_append (ty := 30) (d := ⟨xa, xn, xc⟩) (x := .slice (P k).a (P k).n (P k).c) (m := (P k).n) (ys := Z k) HR.out (src_seg (hz.1.q HQ.out) hz.2) (by rw [← hz.2, ← hxl]; omega)
      have hns := new_step rfl HQ.out HN.out hkp hb
      have HX := hid hns
      have HY := hid (show Row w2 ⟨ya, yn, yc⟩ (cat Z (k + 1)) from hrow)
      clear hz hle hT hxl hkp hb hns hrow
      generalize P k = p at *
      go_wp2_with (at_builtin; refine Lib.wpList_append_run _ rfl _ _ _ _ rfl _ _ rfl rfl _ _ hrun ?_)
      go_roundw
      case rel => exact ⟨HX.out.1, k + 1, ⟨ya, yn, yc⟩, by omega, by go_num, rfl, HY.out, HX.out.2⟩
      case measure => simp [intOf]; omega
    · obtain rfl : k = m := by omega
      have hki : ¬ (k : Int) < (k : Int) := by omega
      go_wp2
      go_ret
      exact ⟨⟨xa, xn, xc⟩, rfl, HQ.out, HR.out, HN.out⟩
end Go.Proofs.Ytdlefmlienfjhaa
