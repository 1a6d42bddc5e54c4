/-
  The document's own Join of many bytes: a contract that the statements' walks use.
-/
import Derived.Test.YtbhhajmfdffdbaaRBld
namespace Go.Proofs.Ytbhhajmfdffdbaa
open Go.RowKit
set_option linter.unusedVariables false
set_option maxRecDepth 20000

theorem row_append_w {w : World} {d : Sv} {zs ys : List Int} {x : Value} {m : Nat} {ty : TypeId} (h : Row w d zs) (hs : Src Try.prog 1 22 x m (u8s ys) w) (hn : d.n + m ≤ 140737488375808) :
    ∃ d' w', (Builtin.append_ #[22, 22] ty #[.slice d.a d.n d.c, x]).run Try.prog w = .ok (.slice d'.a d'.n d'.c) w' ∧ Row w' d' (zs ++ ys) ∧ Keep (fun b => blk d.a = some b) w w' ∧ (blk d'.a = blk d.a ∨ blk d'.a = some w.heap.size) := by
  obtain ⟨i0, hi, hz0, hz1, hz2⟩ := info_parts info5
  obtain ⟨a', c', w', h1, h2, h3, h4⟩ := sub_append (P := Try.prog) (ty := ty) Try.underlying22 hi hz0 hz1 hz2 rfl h hs (by unfold maxLen; omega) (by omega)
  exact ⟨⟨a', d.n + m, c'⟩, w', h1, by show Sub _ _ _ _ _ _ (u8s _); rw [show u8s (zs ++ ys) = u8s zs ++ u8s ys from List.map_append]; exact h2, h3, h4⟩

set_option maxHeartbeats 4000000 in
theorem join_w (pb m c : Nat) (P : Nat → Sv) (Z : Nat → List Int) (w : World) (hp : ∀ j, j < m → w.cell? ⟨pb, j, none⟩ = some (.slice (P j).a (P j).n (P j).c)) (hz : ∀ j, j < m → Seg w (P j).a (Z j) ∧ (Z j).length = (P j).n) (hm : m ≤ 100) (ht : (cat Z m).length ≤ 140737488375808) :
    Calls Try.prog 21 #[.slice (some ⟨pb, 0, none⟩) m c] w fun e w' => ∃ x : Sv, e = .returned (.slice x.a x.n x.c) ∧ Q w w' ∧ Row w' x (cat Z m) ∧ New w.heap.size x := by
  have HP := hid hp
  have HZ := hid hz
  have HT := hid ht
  clear hp hz ht
  go_enter Try.func21, Try.ntmps21
  go_wp2
  generalize hw1 : World.alloc w _ = w1
  have HQ1 := hid (show Q w w1 from by rw [← hw1]; exact (Q.refl w).alloc _)
  have HR1 := hid (show Row w1 ⟨some ⟨w.heap.size, 0, none⟩, 0, 0⟩ [] from by rw [← hw1]; exact row_empty w)
  clear hw1
  go_loopw [3, 4] (fun fo i wr => Q w wr ∧ ∃ (k : Nat) (x : Sv), k ≤ m ∧ i = .int .i64 k ∧ fo = .slice x.a x.n x.c ∧ Row wr x (cat Z k) ∧ New w.heap.size x) (fun _ i _ => ((m : Int) - intOf i).toNat)
  case atStart => exact ⟨HQ1.out, 0, ⟨some ⟨w.heap.size, 0, none⟩, 0, 0⟩, Nat.zero_le _, rfl, rfl, HR1.out, fun b e => by cases e; exact Nat.le_refl _⟩
  case round =>
    obtain ⟨hq, k, ⟨xa, xn, xc⟩, hk, rfl, rfl, hr, hnew⟩ := hrel
    have HQ := hid hq
    have HR := hid hr
    have HN := hid hnew
    clear hq hr hnew
    by_cases hkn : k < m
    · have hc := HP.out k hkn
      rw [← HQ.out.cell (lt_of_cell hc)] at hc
      have hz := HZ.out k hkn
      have hki : (k : Int) < (m : Int) := by omega
      have hle := cat_le (Z := Z) (j := k + 1) (m := m) (by omega)
      have hT := HT.out
      have hxl := Row.len HR.out
      rw [show cat Z (k + 1) = cat Z k ++ Z k from rfl, List.length_append] at hle
      obtain ⟨⟨ya, yn, yc⟩, w2, hrun, hrow, hkp, hb⟩ := row_append_w (ty := 22) (d := ⟨xa, xn, xc⟩) (x := .slice (P k).a (P k).n (P k).c) (m := (P k).n) (ys := Z k) HR.out (src_seg (hz.1.q HQ.out) hz.2) (by rw [← hz.2, ← hxl]; omega)
      have hns := new_step rfl HQ.out HN.out hkp hb
      have HX := hid hns
      have HY := hid (show Row w2 ⟨ya, yn, yc⟩ (cat Z (k + 1)) from hrow)
      clear hz hle hT hxl hkp hb hns hrow
      generalize P k = p at *
      go_wp2_with (at_builtin; refine Lib.wpList_append_run _ rfl _ _ _ _ rfl _ _ rfl rfl _ _ hrun ?_)
      go_roundw
      case rel => exact ⟨HX.out.1, k + 1, ⟨ya, yn, yc⟩, by omega, by go_num, rfl, HY.out, HX.out.2⟩
      case measure => simp [intOf]; omega
    · obtain rfl : k = m := by omega
      have hki : ¬ (k : Int) < (k : Int) := by omega
      go_wp2
      go_ret
      exact ⟨⟨xa, xn, xc⟩, rfl, HQ.out, HR.out, HN.out⟩
/-- .. of two pieces. -/
theorem join_two (w : World) (pb : Nat) (hpb : w.heap.size = pb) (cs : Array Value) (x y : Sv) (hcs : cs = #[.slice x.a x.n x.c, .slice y.a y.n y.c]) (xs ys : List Int) (hx : Ib w x xs) (hy : Ib w y ys) (ht : xs.length + ys.length ≤ 140737488375808) :
    Calls Try.prog 21 #[.slice (some ⟨pb, 0, none⟩) 2 2] (w.alloc (.cells cs 22)) fun e w' => ∃ r : Sv, e = .returned (.slice r.a r.n r.c) ∧ Q w w' ∧ Row w' r (xs ++ ys) ∧ New w.heap.size r := by
  subst hpb
  subst hcs
  have q : Q w (w.alloc (.cells #[.slice x.a x.n x.c, .slice y.a y.n y.c] 22)) := (Q.refl w).alloc _
  have e : cat (fun j => if j = 0 then xs else ys) 2 = xs ++ ys := by simp [cat]
  refine (join_w w.heap.size 2 2 (fun j => if j = 0 then x else y) (fun j => if j = 0 then xs else ys) _ (by
      intro j hj
      rw [cell_of_row _ w.heap.size j _ 22 (0, 0) (heap_alloc_new w _)]
      rcases (show j = 0 ∨ j = 1 by omega) with rfl | rfl <;> simp) (fun j hj => by
      rcases (show j = 0 ∨ j = 1 by omega) with rfl | rfl
      · exact ⟨hx.s.q q, hx.l⟩
      · exact ⟨hy.s.q q, hy.l⟩) (by omega) (by rw [e]; simpa using ht)).mono ?_
  rintro r w1 ⟨z, rfl, q1, r1, n1⟩
  rw [e] at r1
  exact ⟨z, rfl, q.trans q1, r1, n1.mono q.size⟩
end Go.Proofs.Ytbhhajmfdffdbaa
