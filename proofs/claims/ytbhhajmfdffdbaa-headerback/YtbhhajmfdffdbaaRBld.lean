/-
  What the document's own Join and Build do: contracts that the statements' walks use.
-/
import Derived.Test.YtbhhajmfdffdbaaBld
import Derived.Test.YtbhhajmfdffdbaaRef
namespace Go.Proofs.Ytbhhajmfdffdbaa
open Go.RowKit
set_option linter.unusedVariables false
set_option maxRecDepth 20000

theorem row_empty (w : World) : Row (w.alloc (.cells #[] 5)) ⟨some ⟨w.heap.size, 0, none⟩, 0, 0⟩ [] :=
  ⟨by simp, .inr ⟨w.heap.size, 0, #[], rfl, heap_alloc_new w _, Nat.le_refl _, Nat.zero_le _, by simp, fun j hj => by simp at hj⟩⟩
set_option maxHeartbeats 4000000 in
theorem join_any (pb m c : Nat) (P : Nat → Sv) (Z : Nat → List Int) (w : World) (hp : ∀ j, j < m → w.cell? ⟨pb, j, none⟩ = some (.slice (P j).a (P j).n (P j).c)) (hz : ∀ j, j < m → Seg w (P j).a (Z j) ∧ (Z j).length = (P j).n) (hm : m ≤ 100) (ht : (cat Z m).length ≤ 1000000) :
    Calls Try.prog 21 #[.slice (some ⟨pb, 0, none⟩) m c] w fun e w' => ∃ x : Sv, e = .returned (.slice x.a x.n x.c) ∧ Q w w' ∧ Row w' x (cat Z m) ∧ New w.heap.size x := by
  have HP := hid hp
  have HZ := hid hz
  have HT := hid ht
  clear hp hz ht
  go_enter Try.func21, Try.ntmps21
  go_wp2
  generalize hw1 : World.alloc w _ = w1
  have HQ1 := hid (show Q w w1 from by rw [← hw1]; exact (Q.refl w).alloc _)
  have HR1 := hid (show Row w1 ⟨some ⟨w.heap.size, 0, none⟩, 0, 0⟩ [] from by rw [← hw1]; exact row_empty w)
  clear hw1
  go_loopw [3, 4] (fun fo i wr => Q w wr ∧ ∃ (k : Nat) (x : Sv), k ≤ m ∧ i = .int .i64 k ∧ fo = .slice x.a x.n x.c ∧ Row wr x (cat Z k) ∧ New w.heap.size x) (fun _ i _ => ((m : Int) - intOf i).toNat)
  case atStart => exact ⟨HQ1.out, 0, ⟨some ⟨w.heap.size, 0, none⟩, 0, 0⟩, Nat.zero_le _, rfl, rfl, HR1.out, fun b e => by cases e; exact Nat.le_refl _⟩
  case round =>
    obtain ⟨hq, k, ⟨xa, xn, xc⟩, hk, rfl, rfl, hr, hnew⟩ := hrel
    have HQ := hid hq
    have HR := hid hr
    have HN := hid hnew
    clear hq hr hnew
    by_cases hkn : k < m
    · have hc := HP.out k hkn
      rw [← HQ.out.cell (lt_of_cell hc)] at hc
      have hz := HZ.out k hkn
      have hki : (k : Int) < (m : Int) := by omega
      have hle := cat_le (Z := Z) (j := k + 1) (m := m) (by omega)
      have hT := HT.out
      have hxl := Row.len HR.out
      rw [show cat Z (k + 1) = cat Z k ++ Z k from rfl, List.length_append] at hle
      obtain ⟨⟨ya, yn, yc⟩, w2, hrun, hrow, hkp, hb⟩ := row_append (ty := 22) (d := ⟨xa, xn, xc⟩) (x := .slice (P k).a (P k).n (P k).c) (m := (P k).n) (ys := Z k) HR.out (src_seg (hz.1.q HQ.out) hz.2) (by rw [← hz.2, ← hxl]; omega)
      have hns := new_step rfl HQ.out HN.out hkp hb
      have HX := hid hns
      have HY := hid (show Row w2 ⟨ya, yn, yc⟩ (cat Z (k + 1)) from hrow)
      clear hz hle hT hxl hkp hb hns hrow
      generalize P k = p at *
      go_wp2_with (at_builtin; refine Lib.wpList_append_run _ rfl _ _ _ _ rfl _ _ rfl rfl _ _ hrun ?_)
      go_roundw
      case rel => exact ⟨HX.out.1, k + 1, ⟨ya, yn, yc⟩, by omega, by go_num, rfl, HY.out, HX.out.2⟩
      case measure => simp [intOf]; omega
    · obtain rfl : k = m := by omega
      have hki : ¬ (k : Int) < (k : Int) := by omega
      go_wp2
      go_ret
      exact ⟨⟨xa, xn, xc⟩, rfl, HQ.out, HR.out, HN.out⟩
theorem join_at (w : World) (pb : Nat) (hpb : w.heap.size = pb) (cs : Array Value) (xs : List Sv) (hcs : cs = pcs xs) (zss : List (List Int)) (hl : zss.length = xs.length) (h : ∀ j, j < xs.length → Ib w (xs.getD j nilS) (zss.getD j [])) (hm : xs.length ≤ 100) (ht : zss.flatten.length ≤ 1000000) :
    Calls Try.prog 21 #[.slice (some ⟨pb, 0, none⟩) xs.length xs.length] (w.alloc (.cells cs 22)) fun e w' => ∃ x : Sv, e = .returned (.slice x.a x.n x.c) ∧ Q w w' ∧ Row w' x zss.flatten ∧ New w.heap.size x := by
  subst hpb
  subst hcs
  have q : Q w (w.alloc (.cells (pcs xs) 22)) := (Q.refl w).alloc _
  have e : cat (fun j => zss.getD j []) xs.length = zss.flatten := by rw [cat_flat, ← hl, List.take_length]
  refine (join_any w.heap.size xs.length xs.length (fun j => xs.getD j nilS) (fun j => zss.getD j []) _ (by
      intro j hj
      rw [cell_of_row _ w.heap.size j _ 22 (0, 0) (heap_alloc_new w _)]
      simp [List.getD_eq_getElem?_getD, hj]) (fun j hj => ⟨(h j hj).s.q q, (h j hj).l⟩) hm (by rw [e]; exact ht)).mono ?_
  rintro r w1 ⟨x, rfl, q1, r1, n1⟩
  rw [e] at r1
  exact ⟨x, rfl, q.trans q1, r1, n1.mono q.size⟩
theorem join_q (X : World) (pb : Nat) (hpb : X.heap.size = pb) (W : World) (xs : List Sv) (cs : Array Value) (hcs : cs = pcs xs) (hq : Q (X.alloc (.cells cs 22)) W) (zss : List (List Int)) (hl : zss.length = xs.length) (h : ∀ j, j < xs.length → Ib W (xs.getD j nilS) (zss.getD j [])) (hm : xs.length ≤ 100) (ht : zss.flatten.length ≤ 1000000) :
    Calls Try.prog 21 #[.slice (some ⟨pb, 0, none⟩) xs.length xs.length] W fun e w' => ∃ x : Sv, e = .returned (.slice x.a x.n x.c) ∧ Q W w' ∧ Row w' x zss.flatten ∧ New W.heap.size x := by
  subst hpb
  subst hcs
  have e : cat (fun j => zss.getD j []) xs.length = zss.flatten := by rw [cat_flat, ← hl, List.take_length]
  refine (join_any X.heap.size xs.length xs.length (fun j => xs.getD j nilS) (fun j => zss.getD j []) W (by
      intro j hj
      have hc : (X.alloc (.cells (pcs xs) 22)).cell? ⟨X.heap.size, j, none⟩ = some (.slice (xs.getD j nilS).a (xs.getD j nilS).n (xs.getD j nilS).c) := by
        rw [cell_of_row _ X.heap.size j _ 22 (0, 0) (heap_alloc_new X _)]
        simp [List.getD_eq_getElem?_getD, hj]
      rw [hq.cell (lt_of_cell hc)]; exact hc) (fun j hj => ⟨(h j hj).s, (h j hj).l⟩) hm (by rw [e]; exact ht)).mono ?_
  rintro r w1 ⟨x, rfl, q1, r1, n1⟩
  rw [e] at r1
  exact ⟨x, rfl, q1, r1, n1⟩
theorem ib5 {w : World} {x0 x1 x2 x3 x4 : Sv} {z0 z1 z2 z3 z4 : List Int} (h0 : Ib w x0 z0) (h1 : Ib w x1 z1) (h2 : Ib w x2 z2) (h3 : Ib w x3 z3) (h4 : Ib w x4 z4) : ∀ j, j < [x0, x1, x2, x3, x4].length → Ib w ([x0, x1, x2, x3, x4].getD j nilS) ([z0, z1, z2, z3, z4].getD j []) := by
  intro j hj
  rcases (show j = 0 ∨ j = 1 ∨ j = 2 ∨ j = 3 ∨ j = 4 by simp at hj; omega) with rfl | rfl | rfl | rfl | rfl
  · exact h0
  · exact h1
  · exact h2
  · exact h3
  · exact h4
set_option maxHeartbeats 4000000 in
theorem rbuild_o (kd ve : Int) (dl sl tl vl : List Int) (ln : Int) (d s t v : Sv) (width : Int) (w : World) (h1 : kd ≠ 1) (h2 : kd ≠ 2) (h3 : kd ≠ 3) (h6 : kd ≠ 6) :
    Calls Try.prog 18 #[hv ⟨kd, ve, dl, sl, tl, vl, ln⟩ d s t v, .int .i64 width] w fun e w' => ∃ x : Sv, e = .returned (.tuple #[.slice x.a x.n x.c, .int .i64 (bldE ⟨kd, ve, dl, sl, tl, vl, ln⟩ width)]) ∧ Q w w' ∧ Row w' x (bldR ⟨kd, ve, dl, sl, tl, vl, ln⟩ width) := by
  have HE := hid (show bldE ⟨kd, ve, dl, sl, tl, vl, ln⟩ width = 50 from by unfold bldE; dsimp only; rw [if_pos ⟨h1, h2, h3, h6⟩])
  rw [show bldR ⟨kd, ve, dl, sl, tl, vl, ln⟩ width = [] from by unfold bldR; rw [HE.out, if_neg (by decide)], HE.out]
  have k1 : (kd != 1) = true := by simp [h1]
  have k2 : (kd != 2) = true := by simp [h2]
  have k3 : (kd != 3) = true := by simp [h3]
  have k6 : (kd != 6) = true := by simp [h6]
  have m1 : (kd == 1) = false := by simp [h1]
  have m2 : (kd == 2) = false := by simp [h2]
  have m3 : (kd == 3) = false := by simp [h3]
  have m6 : (kd == 6) = false := by simp [h6]
  obtain ⟨da, dn, dc⟩ := d
  obtain ⟨sa, sn, sc⟩ := s
  obtain ⟨ta, tn, tc⟩ := t
  obtain ⟨va, vn, vc⟩ := v
  go_enter Try.func18, Try.ntmps18
  go_wp2
  go_ret2
  exact ⟨nilS, rfl, (Q.refl w).alloc _, sub_nil _ _ _⟩
set_option maxHeartbeats 8000000 in
theorem rbuild_6 (ve : Int) (dl sl tl vl : List Int) (ln : Int) (d s t v : Sv) (width : Int) (w : World) (hd : Ib w d dl) (hs : Ib w s sl) (ht : Ib w t tl) :
    Calls Try.prog 18 #[hv ⟨6, ve, dl, sl, tl, vl, ln⟩ d s t v, .int .i64 width] w fun e w' => ∃ x : Sv, e = .returned (.tuple #[.slice x.a x.n x.c, .int .i64 (bldE ⟨6, ve, dl, sl, tl, vl, ln⟩ width)]) ∧ Q w w' ∧ Row w' x (bldR ⟨6, ve, dl, sl, tl, vl, ln⟩ width) := by
  have HD := hid hd
  have HS := hid hs
  have HT := hid ht
  clear hd hs ht
  obtain ⟨da, dn, dc⟩ := d
  obtain ⟨sa, sn, sc⟩ := s
  obtain ⟨ta, tn, tc⟩ := t
  obtain ⟨va, vn, vc⟩ := v
  have e1 : dl.length = dn := HD.out.l
  have e2 : sl.length = sn := HS.out.l
  have e3 : tl.length = tn := HT.out.l
  by_cases h1 : width < 1
  · have HE := hid (show bldE ⟨6, ve, dl, sl, tl, vl, ln⟩ width = 10 from by unfold bldE; dsimp only; rw [if_neg (by omega), if_pos (by omega)])
    rw [show bldR ⟨6, ve, dl, sl, tl, vl, ln⟩ width = [] from by unfold bldR; rw [HE.out, if_neg (by decide)], HE.out]
    clear e1 e2 e3
    go_enter Try.func18, Try.ntmps18
    go_wp2
    go_ret2
    exact ⟨nilS, rfl, (Q.refl w).alloc _, sub_nil _ _ _⟩
  by_cases h2 : 4 < width
  · have HE := hid (show bldE ⟨6, ve, dl, sl, tl, vl, ln⟩ width = 10 from by unfold bldE; dsimp only; rw [if_neg (by omega), if_pos (by omega)])
    rw [show bldR ⟨6, ve, dl, sl, tl, vl, ln⟩ width = [] from by unfold bldR; rw [HE.out, if_neg (by decide)], HE.out]
    clear e1 e2 e3
    go_enter Try.func18, Try.ntmps18
    go_wp2
    go_ret2
    exact ⟨nilS, rfl, (Q.refl w).alloc _, sub_nil _ _ _⟩
  by_cases h3 : (20 : Int) < (dn : Int)
  · have HE := hid (show bldE ⟨6, ve, dl, sl, tl, vl, ln⟩ width = 61 from by unfold bldE; dsimp only; rw [if_neg (by omega), if_neg (by omega), if_pos (by omega)])
    rw [show bldR ⟨6, ve, dl, sl, tl, vl, ln⟩ width = [] from by unfold bldR; rw [HE.out, if_neg (by decide)], HE.out]
    clear e1 e2 e3
    go_enter Try.func18, Try.ntmps18
    go_wp2
    go_ret2
    exact ⟨nilS, rfl, (Q.refl w).alloc _, sub_nil _ _ _⟩
  have HE := hid (show bldE ⟨6, ve, dl, sl, tl, vl, ln⟩ width = 0 from by unfold bldE; dsimp only; rw [if_neg (by omega), if_neg (by omega), if_neg (by omega), if_neg (by omega), if_neg (by omega)])
  rw [show bldR ⟨6, ve, dl, sl, tl, vl, ln⟩ width = bldL ⟨6, ve, dl, sl, tl, vl, ln⟩ width from by unfold bldR; rw [HE.out, if_pos rfl], HE.out]
  have Ld := hid e1
  have Ls := hid e2
  have Lt := hid e3
  have hd20 : dn ≤ 20 := by omega
  clear e1 e2 e3
  have hw4 : width = 1 ∨ width = 2 ∨ width = 3 ∨ width = 4 := by omega
  clear h1 h2
  rcases hw4 with rfl | rfl | rfl | rfl
  · have HBL := hid (show bldL ⟨6, ve, dl, sl, tl, vl, ln⟩ 1 = ([[64], dl] : List (List Int)).flatten from by unfold bldL; simp [fstB])
    have HLN := hid (show (([[64], dl] : List (List Int)).flatten).length ≤ 1000000 from by have := Ld.out; simp [this]; omega)
    go_enter Try.func18, Try.ntmps18
    go_wp2_with fail
    generalize hw1 : World.alloc (World.alloc w _) _ = w1
    have Q1 := hid (show Q w w1 from by rw [← hw1]; exact ((Q.refl w).alloc _).alloc _)
    have I1 := hid (show Ib w1 ⟨some ⟨w.heap.size + 1, 0, none⟩, 1, 1⟩ [64] from by rw [← hw1]; exact ib_lit _ _ [64] rfl (w.heap.size + 1) (by simp) 1 rfl)
    have z1 : w1.heap.size = w.heap.size + 2 := by rw [← hw1]; simp
    clear hw1
    refine (join_at w1 (w.heap.size + 1 + 1) (by omega) #[.slice (some ⟨w.heap.size + 1, 0, none⟩) 1 1, .slice da dn dc] [⟨some ⟨w.heap.size + 1, 0, none⟩, 1, 1⟩, ⟨da, dn, dc⟩] rfl [[64], dl] rfl (ib2 I1.out (HD.out.q Q1.out)) (by show 2 ≤ 100; omega) HLN.out).mono ?_
    rw [← HBL.out]
    rintro e w2 ⟨x2, rfl, q2, r2, n2⟩
    have K2 := hid (Q1.out.trans q2)
    have R2 := hid r2
    clear q2 r2 n2 z1 I1 Q1
    go_wp2
    go_ret2
    exact ⟨x2, rfl, K2.out, R2.out⟩
  · have HBL := hid (show bldL ⟨6, ve, dl, sl, tl, vl, ln⟩ 2 = ([[65], dl] : List (List Int)).flatten from by unfold bldL; simp [fstB])
    have HLN := hid (show (([[65], dl] : List (List Int)).flatten).length ≤ 1000000 from by have := Ld.out; simp [this]; omega)
    go_enter Try.func18, Try.ntmps18
    go_wp2_with fail
    generalize hw1 : World.alloc (World.alloc w _) _ = w1
    have Q1 := hid (show Q w w1 from by rw [← hw1]; exact ((Q.refl w).alloc _).alloc _)
    have I1 := hid (show Ib w1 ⟨some ⟨w.heap.size + 1, 0, none⟩, 1, 1⟩ [65] from by rw [← hw1]; exact ib_lit _ _ [65] rfl (w.heap.size + 1) (by simp) 1 rfl)
    have z1 : w1.heap.size = w.heap.size + 2 := by rw [← hw1]; simp
    clear hw1
    refine (join_at w1 (w.heap.size + 1 + 1) (by omega) #[.slice (some ⟨w.heap.size + 1, 0, none⟩) 1 1, .slice da dn dc] [⟨some ⟨w.heap.size + 1, 0, none⟩, 1, 1⟩, ⟨da, dn, dc⟩] rfl [[65], dl] rfl (ib2 I1.out (HD.out.q Q1.out)) (by show 2 ≤ 100; omega) HLN.out).mono ?_
    rw [← HBL.out]
    rintro e w2 ⟨x2, rfl, q2, r2, n2⟩
    have K2 := hid (Q1.out.trans q2)
    have R2 := hid r2
    clear q2 r2 n2 z1 I1 Q1
    go_wp2
    go_ret2
    exact ⟨x2, rfl, K2.out, R2.out⟩
  · have HBL := hid (show bldL ⟨6, ve, dl, sl, tl, vl, ln⟩ 3 = ([[66], dl] : List (List Int)).flatten from by unfold bldL; simp [fstB])
    have HLN := hid (show (([[66], dl] : List (List Int)).flatten).length ≤ 1000000 from by have := Ld.out; simp [this]; omega)
    go_enter Try.func18, Try.ntmps18
    go_wp2_with fail
    generalize hw1 : World.alloc (World.alloc w _) _ = w1
    have Q1 := hid (show Q w w1 from by rw [← hw1]; exact ((Q.refl w).alloc _).alloc _)
    have I1 := hid (show Ib w1 ⟨some ⟨w.heap.size + 1, 0, none⟩, 1, 1⟩ [66] from by rw [← hw1]; exact ib_lit _ _ [66] rfl (w.heap.size + 1) (by simp) 1 rfl)
    have z1 : w1.heap.size = w.heap.size + 2 := by rw [← hw1]; simp
    clear hw1
    refine (join_at w1 (w.heap.size + 1 + 1) (by omega) #[.slice (some ⟨w.heap.size + 1, 0, none⟩) 1 1, .slice da dn dc] [⟨some ⟨w.heap.size + 1, 0, none⟩, 1, 1⟩, ⟨da, dn, dc⟩] rfl [[66], dl] rfl (ib2 I1.out (HD.out.q Q1.out)) (by show 2 ≤ 100; omega) HLN.out).mono ?_
    rw [← HBL.out]
    rintro e w2 ⟨x2, rfl, q2, r2, n2⟩
    have K2 := hid (Q1.out.trans q2)
    have R2 := hid r2
    clear q2 r2 n2 z1 I1 Q1
    go_wp2
    go_ret2
    exact ⟨x2, rfl, K2.out, R2.out⟩
  · have HBL := hid (show bldL ⟨6, ve, dl, sl, tl, vl, ln⟩ 4 = ([[67], dl] : List (List Int)).flatten from by unfold bldL; simp [fstB])
    have HLN := hid (show (([[67], dl] : List (List Int)).flatten).length ≤ 1000000 from by have := Ld.out; simp [this]; omega)
    go_enter Try.func18, Try.ntmps18
    go_wp2_with fail
    generalize hw1 : World.alloc (World.alloc w _) _ = w1
    have Q1 := hid (show Q w w1 from by rw [← hw1]; exact ((Q.refl w).alloc _).alloc _)
    have I1 := hid (show Ib w1 ⟨some ⟨w.heap.size + 1, 0, none⟩, 1, 1⟩ [67] from by rw [← hw1]; exact ib_lit _ _ [67] rfl (w.heap.size + 1) (by simp) 1 rfl)
    have z1 : w1.heap.size = w.heap.size + 2 := by rw [← hw1]; simp
    clear hw1
    refine (join_at w1 (w.heap.size + 1 + 1) (by omega) #[.slice (some ⟨w.heap.size + 1, 0, none⟩) 1 1, .slice da dn dc] [⟨some ⟨w.heap.size + 1, 0, none⟩, 1, 1⟩, ⟨da, dn, dc⟩] rfl [[67], dl] rfl (ib2 I1.out (HD.out.q Q1.out)) (by show 2 ≤ 100; omega) HLN.out).mono ?_
    rw [← HBL.out]
    rintro e w2 ⟨x2, rfl, q2, r2, n2⟩
    have K2 := hid (Q1.out.trans q2)
    have R2 := hid r2
    clear q2 r2 n2 z1 I1 Q1
    go_wp2
    go_ret2
    exact ⟨x2, rfl, K2.out, R2.out⟩
set_option maxHeartbeats 8000000 in
theorem rbuild_2 (ve : Int) (dl sl tl vl : List Int) (ln : Int) (d s t v : Sv) (width : Int) (w : World) (hd : Ib w d dl) (hs : Ib w s sl) (ht : Ib w t tl) :
    Calls Try.prog 18 #[hv ⟨2, ve, dl, sl, tl, vl, ln⟩ d s t v, .int .i64 width] w fun e w' => ∃ x : Sv, e = .returned (.tuple #[.slice x.a x.n x.c, .int .i64 (bldE ⟨2, ve, dl, sl, tl, vl, ln⟩ width)]) ∧ Q w w' ∧ Row w' x (bldR ⟨2, ve, dl, sl, tl, vl, ln⟩ width) := by
  have HD := hid hd
  have HS := hid hs
  have HT := hid ht
  clear hd hs ht
  obtain ⟨da, dn, dc⟩ := d
  obtain ⟨sa, sn, sc⟩ := s
  obtain ⟨ta, tn, tc⟩ := t
  obtain ⟨va, vn, vc⟩ := v
  have e1 : dl.length = dn := HD.out.l
  have e2 : sl.length = sn := HS.out.l
  have e3 : tl.length = tn := HT.out.l
  by_cases h1 : width < 1
  · have HE := hid (show bldE ⟨2, ve, dl, sl, tl, vl, ln⟩ width = 10 from by unfold bldE; dsimp only; rw [if_neg (by omega), if_pos (by omega)])
    rw [show bldR ⟨2, ve, dl, sl, tl, vl, ln⟩ width = [] from by unfold bldR; rw [HE.out, if_neg (by decide)], HE.out]
    clear e1 e2 e3
    go_enter Try.func18, Try.ntmps18
    go_wp2
    go_ret2
    exact ⟨nilS, rfl, (Q.refl w).alloc _, sub_nil _ _ _⟩
  by_cases h2 : 4 < width
  · have HE := hid (show bldE ⟨2, ve, dl, sl, tl, vl, ln⟩ width = 10 from by unfold bldE; dsimp only; rw [if_neg (by omega), if_pos (by omega)])
    rw [show bldR ⟨2, ve, dl, sl, tl, vl, ln⟩ width = [] from by unfold bldR; rw [HE.out, if_neg (by decide)], HE.out]
    clear e1 e2 e3
    go_enter Try.func18, Try.ntmps18
    go_wp2
    go_ret2
    exact ⟨nilS, rfl, (Q.refl w).alloc _, sub_nil _ _ _⟩
  by_cases h3 : (20 : Int) < (dn : Int)
  · have HE := hid (show bldE ⟨2, ve, dl, sl, tl, vl, ln⟩ width = 61 from by unfold bldE; dsimp only; rw [if_neg (by omega), if_neg (by omega), if_pos (by omega)])
    rw [show bldR ⟨2, ve, dl, sl, tl, vl, ln⟩ width = [] from by unfold bldR; rw [HE.out, if_neg (by decide)], HE.out]
    clear e1 e2 e3
    go_enter Try.func18, Try.ntmps18
    go_wp2
    go_ret2
    exact ⟨nilS, rfl, (Q.refl w).alloc _, sub_nil _ _ _⟩
  by_cases h4 : (20 : Int) < (sn : Int)
  · have HE := hid (show bldE ⟨2, ve, dl, sl, tl, vl, ln⟩ width = 61 from by unfold bldE; dsimp only; rw [if_neg (by omega), if_neg (by omega), if_pos (by omega)])
    rw [show bldR ⟨2, ve, dl, sl, tl, vl, ln⟩ width = [] from by unfold bldR; rw [HE.out, if_neg (by decide)], HE.out]
    clear e1 e2 e3
    go_enter Try.func18, Try.ntmps18
    go_wp2
    go_ret2
    exact ⟨nilS, rfl, (Q.refl w).alloc _, sub_nil _ _ _⟩
  by_cases h6 : ln < 1
  · have HE := hid (show bldE ⟨2, ve, dl, sl, tl, vl, ln⟩ width = 54 from by unfold bldE; dsimp only; rw [if_neg (by omega), if_neg (by omega), if_neg (by omega), if_neg (by omega), if_pos (by omega)])
    rw [show bldR ⟨2, ve, dl, sl, tl, vl, ln⟩ width = [] from by unfold bldR; rw [HE.out, if_neg (by decide)], HE.out]
    clear e1 e2 e3
    go_enter Try.func18, Try.ntmps18
    go_wp2
    go_ret2
    exact ⟨nilS, rfl, (Q.refl w).alloc _, sub_nil _ _ _⟩
  by_cases h7 : 16384 < ln
  · have HE := hid (show bldE ⟨2, ve, dl, sl, tl, vl, ln⟩ width = 54 from by unfold bldE; dsimp only; rw [if_neg (by omega), if_neg (by omega), if_neg (by omega), if_neg (by omega), if_pos (by omega)])
    rw [show bldR ⟨2, ve, dl, sl, tl, vl, ln⟩ width = [] from by unfold bldR; rw [HE.out, if_neg (by decide)], HE.out]
    clear e1 e2 e3
    go_enter Try.func18, Try.ntmps18
    go_wp2
    go_ret2
    exact ⟨nilS, rfl, (Q.refl w).alloc _, sub_nil _ _ _⟩
  have HE := hid (show bldE ⟨2, ve, dl, sl, tl, vl, ln⟩ width = 0 from by unfold bldE; dsimp only; rw [if_neg (by omega), if_neg (by omega), if_neg (by omega), if_neg (by omega), if_neg (by omega)])
  rw [show bldR ⟨2, ve, dl, sl, tl, vl, ln⟩ width = bldL ⟨2, ve, dl, sl, tl, vl, ln⟩ width from by unfold bldR; rw [HE.out, if_pos rfl], HE.out]
  have Ld := hid e1
  have Ls := hid e2
  have Lt := hid e3
  have hd20 : dn ≤ 20 := by omega
  have hs20 : sn ≤ 20 := by omega
  have HL1 := hid (show 1 ≤ ln ∧ ln ≤ 16384 from by omega)
  have LFL := hid (show (lenF ln).length ≤ 8 from by unfold lenF; split; simp; exact form_len ln)
  clear e1 e2 e3
  have hw4 : width = 1 ∨ width = 2 ∨ width = 3 ∨ width = 4 := by omega
  clear h1 h2
  rcases hw4 with rfl | rfl | rfl | rfl
  · have HLN := hid (show (([[208, 0, 0, 0, 1], [(dn : Int)], dl, [(sn : Int)], sl] : List (List Int)).flatten).length ≤ 100 from by have h1 := Ld.out; have h2 := Ls.out; simp [h1, h2]; omega)
    have d0 : (0 : Int) ≤ (dn : Int) := by omega
    have d1 : (dn : Int) < 256 := by omega
    have s0 : (0 : Int) ≤ (sn : Int) := by omega
    have s1 : (sn : Int) < 256 := by omega
    go_enter Try.func18, Try.ntmps18
    go_wp2_with fail
    generalize hw1 : World.alloc (World.alloc (World.alloc (World.alloc w _) _) _) _ = w1
    have Q1 := hid (show Q w w1 from by rw [← hw1]; exact ((((Q.refl w).alloc _).alloc _).alloc _).alloc _)
    have Bx1 := hid (show Box w1 30 w.heap.size ⟨2, ve, dl, sl, tl, vl, ln⟩ ⟨da, dn, dc⟩ ⟨sa, sn, sc⟩ ⟨ta, tn, tc⟩ ⟨va, vn, vc⟩ from by rw [← hw1]; exact Box.q (Box.q (Box.q (show Box (w.alloc _) 30 w.heap.size ⟨2, ve, dl, sl, tl, vl, ln⟩ ⟨da, dn, dc⟩ ⟨sa, sn, sc⟩ ⟨ta, tn, tc⟩ ⟨va, vn, vc⟩ from heap_alloc_new w _) ((Q.refl _).alloc _)) ((Q.refl _).alloc _)) ((Q.refl _).alloc _))
    have I1 := hid (show Ib w1 ⟨some ⟨w.heap.size + 1, 0, none⟩, 5, 5⟩ [208, 0, 0, 0, 1] from by rw [← hw1]; exact ((ib_lit _ _ [208, 0, 0, 0, 1] rfl (w.heap.size + 1) (by simp) 5 rfl).q ((Q.refl _).alloc _)).q ((Q.refl _).alloc _))
    have I2 := hid (show Ib w1 ⟨some ⟨w.heap.size + 1 + 1, 0, none⟩, 1, 1⟩ [(dn : Int)] from by rw [← hw1]; exact (ib_lit _ _ [(dn : Int)] rfl (w.heap.size + 1 + 1) (by simp) 1 rfl).q ((Q.refl _).alloc _))
    have I3 := hid (show Ib w1 ⟨some ⟨w.heap.size + 1 + 1 + 1, 0, none⟩, 1, 1⟩ [(sn : Int)] from by rw [← hw1]; exact ib_lit _ _ [(sn : Int)] rfl (w.heap.size + 1 + 1 + 1) (by simp) 1 rfl)
    have z1 : w1.heap.size = w.heap.size + 1 + 1 + 1 + 1 := by rw [← hw1]; simp
    clear hw1
    generalize w.heap.size = bx at *
    refine (join_at w1 (bx + 1 + 1 + 1 + 1) (by omega) #[.slice (some ⟨bx + 1, 0, none⟩) 5 5, .slice (some ⟨bx + 1 + 1, 0, none⟩) 1 1, .slice da dn dc, .slice (some ⟨bx + 1 + 1 + 1, 0, none⟩) 1 1, .slice sa sn sc] [⟨some ⟨bx + 1, 0, none⟩, 5, 5⟩, ⟨some ⟨bx + 1 + 1, 0, none⟩, 1, 1⟩, ⟨da, dn, dc⟩, ⟨some ⟨bx + 1 + 1 + 1, 0, none⟩, 1, 1⟩, ⟨sa, sn, sc⟩] rfl [[208, 0, 0, 0, 1], [(dn : Int)], dl, [(sn : Int)], sl] rfl (ib5 I1.out I2.out (HD.out.q Q1.out) I3.out (HS.out.q Q1.out)) (by show 5 ≤ 100; omega) (Nat.le_trans HLN.out (by omega))).mono ?_
    rintro e w2 ⟨⟨pa, pn, pc⟩, rfl, q2, r2, n2⟩
    have Q2 := hid (Q1.out.trans q2)
    have B2 := hid (Bx1.out.q q2)
    have I4 := hid (Row.ib r2)
    clear q2 r2 n2 z1 I1 I2 I3 Q1 Bx1
    generalize hb1 : ([[208, 0, 0, 0, 1], [(dn : Int)], dl, [(sn : Int)], sl] : List (List Int)).flatten = b1 at *
    have HB1 := hid hb1
    clear hb1
    have c0 := B2.out.c0
    have c4 := B2.out.c4
    have c6 := B2.out.c6
    try dsimp only at c0 c4 c6
    have HBL := hid (show bldL ⟨2, ve, dl, sl, tl, vl, ln⟩ 1 = ([b1, lenF ln] : List (List Int)).flatten from by
      rw [← HB1.out]; unfold bldL; dsimp only; rw [if_neg (by decide), if_neg (by decide), Ld.out, Ls.out]; simp [fstB])
    have HLN3 := hid (show (([b1, lenF ln] : List (List Int)).flatten).length ≤ 1000000 from by have h2 := HLN.out; have h3 := LFL.out; simp; omega)
    by_cases h64 : ln < 64
    · have HF := hid (show lenF ln = [64, ln] from by unfold lenF; rw [if_pos h64])
      have l0 : 0 ≤ ln := by have := HL1.out; omega
      have l1 : ln < 256 := by omega
      rw [HF.out] at HBL HLN3
      go_wp2_with fail
      generalize hwa : World.alloc w2 _ = wa
      have qa : Q w2 wa := by rw [← hwa]; exact (Q.refl _).alloc _
      have Ia := hid (show Ib wa ⟨some ⟨w2.heap.size, 0, none⟩, 2, 2⟩ [64, ln] from by rw [← hwa]; exact ib_lit _ _ [64, ln] rfl w2.heap.size rfl 2 rfl)
      have zwa : wa.heap.size = w2.heap.size + 1 := by rw [← hwa]; simp
      have Qa := hid (Q2.out.trans qa)
      have Ja := hid (I4.out.q qa)
      clear hwa qa
      refine (join_at wa (w2.heap.size + 1) (by omega) #[.slice pa pn pc, .slice (some ⟨w2.heap.size, 0, none⟩) 2 2] [⟨pa, pn, pc⟩, ⟨some ⟨w2.heap.size, 0, none⟩, 2, 2⟩] rfl [b1, [64, ln]] rfl (ib2 Ja.out Ia.out) (by show 2 ≤ 100; omega) HLN3.out).mono ?_
      rw [← HBL.out]
      rintro e wb ⟨xb, rfl, qb, rb, nb⟩
      have Kb := hid (Qa.out.trans qb)
      have Rb := hid rb
      clear qb rb nb zwa Ia Ja Qa
      go_wp2
      go_ret2
      exact ⟨xb, rfl, Kb.out, Rb.out⟩
    · have HF := hid (show lenF ln = form ln from by unfold lenF; rw [if_neg h64])
      rw [HF.out] at HBL HLN3
      have RP := hid (fun u => rput_ok ln u _ (by have := HL1.out; omega) (by have := HL1.out; omega) (hid rfl))
      go_wp2_with fail
      refine (RP.out w2).mono ?_
      rintro e wa ⟨ga, rfl, qa, oa⟩
      have Qa := hid (Q2.out.trans qa)
      have Ja := hid (I4.out.q qa)
      have Ia := hid (show Ib wa ⟨some ⟨ga, 0, none⟩, sz ln, sz ln⟩ (form ln) from ⟨oa.seg, form_length ln⟩)
      clear qa oa RP
      go_wp2_with fail
      refine (join_at wa wa.heap.size rfl #[.slice pa pn pc, .slice (some ⟨ga, 0, none⟩) (sz ln) (sz ln)] [⟨pa, pn, pc⟩, ⟨some ⟨ga, 0, none⟩, sz ln, sz ln⟩] rfl [b1, form ln] rfl (ib2 Ja.out Ia.out) (by show 2 ≤ 100; omega) HLN3.out).mono ?_
      rw [← HBL.out]
      rintro e wb ⟨xb, rfl, qb, rb, nb⟩
      have Kb := hid (Qa.out.trans qb)
      have Rb := hid rb
      clear qb rb nb Ia Ja Qa
      go_wp2
      go_ret2
      exact ⟨xb, rfl, Kb.out, Rb.out⟩
  · have HLN := hid (show (([[209, 0, 0, 0, 1], [(dn : Int)], dl, [(sn : Int)], sl] : List (List Int)).flatten).length ≤ 100 from by have h1 := Ld.out; have h2 := Ls.out; simp [h1, h2]; omega)
    have d0 : (0 : Int) ≤ (dn : Int) := by omega
    have d1 : (dn : Int) < 256 := by omega
    have s0 : (0 : Int) ≤ (sn : Int) := by omega
    have s1 : (sn : Int) < 256 := by omega
    go_enter Try.func18, Try.ntmps18
    go_wp2_with fail
    generalize hw1 : World.alloc (World.alloc (World.alloc (World.alloc w _) _) _) _ = w1
    have Q1 := hid (show Q w w1 from by rw [← hw1]; exact ((((Q.refl w).alloc _).alloc _).alloc _).alloc _)
    have Bx1 := hid (show Box w1 30 w.heap.size ⟨2, ve, dl, sl, tl, vl, ln⟩ ⟨da, dn, dc⟩ ⟨sa, sn, sc⟩ ⟨ta, tn, tc⟩ ⟨va, vn, vc⟩ from by rw [← hw1]; exact Box.q (Box.q (Box.q (show Box (w.alloc _) 30 w.heap.size ⟨2, ve, dl, sl, tl, vl, ln⟩ ⟨da, dn, dc⟩ ⟨sa, sn, sc⟩ ⟨ta, tn, tc⟩ ⟨va, vn, vc⟩ from heap_alloc_new w _) ((Q.refl _).alloc _)) ((Q.refl _).alloc _)) ((Q.refl _).alloc _))
    have I1 := hid (show Ib w1 ⟨some ⟨w.heap.size + 1, 0, none⟩, 5, 5⟩ [209, 0, 0, 0, 1] from by rw [← hw1]; exact ((ib_lit _ _ [209, 0, 0, 0, 1] rfl (w.heap.size + 1) (by simp) 5 rfl).q ((Q.refl _).alloc _)).q ((Q.refl _).alloc _))
    have I2 := hid (show Ib w1 ⟨some ⟨w.heap.size + 1 + 1, 0, none⟩, 1, 1⟩ [(dn : Int)] from by rw [← hw1]; exact (ib_lit _ _ [(dn : Int)] rfl (w.heap.size + 1 + 1) (by simp) 1 rfl).q ((Q.refl _).alloc _))
    have I3 := hid (show Ib w1 ⟨some ⟨w.heap.size + 1 + 1 + 1, 0, none⟩, 1, 1⟩ [(sn : Int)] from by rw [← hw1]; exact ib_lit _ _ [(sn : Int)] rfl (w.heap.size + 1 + 1 + 1) (by simp) 1 rfl)
    have z1 : w1.heap.size = w.heap.size + 1 + 1 + 1 + 1 := by rw [← hw1]; simp
    clear hw1
    generalize w.heap.size = bx at *
    refine (join_at w1 (bx + 1 + 1 + 1 + 1) (by omega) #[.slice (some ⟨bx + 1, 0, none⟩) 5 5, .slice (some ⟨bx + 1 + 1, 0, none⟩) 1 1, .slice da dn dc, .slice (some ⟨bx + 1 + 1 + 1, 0, none⟩) 1 1, .slice sa sn sc] [⟨some ⟨bx + 1, 0, none⟩, 5, 5⟩, ⟨some ⟨bx + 1 + 1, 0, none⟩, 1, 1⟩, ⟨da, dn, dc⟩, ⟨some ⟨bx + 1 + 1 + 1, 0, none⟩, 1, 1⟩, ⟨sa, sn, sc⟩] rfl [[209, 0, 0, 0, 1], [(dn : Int)], dl, [(sn : Int)], sl] rfl (ib5 I1.out I2.out (HD.out.q Q1.out) I3.out (HS.out.q Q1.out)) (by show 5 ≤ 100; omega) (Nat.le_trans HLN.out (by omega))).mono ?_
    rintro e w2 ⟨⟨pa, pn, pc⟩, rfl, q2, r2, n2⟩
    have Q2 := hid (Q1.out.trans q2)
    have B2 := hid (Bx1.out.q q2)
    have I4 := hid (Row.ib r2)
    clear q2 r2 n2 z1 I1 I2 I3 Q1 Bx1
    generalize hb1 : ([[209, 0, 0, 0, 1], [(dn : Int)], dl, [(sn : Int)], sl] : List (List Int)).flatten = b1 at *
    have HB1 := hid hb1
    clear hb1
    have c0 := B2.out.c0
    have c4 := B2.out.c4
    have c6 := B2.out.c6
    try dsimp only at c0 c4 c6
    have HBL := hid (show bldL ⟨2, ve, dl, sl, tl, vl, ln⟩ 2 = ([b1, lenF ln] : List (List Int)).flatten from by
      rw [← HB1.out]; unfold bldL; dsimp only; rw [if_neg (by decide), if_neg (by decide), Ld.out, Ls.out]; simp [fstB])
    have HLN3 := hid (show (([b1, lenF ln] : List (List Int)).flatten).length ≤ 1000000 from by have h2 := HLN.out; have h3 := LFL.out; simp; omega)
    by_cases h64 : ln < 64
    · have HF := hid (show lenF ln = [64, ln] from by unfold lenF; rw [if_pos h64])
      have l0 : 0 ≤ ln := by have := HL1.out; omega
      have l1 : ln < 256 := by omega
      rw [HF.out] at HBL HLN3
      go_wp2_with fail
      generalize hwa : World.alloc w2 _ = wa
      have qa : Q w2 wa := by rw [← hwa]; exact (Q.refl _).alloc _
      have Ia := hid (show Ib wa ⟨some ⟨w2.heap.size, 0, none⟩, 2, 2⟩ [64, ln] from by rw [← hwa]; exact ib_lit _ _ [64, ln] rfl w2.heap.size rfl 2 rfl)
      have zwa : wa.heap.size = w2.heap.size + 1 := by rw [← hwa]; simp
      have Qa := hid (Q2.out.trans qa)
      have Ja := hid (I4.out.q qa)
      clear hwa qa
      refine (join_at wa (w2.heap.size + 1) (by omega) #[.slice pa pn pc, .slice (some ⟨w2.heap.size, 0, none⟩) 2 2] [⟨pa, pn, pc⟩, ⟨some ⟨w2.heap.size, 0, none⟩, 2, 2⟩] rfl [b1, [64, ln]] rfl (ib2 Ja.out Ia.out) (by show 2 ≤ 100; omega) HLN3.out).mono ?_
      rw [← HBL.out]
      rintro e wb ⟨xb, rfl, qb, rb, nb⟩
      have Kb := hid (Qa.out.trans qb)
      have Rb := hid rb
      clear qb rb nb zwa Ia Ja Qa
      go_wp2
      go_ret2
      exact ⟨xb, rfl, Kb.out, Rb.out⟩
    · have HF := hid (show lenF ln = form ln from by unfold lenF; rw [if_neg h64])
      rw [HF.out] at HBL HLN3
      have RP := hid (fun u => rput_ok ln u _ (by have := HL1.out; omega) (by have := HL1.out; omega) (hid rfl))
      go_wp2_with fail
      refine (RP.out w2).mono ?_
      rintro e wa ⟨ga, rfl, qa, oa⟩
      have Qa := hid (Q2.out.trans qa)
      have Ja := hid (I4.out.q qa)
      have Ia := hid (show Ib wa ⟨some ⟨ga, 0, none⟩, sz ln, sz ln⟩ (form ln) from ⟨oa.seg, form_length ln⟩)
      clear qa oa RP
      go_wp2_with fail
      refine (join_at wa wa.heap.size rfl #[.slice pa pn pc, .slice (some ⟨ga, 0, none⟩) (sz ln) (sz ln)] [⟨pa, pn, pc⟩, ⟨some ⟨ga, 0, none⟩, sz ln, sz ln⟩] rfl [b1, form ln] rfl (ib2 Ja.out Ia.out) (by show 2 ≤ 100; omega) HLN3.out).mono ?_
      rw [← HBL.out]
      rintro e wb ⟨xb, rfl, qb, rb, nb⟩
      have Kb := hid (Qa.out.trans qb)
      have Rb := hid rb
      clear qb rb nb Ia Ja Qa
      go_wp2
      go_ret2
      exact ⟨xb, rfl, Kb.out, Rb.out⟩
  · have HLN := hid (show (([[210, 0, 0, 0, 1], [(dn : Int)], dl, [(sn : Int)], sl] : List (List Int)).flatten).length ≤ 100 from by have h1 := Ld.out; have h2 := Ls.out; simp [h1, h2]; omega)
    have d0 : (0 : Int) ≤ (dn : Int) := by omega
    have d1 : (dn : Int) < 256 := by omega
    have s0 : (0 : Int) ≤ (sn : Int) := by omega
    have s1 : (sn : Int) < 256 := by omega
    go_enter Try.func18, Try.ntmps18
    go_wp2_with fail
    generalize hw1 : World.alloc (World.alloc (World.alloc (World.alloc w _) _) _) _ = w1
    have Q1 := hid (show Q w w1 from by rw [← hw1]; exact ((((Q.refl w).alloc _).alloc _).alloc _).alloc _)
    have Bx1 := hid (show Box w1 30 w.heap.size ⟨2, ve, dl, sl, tl, vl, ln⟩ ⟨da, dn, dc⟩ ⟨sa, sn, sc⟩ ⟨ta, tn, tc⟩ ⟨va, vn, vc⟩ from by rw [← hw1]; exact Box.q (Box.q (Box.q (show Box (w.alloc _) 30 w.heap.size ⟨2, ve, dl, sl, tl, vl, ln⟩ ⟨da, dn, dc⟩ ⟨sa, sn, sc⟩ ⟨ta, tn, tc⟩ ⟨va, vn, vc⟩ from heap_alloc_new w _) ((Q.refl _).alloc _)) ((Q.refl _).alloc _)) ((Q.refl _).alloc _))
    have I1 := hid (show Ib w1 ⟨some ⟨w.heap.size + 1, 0, none⟩, 5, 5⟩ [210, 0, 0, 0, 1] from by rw [← hw1]; exact ((ib_lit _ _ [210, 0, 0, 0, 1] rfl (w.heap.size + 1) (by simp) 5 rfl).q ((Q.refl _).alloc _)).q ((Q.refl _).alloc _))
    have I2 := hid (show Ib w1 ⟨some ⟨w.heap.size + 1 + 1, 0, none⟩, 1, 1⟩ [(dn : Int)] from by rw [← hw1]; exact (ib_lit _ _ [(dn : Int)] rfl (w.heap.size + 1 + 1) (by simp) 1 rfl).q ((Q.refl _).alloc _))
    have I3 := hid (show Ib w1 ⟨some ⟨w.heap.size + 1 + 1 + 1, 0, none⟩, 1, 1⟩ [(sn : Int)] from by rw [← hw1]; exact ib_lit _ _ [(sn : Int)] rfl (w.heap.size + 1 + 1 + 1) (by simp) 1 rfl)
    have z1 : w1.heap.size = w.heap.size + 1 + 1 + 1 + 1 := by rw [← hw1]; simp
    clear hw1
    generalize w.heap.size = bx at *
    refine (join_at w1 (bx + 1 + 1 + 1 + 1) (by omega) #[.slice (some ⟨bx + 1, 0, none⟩) 5 5, .slice (some ⟨bx + 1 + 1, 0, none⟩) 1 1, .slice da dn dc, .slice (some ⟨bx + 1 + 1 + 1, 0, none⟩) 1 1, .slice sa sn sc] [⟨some ⟨bx + 1, 0, none⟩, 5, 5⟩, ⟨some ⟨bx + 1 + 1, 0, none⟩, 1, 1⟩, ⟨da, dn, dc⟩, ⟨some ⟨bx + 1 + 1 + 1, 0, none⟩, 1, 1⟩, ⟨sa, sn, sc⟩] rfl [[210, 0, 0, 0, 1], [(dn : Int)], dl, [(sn : Int)], sl] rfl (ib5 I1.out I2.out (HD.out.q Q1.out) I3.out (HS.out.q Q1.out)) (by show 5 ≤ 100; omega) (Nat.le_trans HLN.out (by omega))).mono ?_
    rintro e w2 ⟨⟨pa, pn, pc⟩, rfl, q2, r2, n2⟩
    have Q2 := hid (Q1.out.trans q2)
    have B2 := hid (Bx1.out.q q2)
    have I4 := hid (Row.ib r2)
    clear q2 r2 n2 z1 I1 I2 I3 Q1 Bx1
    generalize hb1 : ([[210, 0, 0, 0, 1], [(dn : Int)], dl, [(sn : Int)], sl] : List (List Int)).flatten = b1 at *
    have HB1 := hid hb1
    clear hb1
    have c0 := B2.out.c0
    have c4 := B2.out.c4
    have c6 := B2.out.c6
    try dsimp only at c0 c4 c6
    have HBL := hid (show bldL ⟨2, ve, dl, sl, tl, vl, ln⟩ 3 = ([b1, lenF ln] : List (List Int)).flatten from by
      rw [← HB1.out]; unfold bldL; dsimp only; rw [if_neg (by decide), if_neg (by decide), Ld.out, Ls.out]; simp [fstB])
    have HLN3 := hid (show (([b1, lenF ln] : List (List Int)).flatten).length ≤ 1000000 from by have h2 := HLN.out; have h3 := LFL.out; simp; omega)
    by_cases h64 : ln < 64
    · have HF := hid (show lenF ln = [64, ln] from by unfold lenF; rw [if_pos h64])
      have l0 : 0 ≤ ln := by have := HL1.out; omega
      have l1 : ln < 256 := by omega
      rw [HF.out] at HBL HLN3
      go_wp2_with fail
      generalize hwa : World.alloc w2 _ = wa
      have qa : Q w2 wa := by rw [← hwa]; exact (Q.refl _).alloc _
      have Ia := hid (show Ib wa ⟨some ⟨w2.heap.size, 0, none⟩, 2, 2⟩ [64, ln] from by rw [← hwa]; exact ib_lit _ _ [64, ln] rfl w2.heap.size rfl 2 rfl)
      have zwa : wa.heap.size = w2.heap.size + 1 := by rw [← hwa]; simp
      have Qa := hid (Q2.out.trans qa)
      have Ja := hid (I4.out.q qa)
      clear hwa qa
      refine (join_at wa (w2.heap.size + 1) (by omega) #[.slice pa pn pc, .slice (some ⟨w2.heap.size, 0, none⟩) 2 2] [⟨pa, pn, pc⟩, ⟨some ⟨w2.heap.size, 0, none⟩, 2, 2⟩] rfl [b1, [64, ln]] rfl (ib2 Ja.out Ia.out) (by show 2 ≤ 100; omega) HLN3.out).mono ?_
      rw [← HBL.out]
      rintro e wb ⟨xb, rfl, qb, rb, nb⟩
      have Kb := hid (Qa.out.trans qb)
      have Rb := hid rb
      clear qb rb nb zwa Ia Ja Qa
      go_wp2
      go_ret2
      exact ⟨xb, rfl, Kb.out, Rb.out⟩
    · have HF := hid (show lenF ln = form ln from by unfold lenF; rw [if_neg h64])
      rw [HF.out] at HBL HLN3
      have RP := hid (fun u => rput_ok ln u _ (by have := HL1.out; omega) (by have := HL1.out; omega) (hid rfl))
      go_wp2_with fail
      refine (RP.out w2).mono ?_
      rintro e wa ⟨ga, rfl, qa, oa⟩
      have Qa := hid (Q2.out.trans qa)
      have Ja := hid (I4.out.q qa)
      have Ia := hid (show Ib wa ⟨some ⟨ga, 0, none⟩, sz ln, sz ln⟩ (form ln) from ⟨oa.seg, form_length ln⟩)
      clear qa oa RP
      go_wp2_with fail
      refine (join_at wa wa.heap.size rfl #[.slice pa pn pc, .slice (some ⟨ga, 0, none⟩) (sz ln) (sz ln)] [⟨pa, pn, pc⟩, ⟨some ⟨ga, 0, none⟩, sz ln, sz ln⟩] rfl [b1, form ln] rfl (ib2 Ja.out Ia.out) (by show 2 ≤ 100; omega) HLN3.out).mono ?_
      rw [← HBL.out]
      rintro e wb ⟨xb, rfl, qb, rb, nb⟩
      have Kb := hid (Qa.out.trans qb)
      have Rb := hid rb
      clear qb rb nb Ia Ja Qa
      go_wp2
      go_ret2
      exact ⟨xb, rfl, Kb.out, Rb.out⟩
  · have HLN := hid (show (([[211, 0, 0, 0, 1], [(dn : Int)], dl, [(sn : Int)], sl] : List (List Int)).flatten).length ≤ 100 from by have h1 := Ld.out; have h2 := Ls.out; simp [h1, h2]; omega)
    have d0 : (0 : Int) ≤ (dn : Int) := by omega
    have d1 : (dn : Int) < 256 := by omega
    have s0 : (0 : Int) ≤ (sn : Int) := by omega
    have s1 : (sn : Int) < 256 := by omega
    go_enter Try.func18, Try.ntmps18
    go_wp2_with fail
    generalize hw1 : World.alloc (World.alloc (World.alloc (World.alloc w _) _) _) _ = w1
    have Q1 := hid (show Q w w1 from by rw [← hw1]; exact ((((Q.refl w).alloc _).alloc _).alloc _).alloc _)
    have Bx1 := hid (show Box w1 30 w.heap.size ⟨2, ve, dl, sl, tl, vl, ln⟩ ⟨da, dn, dc⟩ ⟨sa, sn, sc⟩ ⟨ta, tn, tc⟩ ⟨va, vn, vc⟩ from by rw [← hw1]; exact Box.q (Box.q (Box.q (show Box (w.alloc _) 30 w.heap.size ⟨2, ve, dl, sl, tl, vl, ln⟩ ⟨da, dn, dc⟩ ⟨sa, sn, sc⟩ ⟨ta, tn, tc⟩ ⟨va, vn, vc⟩ from heap_alloc_new w _) ((Q.refl _).alloc _)) ((Q.refl _).alloc _)) ((Q.refl _).alloc _))
    have I1 := hid (show Ib w1 ⟨some ⟨w.heap.size + 1, 0, none⟩, 5, 5⟩ [211, 0, 0, 0, 1] from by rw [← hw1]; exact ((ib_lit _ _ [211, 0, 0, 0, 1] rfl (w.heap.size + 1) (by simp) 5 rfl).q ((Q.refl _).alloc _)).q ((Q.refl _).alloc _))
    have I2 := hid (show Ib w1 ⟨some ⟨w.heap.size + 1 + 1, 0, none⟩, 1, 1⟩ [(dn : Int)] from by rw [← hw1]; exact (ib_lit _ _ [(dn : Int)] rfl (w.heap.size + 1 + 1) (by simp) 1 rfl).q ((Q.refl _).alloc _))
    have I3 := hid (show Ib w1 ⟨some ⟨w.heap.size + 1 + 1 + 1, 0, none⟩, 1, 1⟩ [(sn : Int)] from by rw [← hw1]; exact ib_lit _ _ [(sn : Int)] rfl (w.heap.size + 1 + 1 + 1) (by simp) 1 rfl)
    have z1 : w1.heap.size = w.heap.size + 1 + 1 + 1 + 1 := by rw [← hw1]; simp
    clear hw1
    generalize w.heap.size = bx at *
    refine (join_at w1 (bx + 1 + 1 + 1 + 1) (by omega) #[.slice (some ⟨bx + 1, 0, none⟩) 5 5, .slice (some ⟨bx + 1 + 1, 0, none⟩) 1 1, .slice da dn dc, .slice (some ⟨bx + 1 + 1 + 1, 0, none⟩) 1 1, .slice sa sn sc] [⟨some ⟨bx + 1, 0, none⟩, 5, 5⟩, ⟨some ⟨bx + 1 + 1, 0, none⟩, 1, 1⟩, ⟨da, dn, dc⟩, ⟨some ⟨bx + 1 + 1 + 1, 0, none⟩, 1, 1⟩, ⟨sa, sn, sc⟩] rfl [[211, 0, 0, 0, 1], [(dn : Int)], dl, [(sn : Int)], sl] rfl (ib5 I1.out I2.out (HD.out.q Q1.out) I3.out (HS.out.q Q1.out)) (by show 5 ≤ 100; omega) (Nat.le_trans HLN.out (by omega))).mono ?_
    rintro e w2 ⟨⟨pa, pn, pc⟩, rfl, q2, r2, n2⟩
    have Q2 := hid (Q1.out.trans q2)
    have B2 := hid (Bx1.out.q q2)
    have I4 := hid (Row.ib r2)
    clear q2 r2 n2 z1 I1 I2 I3 Q1 Bx1
    generalize hb1 : ([[211, 0, 0, 0, 1], [(dn : Int)], dl, [(sn : Int)], sl] : List (List Int)).flatten = b1 at *
    have HB1 := hid hb1
    clear hb1
    have c0 := B2.out.c0
    have c4 := B2.out.c4
    have c6 := B2.out.c6
    try dsimp only at c0 c4 c6
    have HBL := hid (show bldL ⟨2, ve, dl, sl, tl, vl, ln⟩ 4 = ([b1, lenF ln] : List (List Int)).flatten from by
      rw [← HB1.out]; unfold bldL; dsimp only; rw [if_neg (by decide), if_neg (by decide), Ld.out, Ls.out]; simp [fstB])
    have HLN3 := hid (show (([b1, lenF ln] : List (List Int)).flatten).length ≤ 1000000 from by have h2 := HLN.out; have h3 := LFL.out; simp; omega)
    by_cases h64 : ln < 64
    · have HF := hid (show lenF ln = [64, ln] from by unfold lenF; rw [if_pos h64])
      have l0 : 0 ≤ ln := by have := HL1.out; omega
      have l1 : ln < 256 := by omega
      rw [HF.out] at HBL HLN3
      go_wp2_with fail
      generalize hwa : World.alloc w2 _ = wa
      have qa : Q w2 wa := by rw [← hwa]; exact (Q.refl _).alloc _
      have Ia := hid (show Ib wa ⟨some ⟨w2.heap.size, 0, none⟩, 2, 2⟩ [64, ln] from by rw [← hwa]; exact ib_lit _ _ [64, ln] rfl w2.heap.size rfl 2 rfl)
      have zwa : wa.heap.size = w2.heap.size + 1 := by rw [← hwa]; simp
      have Qa := hid (Q2.out.trans qa)
      have Ja := hid (I4.out.q qa)
      clear hwa qa
      refine (join_at wa (w2.heap.size + 1) (by omega) #[.slice pa pn pc, .slice (some ⟨w2.heap.size, 0, none⟩) 2 2] [⟨pa, pn, pc⟩, ⟨some ⟨w2.heap.size, 0, none⟩, 2, 2⟩] rfl [b1, [64, ln]] rfl (ib2 Ja.out Ia.out) (by show 2 ≤ 100; omega) HLN3.out).mono ?_
      rw [← HBL.out]
      rintro e wb ⟨xb, rfl, qb, rb, nb⟩
      have Kb := hid (Qa.out.trans qb)
      have Rb := hid rb
      clear qb rb nb zwa Ia Ja Qa
      go_wp2
      go_ret2
      exact ⟨xb, rfl, Kb.out, Rb.out⟩
    · have HF := hid (show lenF ln = form ln from by unfold lenF; rw [if_neg h64])
      rw [HF.out] at HBL HLN3
      have RP := hid (fun u => rput_ok ln u _ (by have := HL1.out; omega) (by have := HL1.out; omega) (hid rfl))
      go_wp2_with fail
      refine (RP.out w2).mono ?_
      rintro e wa ⟨ga, rfl, qa, oa⟩
      have Qa := hid (Q2.out.trans qa)
      have Ja := hid (I4.out.q qa)
      have Ia := hid (show Ib wa ⟨some ⟨ga, 0, none⟩, sz ln, sz ln⟩ (form ln) from ⟨oa.seg, form_length ln⟩)
      clear qa oa RP
      go_wp2_with fail
      refine (join_at wa wa.heap.size rfl #[.slice pa pn pc, .slice (some ⟨ga, 0, none⟩) (sz ln) (sz ln)] [⟨pa, pn, pc⟩, ⟨some ⟨ga, 0, none⟩, sz ln, sz ln⟩] rfl [b1, form ln] rfl (ib2 Ja.out Ia.out) (by show 2 ≤ 100; omega) HLN3.out).mono ?_
      rw [← HBL.out]
      rintro e wb ⟨xb, rfl, qb, rb, nb⟩
      have Kb := hid (Qa.out.trans qb)
      have Rb := hid rb
      clear qb rb nb Ia Ja Qa
      go_wp2
      go_ret2
      exact ⟨xb, rfl, Kb.out, Rb.out⟩
set_option maxHeartbeats 8000000 in
theorem rbuild_3 (ve : Int) (dl sl tl vl : List Int) (ln : Int) (d s t v : Sv) (width : Int) (w : World) (hd : Ib w d dl) (hs : Ib w s sl) (ht : Ib w t tl) :
    Calls Try.prog 18 #[hv ⟨3, ve, dl, sl, tl, vl, ln⟩ d s t v, .int .i64 width] w fun e w' => ∃ x : Sv, e = .returned (.tuple #[.slice x.a x.n x.c, .int .i64 (bldE ⟨3, ve, dl, sl, tl, vl, ln⟩ width)]) ∧ Q w w' ∧ Row w' x (bldR ⟨3, ve, dl, sl, tl, vl, ln⟩ width) := by
  have HD := hid hd
  have HS := hid hs
  have HT := hid ht
  clear hd hs ht
  obtain ⟨da, dn, dc⟩ := d
  obtain ⟨sa, sn, sc⟩ := s
  obtain ⟨ta, tn, tc⟩ := t
  obtain ⟨va, vn, vc⟩ := v
  have e1 : dl.length = dn := HD.out.l
  have e2 : sl.length = sn := HS.out.l
  have e3 : tl.length = tn := HT.out.l
  by_cases h1 : width < 1
  · have HE := hid (show bldE ⟨3, ve, dl, sl, tl, vl, ln⟩ width = 10 from by unfold bldE; dsimp only; rw [if_neg (by omega), if_pos (by omega)])
    rw [show bldR ⟨3, ve, dl, sl, tl, vl, ln⟩ width = [] from by unfold bldR; rw [HE.out, if_neg (by decide)], HE.out]
    clear e1 e2 e3
    go_enter Try.func18, Try.ntmps18
    go_wp2
    go_ret2
    exact ⟨nilS, rfl, (Q.refl w).alloc _, sub_nil _ _ _⟩
  by_cases h2 : 4 < width
  · have HE := hid (show bldE ⟨3, ve, dl, sl, tl, vl, ln⟩ width = 10 from by unfold bldE; dsimp only; rw [if_neg (by omega), if_pos (by omega)])
    rw [show bldR ⟨3, ve, dl, sl, tl, vl, ln⟩ width = [] from by unfold bldR; rw [HE.out, if_neg (by decide)], HE.out]
    clear e1 e2 e3
    go_enter Try.func18, Try.ntmps18
    go_wp2
    go_ret2
    exact ⟨nilS, rfl, (Q.refl w).alloc _, sub_nil _ _ _⟩
  by_cases h3 : (20 : Int) < (dn : Int)
  · have HE := hid (show bldE ⟨3, ve, dl, sl, tl, vl, ln⟩ width = 61 from by unfold bldE; dsimp only; rw [if_neg (by omega), if_neg (by omega), if_pos (by omega)])
    rw [show bldR ⟨3, ve, dl, sl, tl, vl, ln⟩ width = [] from by unfold bldR; rw [HE.out, if_neg (by decide)], HE.out]
    clear e1 e2 e3
    go_enter Try.func18, Try.ntmps18
    go_wp2
    go_ret2
    exact ⟨nilS, rfl, (Q.refl w).alloc _, sub_nil _ _ _⟩
  by_cases h4 : (20 : Int) < (sn : Int)
  · have HE := hid (show bldE ⟨3, ve, dl, sl, tl, vl, ln⟩ width = 61 from by unfold bldE; dsimp only; rw [if_neg (by omega), if_neg (by omega), if_pos (by omega)])
    rw [show bldR ⟨3, ve, dl, sl, tl, vl, ln⟩ width = [] from by unfold bldR; rw [HE.out, if_neg (by decide)], HE.out]
    clear e1 e2 e3
    go_enter Try.func18, Try.ntmps18
    go_wp2
    go_ret2
    exact ⟨nilS, rfl, (Q.refl w).alloc _, sub_nil _ _ _⟩
  by_cases h6 : ln < 1
  · have HE := hid (show bldE ⟨3, ve, dl, sl, tl, vl, ln⟩ width = 54 from by unfold bldE; dsimp only; rw [if_neg (by omega), if_neg (by omega), if_neg (by omega), if_neg (by omega), if_pos (by omega)])
    rw [show bldR ⟨3, ve, dl, sl, tl, vl, ln⟩ width = [] from by unfold bldR; rw [HE.out, if_neg (by decide)], HE.out]
    clear e1 e2 e3
    go_enter Try.func18, Try.ntmps18
    go_wp2
    go_ret2
    exact ⟨nilS, rfl, (Q.refl w).alloc _, sub_nil _ _ _⟩
  by_cases h7 : 16384 < ln
  · have HE := hid (show bldE ⟨3, ve, dl, sl, tl, vl, ln⟩ width = 54 from by unfold bldE; dsimp only; rw [if_neg (by omega), if_neg (by omega), if_neg (by omega), if_neg (by omega), if_pos (by omega)])
    rw [show bldR ⟨3, ve, dl, sl, tl, vl, ln⟩ width = [] from by unfold bldR; rw [HE.out, if_neg (by decide)], HE.out]
    clear e1 e2 e3
    go_enter Try.func18, Try.ntmps18
    go_wp2
    go_ret2
    exact ⟨nilS, rfl, (Q.refl w).alloc _, sub_nil _ _ _⟩
  have HE := hid (show bldE ⟨3, ve, dl, sl, tl, vl, ln⟩ width = 0 from by unfold bldE; dsimp only; rw [if_neg (by omega), if_neg (by omega), if_neg (by omega), if_neg (by omega), if_neg (by omega)])
  rw [show bldR ⟨3, ve, dl, sl, tl, vl, ln⟩ width = bldL ⟨3, ve, dl, sl, tl, vl, ln⟩ width from by unfold bldR; rw [HE.out, if_pos rfl], HE.out]
  have Ld := hid e1
  have Ls := hid e2
  have Lt := hid e3
  have hd20 : dn ≤ 20 := by omega
  have hs20 : sn ≤ 20 := by omega
  have HL1 := hid (show 1 ≤ ln ∧ ln ≤ 16384 from by omega)
  have LFL := hid (show (lenF ln).length ≤ 8 from by unfold lenF; split; simp; exact form_len ln)
  clear e1 e2 e3
  have hw4 : width = 1 ∨ width = 2 ∨ width = 3 ∨ width = 4 := by omega
  clear h1 h2
  rcases hw4 with rfl | rfl | rfl | rfl
  · have HLN := hid (show (([[224, 0, 0, 0, 1], [(dn : Int)], dl, [(sn : Int)], sl] : List (List Int)).flatten).length ≤ 100 from by have h1 := Ld.out; have h2 := Ls.out; simp [h1, h2]; omega)
    have d0 : (0 : Int) ≤ (dn : Int) := by omega
    have d1 : (dn : Int) < 256 := by omega
    have s0 : (0 : Int) ≤ (sn : Int) := by omega
    have s1 : (sn : Int) < 256 := by omega
    go_enter Try.func18, Try.ntmps18
    go_wp2_with fail
    generalize hw1 : World.alloc (World.alloc (World.alloc (World.alloc w _) _) _) _ = w1
    have Q1 := hid (show Q w w1 from by rw [← hw1]; exact ((((Q.refl w).alloc _).alloc _).alloc _).alloc _)
    have Bx1 := hid (show Box w1 30 w.heap.size ⟨3, ve, dl, sl, tl, vl, ln⟩ ⟨da, dn, dc⟩ ⟨sa, sn, sc⟩ ⟨ta, tn, tc⟩ ⟨va, vn, vc⟩ from by rw [← hw1]; exact Box.q (Box.q (Box.q (show Box (w.alloc _) 30 w.heap.size ⟨3, ve, dl, sl, tl, vl, ln⟩ ⟨da, dn, dc⟩ ⟨sa, sn, sc⟩ ⟨ta, tn, tc⟩ ⟨va, vn, vc⟩ from heap_alloc_new w _) ((Q.refl _).alloc _)) ((Q.refl _).alloc _)) ((Q.refl _).alloc _))
    have I1 := hid (show Ib w1 ⟨some ⟨w.heap.size + 1, 0, none⟩, 5, 5⟩ [224, 0, 0, 0, 1] from by rw [← hw1]; exact ((ib_lit _ _ [224, 0, 0, 0, 1] rfl (w.heap.size + 1) (by simp) 5 rfl).q ((Q.refl _).alloc _)).q ((Q.refl _).alloc _))
    have I2 := hid (show Ib w1 ⟨some ⟨w.heap.size + 1 + 1, 0, none⟩, 1, 1⟩ [(dn : Int)] from by rw [← hw1]; exact (ib_lit _ _ [(dn : Int)] rfl (w.heap.size + 1 + 1) (by simp) 1 rfl).q ((Q.refl _).alloc _))
    have I3 := hid (show Ib w1 ⟨some ⟨w.heap.size + 1 + 1 + 1, 0, none⟩, 1, 1⟩ [(sn : Int)] from by rw [← hw1]; exact ib_lit _ _ [(sn : Int)] rfl (w.heap.size + 1 + 1 + 1) (by simp) 1 rfl)
    have z1 : w1.heap.size = w.heap.size + 1 + 1 + 1 + 1 := by rw [← hw1]; simp
    clear hw1
    generalize w.heap.size = bx at *
    refine (join_at w1 (bx + 1 + 1 + 1 + 1) (by omega) #[.slice (some ⟨bx + 1, 0, none⟩) 5 5, .slice (some ⟨bx + 1 + 1, 0, none⟩) 1 1, .slice da dn dc, .slice (some ⟨bx + 1 + 1 + 1, 0, none⟩) 1 1, .slice sa sn sc] [⟨some ⟨bx + 1, 0, none⟩, 5, 5⟩, ⟨some ⟨bx + 1 + 1, 0, none⟩, 1, 1⟩, ⟨da, dn, dc⟩, ⟨some ⟨bx + 1 + 1 + 1, 0, none⟩, 1, 1⟩, ⟨sa, sn, sc⟩] rfl [[224, 0, 0, 0, 1], [(dn : Int)], dl, [(sn : Int)], sl] rfl (ib5 I1.out I2.out (HD.out.q Q1.out) I3.out (HS.out.q Q1.out)) (by show 5 ≤ 100; omega) (Nat.le_trans HLN.out (by omega))).mono ?_
    rintro e w2 ⟨⟨pa, pn, pc⟩, rfl, q2, r2, n2⟩
    have Q2 := hid (Q1.out.trans q2)
    have B2 := hid (Bx1.out.q q2)
    have I4 := hid (Row.ib r2)
    clear q2 r2 n2 z1 I1 I2 I3 Q1 Bx1
    generalize hb1 : ([[224, 0, 0, 0, 1], [(dn : Int)], dl, [(sn : Int)], sl] : List (List Int)).flatten = b1 at *
    have HB1 := hid hb1
    clear hb1
    have c0 := B2.out.c0
    have c4 := B2.out.c4
    have c6 := B2.out.c6
    try dsimp only at c0 c4 c6
    have HBL := hid (show bldL ⟨3, ve, dl, sl, tl, vl, ln⟩ 1 = ([b1, lenF ln] : List (List Int)).flatten from by
      rw [← HB1.out]; unfold bldL; dsimp only; rw [if_neg (by decide), if_neg (by decide), Ld.out, Ls.out]; simp [fstB])
    have HLN3 := hid (show (([b1, lenF ln] : List (List Int)).flatten).length ≤ 1000000 from by have h2 := HLN.out; have h3 := LFL.out; simp; omega)
    by_cases h64 : ln < 64
    · have HF := hid (show lenF ln = [64, ln] from by unfold lenF; rw [if_pos h64])
      have l0 : 0 ≤ ln := by have := HL1.out; omega
      have l1 : ln < 256 := by omega
      rw [HF.out] at HBL HLN3
      go_wp2_with fail
      generalize hwa : World.alloc w2 _ = wa
      have qa : Q w2 wa := by rw [← hwa]; exact (Q.refl _).alloc _
      have Ia := hid (show Ib wa ⟨some ⟨w2.heap.size, 0, none⟩, 2, 2⟩ [64, ln] from by rw [← hwa]; exact ib_lit _ _ [64, ln] rfl w2.heap.size rfl 2 rfl)
      have zwa : wa.heap.size = w2.heap.size + 1 := by rw [← hwa]; simp
      have Qa := hid (Q2.out.trans qa)
      have Ja := hid (I4.out.q qa)
      clear hwa qa
      refine (join_at wa (w2.heap.size + 1) (by omega) #[.slice pa pn pc, .slice (some ⟨w2.heap.size, 0, none⟩) 2 2] [⟨pa, pn, pc⟩, ⟨some ⟨w2.heap.size, 0, none⟩, 2, 2⟩] rfl [b1, [64, ln]] rfl (ib2 Ja.out Ia.out) (by show 2 ≤ 100; omega) HLN3.out).mono ?_
      rw [← HBL.out]
      rintro e wb ⟨xb, rfl, qb, rb, nb⟩
      have Kb := hid (Qa.out.trans qb)
      have Rb := hid rb
      clear qb rb nb zwa Ia Ja Qa
      go_wp2
      go_ret2
      exact ⟨xb, rfl, Kb.out, Rb.out⟩
    · have HF := hid (show lenF ln = form ln from by unfold lenF; rw [if_neg h64])
      rw [HF.out] at HBL HLN3
      have RP := hid (fun u => rput_ok ln u _ (by have := HL1.out; omega) (by have := HL1.out; omega) (hid rfl))
      go_wp2_with fail
      refine (RP.out w2).mono ?_
      rintro e wa ⟨ga, rfl, qa, oa⟩
      have Qa := hid (Q2.out.trans qa)
      have Ja := hid (I4.out.q qa)
      have Ia := hid (show Ib wa ⟨some ⟨ga, 0, none⟩, sz ln, sz ln⟩ (form ln) from ⟨oa.seg, form_length ln⟩)
      clear qa oa RP
      go_wp2_with fail
      refine (join_at wa wa.heap.size rfl #[.slice pa pn pc, .slice (some ⟨ga, 0, none⟩) (sz ln) (sz ln)] [⟨pa, pn, pc⟩, ⟨some ⟨ga, 0, none⟩, sz ln, sz ln⟩] rfl [b1, form ln] rfl (ib2 Ja.out Ia.out) (by show 2 ≤ 100; omega) HLN3.out).mono ?_
      rw [← HBL.out]
      rintro e wb ⟨xb, rfl, qb, rb, nb⟩
      have Kb := hid (Qa.out.trans qb)
      have Rb := hid rb
      clear qb rb nb Ia Ja Qa
      go_wp2
      go_ret2
      exact ⟨xb, rfl, Kb.out, Rb.out⟩
  · have HLN := hid (show (([[225, 0, 0, 0, 1], [(dn : Int)], dl, [(sn : Int)], sl] : List (List Int)).flatten).length ≤ 100 from by have h1 := Ld.out; have h2 := Ls.out; simp [h1, h2]; omega)
    have d0 : (0 : Int) ≤ (dn : Int) := by omega
    have d1 : (dn : Int) < 256 := by omega
    have s0 : (0 : Int) ≤ (sn : Int) := by omega
    have s1 : (sn : Int) < 256 := by omega
    go_enter Try.func18, Try.ntmps18
    go_wp2_with fail
    generalize hw1 : World.alloc (World.alloc (World.alloc (World.alloc w _) _) _) _ = w1
    have Q1 := hid (show Q w w1 from by rw [← hw1]; exact ((((Q.refl w).alloc _).alloc _).alloc _).alloc _)
    have Bx1 := hid (show Box w1 30 w.heap.size ⟨3, ve, dl, sl, tl, vl, ln⟩ ⟨da, dn, dc⟩ ⟨sa, sn, sc⟩ ⟨ta, tn, tc⟩ ⟨va, vn, vc⟩ from by rw [← hw1]; exact Box.q (Box.q (Box.q (show Box (w.alloc _) 30 w.heap.size ⟨3, ve, dl, sl, tl, vl, ln⟩ ⟨da, dn, dc⟩ ⟨sa, sn, sc⟩ ⟨ta, tn, tc⟩ ⟨va, vn, vc⟩ from heap_alloc_new w _) ((Q.refl _).alloc _)) ((Q.refl _).alloc _)) ((Q.refl _).alloc _))
    have I1 := hid (show Ib w1 ⟨some ⟨w.heap.size + 1, 0, none⟩, 5, 5⟩ [225, 0, 0, 0, 1] from by rw [← hw1]; exact ((ib_lit _ _ [225, 0, 0, 0, 1] rfl (w.heap.size + 1) (by simp) 5 rfl).q ((Q.refl _).alloc _)).q ((Q.refl _).alloc _))
    have I2 := hid (show Ib w1 ⟨some ⟨w.heap.size + 1 + 1, 0, none⟩, 1, 1⟩ [(dn : Int)] from by rw [← hw1]; exact (ib_lit _ _ [(dn : Int)] rfl (w.heap.size + 1 + 1) (by simp) 1 rfl).q ((Q.refl _).alloc _))
    have I3 := hid (show Ib w1 ⟨some ⟨w.heap.size + 1 + 1 + 1, 0, none⟩, 1, 1⟩ [(sn : Int)] from by rw [← hw1]; exact ib_lit _ _ [(sn : Int)] rfl (w.heap.size + 1 + 1 + 1) (by simp) 1 rfl)
    have z1 : w1.heap.size = w.heap.size + 1 + 1 + 1 + 1 := by rw [← hw1]; simp
    clear hw1
    generalize w.heap.size = bx at *
    refine (join_at w1 (bx + 1 + 1 + 1 + 1) (by omega) #[.slice (some ⟨bx + 1, 0, none⟩) 5 5, .slice (some ⟨bx + 1 + 1, 0, none⟩) 1 1, .slice da dn dc, .slice (some ⟨bx + 1 + 1 + 1, 0, none⟩) 1 1, .slice sa sn sc] [⟨some ⟨bx + 1, 0, none⟩, 5, 5⟩, ⟨some ⟨bx + 1 + 1, 0, none⟩, 1, 1⟩, ⟨da, dn, dc⟩, ⟨some ⟨bx + 1 + 1 + 1, 0, none⟩, 1, 1⟩, ⟨sa, sn, sc⟩] rfl [[225, 0, 0, 0, 1], [(dn : Int)], dl, [(sn : Int)], sl] rfl (ib5 I1.out I2.out (HD.out.q Q1.out) I3.out (HS.out.q Q1.out)) (by show 5 ≤ 100; omega) (Nat.le_trans HLN.out (by omega))).mono ?_
    rintro e w2 ⟨⟨pa, pn, pc⟩, rfl, q2, r2, n2⟩
    have Q2 := hid (Q1.out.trans q2)
    have B2 := hid (Bx1.out.q q2)
    have I4 := hid (Row.ib r2)
    clear q2 r2 n2 z1 I1 I2 I3 Q1 Bx1
    generalize hb1 : ([[225, 0, 0, 0, 1], [(dn : Int)], dl, [(sn : Int)], sl] : List (List Int)).flatten = b1 at *
    have HB1 := hid hb1
    clear hb1
    have c0 := B2.out.c0
    have c4 := B2.out.c4
    have c6 := B2.out.c6
    try dsimp only at c0 c4 c6
    have HBL := hid (show bldL ⟨3, ve, dl, sl, tl, vl, ln⟩ 2 = ([b1, lenF ln] : List (List Int)).flatten from by
      rw [← HB1.out]; unfold bldL; dsimp only; rw [if_neg (by decide), if_neg (by decide), Ld.out, Ls.out]; simp [fstB])
    have HLN3 := hid (show (([b1, lenF ln] : List (List Int)).flatten).length ≤ 1000000 from by have h2 := HLN.out; have h3 := LFL.out; simp; omega)
    by_cases h64 : ln < 64
    · have HF := hid (show lenF ln = [64, ln] from by unfold lenF; rw [if_pos h64])
      have l0 : 0 ≤ ln := by have := HL1.out; omega
      have l1 : ln < 256 := by omega
      rw [HF.out] at HBL HLN3
      go_wp2_with fail
      generalize hwa : World.alloc w2 _ = wa
      have qa : Q w2 wa := by rw [← hwa]; exact (Q.refl _).alloc _
      have Ia := hid (show Ib wa ⟨some ⟨w2.heap.size, 0, none⟩, 2, 2⟩ [64, ln] from by rw [← hwa]; exact ib_lit _ _ [64, ln] rfl w2.heap.size rfl 2 rfl)
      have zwa : wa.heap.size = w2.heap.size + 1 := by rw [← hwa]; simp
      have Qa := hid (Q2.out.trans qa)
      have Ja := hid (I4.out.q qa)
      clear hwa qa
      refine (join_at wa (w2.heap.size + 1) (by omega) #[.slice pa pn pc, .slice (some ⟨w2.heap.size, 0, none⟩) 2 2] [⟨pa, pn, pc⟩, ⟨some ⟨w2.heap.size, 0, none⟩, 2, 2⟩] rfl [b1, [64, ln]] rfl (ib2 Ja.out Ia.out) (by show 2 ≤ 100; omega) HLN3.out).mono ?_
      rw [← HBL.out]
      rintro e wb ⟨xb, rfl, qb, rb, nb⟩
      have Kb := hid (Qa.out.trans qb)
      have Rb := hid rb
      clear qb rb nb zwa Ia Ja Qa
      go_wp2
      go_ret2
      exact ⟨xb, rfl, Kb.out, Rb.out⟩
    · have HF := hid (show lenF ln = form ln from by unfold lenF; rw [if_neg h64])
      rw [HF.out] at HBL HLN3
      have RP := hid (fun u => rput_ok ln u _ (by have := HL1.out; omega) (by have := HL1.out; omega) (hid rfl))
      go_wp2_with fail
      refine (RP.out w2).mono ?_
      rintro e wa ⟨ga, rfl, qa, oa⟩
      have Qa := hid (Q2.out.trans qa)
      have Ja := hid (I4.out.q qa)
      have Ia := hid (show Ib wa ⟨some ⟨ga, 0, none⟩, sz ln, sz ln⟩ (form ln) from ⟨oa.seg, form_length ln⟩)
      clear qa oa RP
      go_wp2_with fail
      refine (join_at wa wa.heap.size rfl #[.slice pa pn pc, .slice (some ⟨ga, 0, none⟩) (sz ln) (sz ln)] [⟨pa, pn, pc⟩, ⟨some ⟨ga, 0, none⟩, sz ln, sz ln⟩] rfl [b1, form ln] rfl (ib2 Ja.out Ia.out) (by show 2 ≤ 100; omega) HLN3.out).mono ?_
      rw [← HBL.out]
      rintro e wb ⟨xb, rfl, qb, rb, nb⟩
      have Kb := hid (Qa.out.trans qb)
      have Rb := hid rb
      clear qb rb nb Ia Ja Qa
      go_wp2
      go_ret2
      exact ⟨xb, rfl, Kb.out, Rb.out⟩
  · have HLN := hid (show (([[226, 0, 0, 0, 1], [(dn : Int)], dl, [(sn : Int)], sl] : List (List Int)).flatten).length ≤ 100 from by have h1 := Ld.out; have h2 := Ls.out; simp [h1, h2]; omega)
    have d0 : (0 : Int) ≤ (dn : Int) := by omega
    have d1 : (dn : Int) < 256 := by omega
    have s0 : (0 : Int) ≤ (sn : Int) := by omega
    have s1 : (sn : Int) < 256 := by omega
    go_enter Try.func18, Try.ntmps18
    go_wp2_with fail
    generalize hw1 : World.alloc (World.alloc (World.alloc (World.alloc w _) _) _) _ = w1
    have Q1 := hid (show Q w w1 from by rw [← hw1]; exact ((((Q.refl w).alloc _).alloc _).alloc _).alloc _)
    have Bx1 := hid (show Box w1 30 w.heap.size ⟨3, ve, dl, sl, tl, vl, ln⟩ ⟨da, dn, dc⟩ ⟨sa, sn, sc⟩ ⟨ta, tn, tc⟩ ⟨va, vn, vc⟩ from by rw [← hw1]; exact Box.q (Box.q (Box.q (show Box (w.alloc _) 30 w.heap.size ⟨3, ve, dl, sl, tl, vl, ln⟩ ⟨da, dn, dc⟩ ⟨sa, sn, sc⟩ ⟨ta, tn, tc⟩ ⟨va, vn, vc⟩ from heap_alloc_new w _) ((Q.refl _).alloc _)) ((Q.refl _).alloc _)) ((Q.refl _).alloc _))
    have I1 := hid (show Ib w1 ⟨some ⟨w.heap.size + 1, 0, none⟩, 5, 5⟩ [226, 0, 0, 0, 1] from by rw [← hw1]; exact ((ib_lit _ _ [226, 0, 0, 0, 1] rfl (w.heap.size + 1) (by simp) 5 rfl).q ((Q.refl _).alloc _)).q ((Q.refl _).alloc _))
    have I2 := hid (show Ib w1 ⟨some ⟨w.heap.size + 1 + 1, 0, none⟩, 1, 1⟩ [(dn : Int)] from by rw [← hw1]; exact (ib_lit _ _ [(dn : Int)] rfl (w.heap.size + 1 + 1) (by simp) 1 rfl).q ((Q.refl _).alloc _))
    have I3 := hid (show Ib w1 ⟨some ⟨w.heap.size + 1 + 1 + 1, 0, none⟩, 1, 1⟩ [(sn : Int)] from by rw [← hw1]; exact ib_lit _ _ [(sn : Int)] rfl (w.heap.size + 1 + 1 + 1) (by simp) 1 rfl)
    have z1 : w1.heap.size = w.heap.size + 1 + 1 + 1 + 1 := by rw [← hw1]; simp
    clear hw1
    generalize w.heap.size = bx at *
    refine (join_at w1 (bx + 1 + 1 + 1 + 1) (by omega) #[.slice (some ⟨bx + 1, 0, none⟩) 5 5, .slice (some ⟨bx + 1 + 1, 0, none⟩) 1 1, .slice da dn dc, .slice (some ⟨bx + 1 + 1 + 1, 0, none⟩) 1 1, .slice sa sn sc] [⟨some ⟨bx + 1, 0, none⟩, 5, 5⟩, ⟨some ⟨bx + 1 + 1, 0, none⟩, 1, 1⟩, ⟨da, dn, dc⟩, ⟨some ⟨bx + 1 + 1 + 1, 0, none⟩, 1, 1⟩, ⟨sa, sn, sc⟩] rfl [[226, 0, 0, 0, 1], [(dn : Int)], dl, [(sn : Int)], sl] rfl (ib5 I1.out I2.out (HD.out.q Q1.out) I3.out (HS.out.q Q1.out)) (by show 5 ≤ 100; omega) (Nat.le_trans HLN.out (by omega))).mono ?_
    rintro e w2 ⟨⟨pa, pn, pc⟩, rfl, q2, r2, n2⟩
    have Q2 := hid (Q1.out.trans q2)
    have B2 := hid (Bx1.out.q q2)
    have I4 := hid (Row.ib r2)
    clear q2 r2 n2 z1 I1 I2 I3 Q1 Bx1
    generalize hb1 : ([[226, 0, 0, 0, 1], [(dn : Int)], dl, [(sn : Int)], sl] : List (List Int)).flatten = b1 at *
    have HB1 := hid hb1
    clear hb1
    have c0 := B2.out.c0
    have c4 := B2.out.c4
    have c6 := B2.out.c6
    try dsimp only at c0 c4 c6
    have HBL := hid (show bldL ⟨3, ve, dl, sl, tl, vl, ln⟩ 3 = ([b1, lenF ln] : List (List Int)).flatten from by
      rw [← HB1.out]; unfold bldL; dsimp only; rw [if_neg (by decide), if_neg (by decide), Ld.out, Ls.out]; simp [fstB])
    have HLN3 := hid (show (([b1, lenF ln] : List (List Int)).flatten).length ≤ 1000000 from by have h2 := HLN.out; have h3 := LFL.out; simp; omega)
    by_cases h64 : ln < 64
    · have HF := hid (show lenF ln = [64, ln] from by unfold lenF; rw [if_pos h64])
      have l0 : 0 ≤ ln := by have := HL1.out; omega
      have l1 : ln < 256 := by omega
      rw [HF.out] at HBL HLN3
      go_wp2_with fail
      generalize hwa : World.alloc w2 _ = wa
      have qa : Q w2 wa := by rw [← hwa]; exact (Q.refl _).alloc _
      have Ia := hid (show Ib wa ⟨some ⟨w2.heap.size, 0, none⟩, 2, 2⟩ [64, ln] from by rw [← hwa]; exact ib_lit _ _ [64, ln] rfl w2.heap.size rfl 2 rfl)
      have zwa : wa.heap.size = w2.heap.size + 1 := by rw [← hwa]; simp
      have Qa := hid (Q2.out.trans qa)
      have Ja := hid (I4.out.q qa)
      clear hwa qa
      refine (join_at wa (w2.heap.size + 1) (by omega) #[.slice pa pn pc, .slice (some ⟨w2.heap.size, 0, none⟩) 2 2] [⟨pa, pn, pc⟩, ⟨some ⟨w2.heap.size, 0, none⟩, 2, 2⟩] rfl [b1, [64, ln]] rfl (ib2 Ja.out Ia.out) (by show 2 ≤ 100; omega) HLN3.out).mono ?_
      rw [← HBL.out]
      rintro e wb ⟨xb, rfl, qb, rb, nb⟩
      have Kb := hid (Qa.out.trans qb)
      have Rb := hid rb
      clear qb rb nb zwa Ia Ja Qa
      go_wp2
      go_ret2
      exact ⟨xb, rfl, Kb.out, Rb.out⟩
    · have HF := hid (show lenF ln = form ln from by unfold lenF; rw [if_neg h64])
      rw [HF.out] at HBL HLN3
      have RP := hid (fun u => rput_ok ln u _ (by have := HL1.out; omega) (by have := HL1.out; omega) (hid rfl))
      go_wp2_with fail
      refine (RP.out w2).mono ?_
      rintro e wa ⟨ga, rfl, qa, oa⟩
      have Qa := hid (Q2.out.trans qa)
      have Ja := hid (I4.out.q qa)
      have Ia := hid (show Ib wa ⟨some ⟨ga, 0, none⟩, sz ln, sz ln⟩ (form ln) from ⟨oa.seg, form_length ln⟩)
      clear qa oa RP
      go_wp2_with fail
      refine (join_at wa wa.heap.size rfl #[.slice pa pn pc, .slice (some ⟨ga, 0, none⟩) (sz ln) (sz ln)] [⟨pa, pn, pc⟩, ⟨some ⟨ga, 0, none⟩, sz ln, sz ln⟩] rfl [b1, form ln] rfl (ib2 Ja.out Ia.out) (by show 2 ≤ 100; omega) HLN3.out).mono ?_
      rw [← HBL.out]
      rintro e wb ⟨xb, rfl, qb, rb, nb⟩
      have Kb := hid (Qa.out.trans qb)
      have Rb := hid rb
      clear qb rb nb Ia Ja Qa
      go_wp2
      go_ret2
      exact ⟨xb, rfl, Kb.out, Rb.out⟩
  · have HLN := hid (show (([[227, 0, 0, 0, 1], [(dn : Int)], dl, [(sn : Int)], sl] : List (List Int)).flatten).length ≤ 100 from by have h1 := Ld.out; have h2 := Ls.out; simp [h1, h2]; omega)
    have d0 : (0 : Int) ≤ (dn : Int) := by omega
    have d1 : (dn : Int) < 256 := by omega
    have s0 : (0 : Int) ≤ (sn : Int) := by omega
    have s1 : (sn : Int) < 256 := by omega
    go_enter Try.func18, Try.ntmps18
    go_wp2_with fail
    generalize hw1 : World.alloc (World.alloc (World.alloc (World.alloc w _) _) _) _ = w1
    have Q1 := hid (show Q w w1 from by rw [← hw1]; exact ((((Q.refl w).alloc _).alloc _).alloc _).alloc _)
    have Bx1 := hid (show Box w1 30 w.heap.size ⟨3, ve, dl, sl, tl, vl, ln⟩ ⟨da, dn, dc⟩ ⟨sa, sn, sc⟩ ⟨ta, tn, tc⟩ ⟨va, vn, vc⟩ from by rw [← hw1]; exact Box.q (Box.q (Box.q (show Box (w.alloc _) 30 w.heap.size ⟨3, ve, dl, sl, tl, vl, ln⟩ ⟨da, dn, dc⟩ ⟨sa, sn, sc⟩ ⟨ta, tn, tc⟩ ⟨va, vn, vc⟩ from heap_alloc_new w _) ((Q.refl _).alloc _)) ((Q.refl _).alloc _)) ((Q.refl _).alloc _))
    have I1 := hid (show Ib w1 ⟨some ⟨w.heap.size + 1, 0, none⟩, 5, 5⟩ [227, 0, 0, 0, 1] from by rw [← hw1]; exact ((ib_lit _ _ [227, 0, 0, 0, 1] rfl (w.heap.size + 1) (by simp) 5 rfl).q ((Q.refl _).alloc _)).q ((Q.refl _).alloc _))
    have I2 := hid (show Ib w1 ⟨some ⟨w.heap.size + 1 + 1, 0, none⟩, 1, 1⟩ [(dn : Int)] from by rw [← hw1]; exact (ib_lit _ _ [(dn : Int)] rfl (w.heap.size + 1 + 1) (by simp) 1 rfl).q ((Q.refl _).alloc _))
    have I3 := hid (show Ib w1 ⟨some ⟨w.heap.size + 1 + 1 + 1, 0, none⟩, 1, 1⟩ [(sn : Int)] from by rw [← hw1]; exact ib_lit _ _ [(sn : Int)] rfl (w.heap.size + 1 + 1 + 1) (by simp) 1 rfl)
    have z1 : w1.heap.size = w.heap.size + 1 + 1 + 1 + 1 := by rw [← hw1]; simp
    clear hw1
    generalize w.heap.size = bx at *
    refine (join_at w1 (bx + 1 + 1 + 1 + 1) (by omega) #[.slice (some ⟨bx + 1, 0, none⟩) 5 5, .slice (some ⟨bx + 1 + 1, 0, none⟩) 1 1, .slice da dn dc, .slice (some ⟨bx + 1 + 1 + 1, 0, none⟩) 1 1, .slice sa sn sc] [⟨some ⟨bx + 1, 0, none⟩, 5, 5⟩, ⟨some ⟨bx + 1 + 1, 0, none⟩, 1, 1⟩, ⟨da, dn, dc⟩, ⟨some ⟨bx + 1 + 1 + 1, 0, none⟩, 1, 1⟩, ⟨sa, sn, sc⟩] rfl [[227, 0, 0, 0, 1], [(dn : Int)], dl, [(sn : Int)], sl] rfl (ib5 I1.out I2.out (HD.out.q Q1.out) I3.out (HS.out.q Q1.out)) (by show 5 ≤ 100; omega) (Nat.le_trans HLN.out (by omega))).mono ?_
    rintro e w2 ⟨⟨pa, pn, pc⟩, rfl, q2, r2, n2⟩
    have Q2 := hid (Q1.out.trans q2)
    have B2 := hid (Bx1.out.q q2)
    have I4 := hid (Row.ib r2)
    clear q2 r2 n2 z1 I1 I2 I3 Q1 Bx1
    generalize hb1 : ([[227, 0, 0, 0, 1], [(dn : Int)], dl, [(sn : Int)], sl] : List (List Int)).flatten = b1 at *
    have HB1 := hid hb1
    clear hb1
    have c0 := B2.out.c0
    have c4 := B2.out.c4
    have c6 := B2.out.c6
    try dsimp only at c0 c4 c6
    have HBL := hid (show bldL ⟨3, ve, dl, sl, tl, vl, ln⟩ 4 = ([b1, lenF ln] : List (List Int)).flatten from by
      rw [← HB1.out]; unfold bldL; dsimp only; rw [if_neg (by decide), if_neg (by decide), Ld.out, Ls.out]; simp [fstB])
    have HLN3 := hid (show (([b1, lenF ln] : List (List Int)).flatten).length ≤ 1000000 from by have h2 := HLN.out; have h3 := LFL.out; simp; omega)
    by_cases h64 : ln < 64
    · have HF := hid (show lenF ln = [64, ln] from by unfold lenF; rw [if_pos h64])
      have l0 : 0 ≤ ln := by have := HL1.out; omega
      have l1 : ln < 256 := by omega
      rw [HF.out] at HBL HLN3
      go_wp2_with fail
      generalize hwa : World.alloc w2 _ = wa
      have qa : Q w2 wa := by rw [← hwa]; exact (Q.refl _).alloc _
      have Ia := hid (show Ib wa ⟨some ⟨w2.heap.size, 0, none⟩, 2, 2⟩ [64, ln] from by rw [← hwa]; exact ib_lit _ _ [64, ln] rfl w2.heap.size rfl 2 rfl)
      have zwa : wa.heap.size = w2.heap.size + 1 := by rw [← hwa]; simp
      have Qa := hid (Q2.out.trans qa)
      have Ja := hid (I4.out.q qa)
      clear hwa qa
      refine (join_at wa (w2.heap.size + 1) (by omega) #[.slice pa pn pc, .slice (some ⟨w2.heap.size, 0, none⟩) 2 2] [⟨pa, pn, pc⟩, ⟨some ⟨w2.heap.size, 0, none⟩, 2, 2⟩] rfl [b1, [64, ln]] rfl (ib2 Ja.out Ia.out) (by show 2 ≤ 100; omega) HLN3.out).mono ?_
      rw [← HBL.out]
      rintro e wb ⟨xb, rfl, qb, rb, nb⟩
      have Kb := hid (Qa.out.trans qb)
      have Rb := hid rb
      clear qb rb nb zwa Ia Ja Qa
      go_wp2
      go_ret2
      exact ⟨xb, rfl, Kb.out, Rb.out⟩
    · have HF := hid (show lenF ln = form ln from by unfold lenF; rw [if_neg h64])
      rw [HF.out] at HBL HLN3
      have RP := hid (fun u => rput_ok ln u _ (by have := HL1.out; omega) (by have := HL1.out; omega) (hid rfl))
      go_wp2_with fail
      refine (RP.out w2).mono ?_
      rintro e wa ⟨ga, rfl, qa, oa⟩
      have Qa := hid (Q2.out.trans qa)
      have Ja := hid (I4.out.q qa)
      have Ia := hid (show Ib wa ⟨some ⟨ga, 0, none⟩, sz ln, sz ln⟩ (form ln) from ⟨oa.seg, form_length ln⟩)
      clear qa oa RP
      go_wp2_with fail
      refine (join_at wa wa.heap.size rfl #[.slice pa pn pc, .slice (some ⟨ga, 0, none⟩) (sz ln) (sz ln)] [⟨pa, pn, pc⟩, ⟨some ⟨ga, 0, none⟩, sz ln, sz ln⟩] rfl [b1, form ln] rfl (ib2 Ja.out Ia.out) (by show 2 ≤ 100; omega) HLN3.out).mono ?_
      rw [← HBL.out]
      rintro e wb ⟨xb, rfl, qb, rb, nb⟩
      have Kb := hid (Qa.out.trans qb)
      have Rb := hid rb
      clear qb rb nb Ia Ja Qa
      go_wp2
      go_ret2
      exact ⟨xb, rfl, Kb.out, Rb.out⟩
set_option maxHeartbeats 8000000 in
theorem rbuild_1 (ve : Int) (dl sl tl vl : List Int) (ln : Int) (d s t v : Sv) (width : Int) (w : World) (hd : Ib w d dl) (hs : Ib w s sl) (ht : Ib w t tl) :
    Calls Try.prog 18 #[hv ⟨1, ve, dl, sl, tl, vl, ln⟩ d s t v, .int .i64 width] w fun e w' => ∃ x : Sv, e = .returned (.tuple #[.slice x.a x.n x.c, .int .i64 (bldE ⟨1, ve, dl, sl, tl, vl, ln⟩ width)]) ∧ Q w w' ∧ Row w' x (bldR ⟨1, ve, dl, sl, tl, vl, ln⟩ width) := by
  have HD := hid hd
  have HS := hid hs
  have HT := hid ht
  clear hd hs ht
  obtain ⟨da, dn, dc⟩ := d
  obtain ⟨sa, sn, sc⟩ := s
  obtain ⟨ta, tn, tc⟩ := t
  obtain ⟨va, vn, vc⟩ := v
  have e1 : dl.length = dn := HD.out.l
  have e2 : sl.length = sn := HS.out.l
  have e3 : tl.length = tn := HT.out.l
  by_cases h1 : width < 1
  · have HE := hid (show bldE ⟨1, ve, dl, sl, tl, vl, ln⟩ width = 10 from by unfold bldE; dsimp only; rw [if_neg (by omega), if_pos (by omega)])
    rw [show bldR ⟨1, ve, dl, sl, tl, vl, ln⟩ width = [] from by unfold bldR; rw [HE.out, if_neg (by decide)], HE.out]
    clear e1 e2 e3
    go_enter Try.func18, Try.ntmps18
    go_wp2
    go_ret2
    exact ⟨nilS, rfl, (Q.refl w).alloc _, sub_nil _ _ _⟩
  by_cases h2 : 4 < width
  · have HE := hid (show bldE ⟨1, ve, dl, sl, tl, vl, ln⟩ width = 10 from by unfold bldE; dsimp only; rw [if_neg (by omega), if_pos (by omega)])
    rw [show bldR ⟨1, ve, dl, sl, tl, vl, ln⟩ width = [] from by unfold bldR; rw [HE.out, if_neg (by decide)], HE.out]
    clear e1 e2 e3
    go_enter Try.func18, Try.ntmps18
    go_wp2
    go_ret2
    exact ⟨nilS, rfl, (Q.refl w).alloc _, sub_nil _ _ _⟩
  by_cases h3 : (20 : Int) < (dn : Int)
  · have HE := hid (show bldE ⟨1, ve, dl, sl, tl, vl, ln⟩ width = 61 from by unfold bldE; dsimp only; rw [if_neg (by omega), if_neg (by omega), if_pos (by omega)])
    rw [show bldR ⟨1, ve, dl, sl, tl, vl, ln⟩ width = [] from by unfold bldR; rw [HE.out, if_neg (by decide)], HE.out]
    clear e1 e2 e3
    go_enter Try.func18, Try.ntmps18
    go_wp2
    go_ret2
    exact ⟨nilS, rfl, (Q.refl w).alloc _, sub_nil _ _ _⟩
  by_cases h4 : (20 : Int) < (sn : Int)
  · have HE := hid (show bldE ⟨1, ve, dl, sl, tl, vl, ln⟩ width = 61 from by unfold bldE; dsimp only; rw [if_neg (by omega), if_neg (by omega), if_pos (by omega)])
    rw [show bldR ⟨1, ve, dl, sl, tl, vl, ln⟩ width = [] from by unfold bldR; rw [HE.out, if_neg (by decide)], HE.out]
    clear e1 e2 e3
    go_enter Try.func18, Try.ntmps18
    go_wp2
    go_ret2
    exact ⟨nilS, rfl, (Q.refl w).alloc _, sub_nil _ _ _⟩
  by_cases h5 : (16384 : Int) < (tn : Int)
  · have HE := hid (show bldE ⟨1, ve, dl, sl, tl, vl, ln⟩ width = 52 from by unfold bldE; dsimp only; rw [if_neg (by omega), if_neg (by omega), if_neg (by omega), if_pos (by omega)])
    rw [show bldR ⟨1, ve, dl, sl, tl, vl, ln⟩ width = [] from by unfold bldR; rw [HE.out, if_neg (by decide)], HE.out]
    clear e1 e2 e3
    go_enter Try.func18, Try.ntmps18
    go_wp2
    go_ret2
    exact ⟨nilS, rfl, (Q.refl w).alloc _, sub_nil _ _ _⟩
  by_cases h6 : ln < 1
  · have HE := hid (show bldE ⟨1, ve, dl, sl, tl, vl, ln⟩ width = 54 from by unfold bldE; dsimp only; rw [if_neg (by omega), if_neg (by omega), if_neg (by omega), if_neg (by omega), if_pos (by omega)])
    rw [show bldR ⟨1, ve, dl, sl, tl, vl, ln⟩ width = [] from by unfold bldR; rw [HE.out, if_neg (by decide)], HE.out]
    clear e1 e2 e3
    go_enter Try.func18, Try.ntmps18
    go_wp2
    go_ret2
    exact ⟨nilS, rfl, (Q.refl w).alloc _, sub_nil _ _ _⟩
  by_cases h7 : 16384 < ln
  · have HE := hid (show bldE ⟨1, ve, dl, sl, tl, vl, ln⟩ width = 54 from by unfold bldE; dsimp only; rw [if_neg (by omega), if_neg (by omega), if_neg (by omega), if_neg (by omega), if_pos (by omega)])
    rw [show bldR ⟨1, ve, dl, sl, tl, vl, ln⟩ width = [] from by unfold bldR; rw [HE.out, if_neg (by decide)], HE.out]
    clear e1 e2 e3
    go_enter Try.func18, Try.ntmps18
    go_wp2
    go_ret2
    exact ⟨nilS, rfl, (Q.refl w).alloc _, sub_nil _ _ _⟩
  have HE := hid (show bldE ⟨1, ve, dl, sl, tl, vl, ln⟩ width = 0 from by unfold bldE; dsimp only; rw [if_neg (by omega), if_neg (by omega), if_neg (by omega), if_neg (by omega), if_neg (by omega)])
  rw [show bldR ⟨1, ve, dl, sl, tl, vl, ln⟩ width = bldL ⟨1, ve, dl, sl, tl, vl, ln⟩ width from by unfold bldR; rw [HE.out, if_pos rfl], HE.out]
  have Ld := hid e1
  have Ls := hid e2
  have Lt := hid e3
  have hd20 : dn ≤ 20 := by omega
  have hs20 : sn ≤ 20 := by omega
  have HL1 := hid (show 1 ≤ ln ∧ ln ≤ 16384 from by omega)
  have LFL := hid (show (lenF ln).length ≤ 8 from by unfold lenF; split; simp; exact form_len ln)
  clear e1 e2 e3
  have hw4 : width = 1 ∨ width = 2 ∨ width = 3 ∨ width = 4 := by omega
  clear h1 h2
  rcases hw4 with rfl | rfl | rfl | rfl
  · have HLN := hid (show (([[192, 0, 0, 0, 1], [(dn : Int)], dl, [(sn : Int)], sl] : List (List Int)).flatten).length ≤ 100 from by have h1 := Ld.out; have h2 := Ls.out; simp [h1, h2]; omega)
    have d0 : (0 : Int) ≤ (dn : Int) := by omega
    have d1 : (dn : Int) < 256 := by omega
    have s0 : (0 : Int) ≤ (sn : Int) := by omega
    have s1 : (sn : Int) < 256 := by omega
    go_enter Try.func18, Try.ntmps18
    go_wp2_with fail
    generalize hw1 : World.alloc (World.alloc (World.alloc (World.alloc w _) _) _) _ = w1
    have Q1 := hid (show Q w w1 from by rw [← hw1]; exact ((((Q.refl w).alloc _).alloc _).alloc _).alloc _)
    have Bx1 := hid (show Box w1 30 w.heap.size ⟨1, ve, dl, sl, tl, vl, ln⟩ ⟨da, dn, dc⟩ ⟨sa, sn, sc⟩ ⟨ta, tn, tc⟩ ⟨va, vn, vc⟩ from by rw [← hw1]; exact Box.q (Box.q (Box.q (show Box (w.alloc _) 30 w.heap.size ⟨1, ve, dl, sl, tl, vl, ln⟩ ⟨da, dn, dc⟩ ⟨sa, sn, sc⟩ ⟨ta, tn, tc⟩ ⟨va, vn, vc⟩ from heap_alloc_new w _) ((Q.refl _).alloc _)) ((Q.refl _).alloc _)) ((Q.refl _).alloc _))
    have I1 := hid (show Ib w1 ⟨some ⟨w.heap.size + 1, 0, none⟩, 5, 5⟩ [192, 0, 0, 0, 1] from by rw [← hw1]; exact ((ib_lit _ _ [192, 0, 0, 0, 1] rfl (w.heap.size + 1) (by simp) 5 rfl).q ((Q.refl _).alloc _)).q ((Q.refl _).alloc _))
    have I2 := hid (show Ib w1 ⟨some ⟨w.heap.size + 1 + 1, 0, none⟩, 1, 1⟩ [(dn : Int)] from by rw [← hw1]; exact (ib_lit _ _ [(dn : Int)] rfl (w.heap.size + 1 + 1) (by simp) 1 rfl).q ((Q.refl _).alloc _))
    have I3 := hid (show Ib w1 ⟨some ⟨w.heap.size + 1 + 1 + 1, 0, none⟩, 1, 1⟩ [(sn : Int)] from by rw [← hw1]; exact ib_lit _ _ [(sn : Int)] rfl (w.heap.size + 1 + 1 + 1) (by simp) 1 rfl)
    have z1 : w1.heap.size = w.heap.size + 1 + 1 + 1 + 1 := by rw [← hw1]; simp
    clear hw1
    generalize w.heap.size = bx at *
    refine (join_at w1 (bx + 1 + 1 + 1 + 1) (by omega) #[.slice (some ⟨bx + 1, 0, none⟩) 5 5, .slice (some ⟨bx + 1 + 1, 0, none⟩) 1 1, .slice da dn dc, .slice (some ⟨bx + 1 + 1 + 1, 0, none⟩) 1 1, .slice sa sn sc] [⟨some ⟨bx + 1, 0, none⟩, 5, 5⟩, ⟨some ⟨bx + 1 + 1, 0, none⟩, 1, 1⟩, ⟨da, dn, dc⟩, ⟨some ⟨bx + 1 + 1 + 1, 0, none⟩, 1, 1⟩, ⟨sa, sn, sc⟩] rfl [[192, 0, 0, 0, 1], [(dn : Int)], dl, [(sn : Int)], sl] rfl (ib5 I1.out I2.out (HD.out.q Q1.out) I3.out (HS.out.q Q1.out)) (by show 5 ≤ 100; omega) (Nat.le_trans HLN.out (by omega))).mono ?_
    rintro e w2 ⟨⟨pa, pn, pc⟩, rfl, q2, r2, n2⟩
    have Q2 := hid (Q1.out.trans q2)
    have B2 := hid (Bx1.out.q q2)
    have I4 := hid (Row.ib r2)
    clear q2 r2 n2 z1 I1 I2 I3 Q1 Bx1
    generalize hb1 : ([[192, 0, 0, 0, 1], [(dn : Int)], dl, [(sn : Int)], sl] : List (List Int)).flatten = b1 at *
    have HB1 := hid hb1
    clear hb1
    have c0 := B2.out.c0
    have c4 := B2.out.c4
    have c6 := B2.out.c6
    try dsimp only at c0 c4 c6
    have ht1 : tn ≤ 16384 := by omega
    have SH := hid (fun u => rput_ok (tn : Int) u _ (by omega) (by omega) (hid rfl))
    have FL := hid (form_len tn)
    have HT7 := hid (HT.out.q Q2.out)
    go_wp2_with fail
    have s7 : Q w2 w2 := Q.refl _
    have HLN2 := hid (show (([b1, form tn, tl] : List (List Int)).flatten).length ≤ 20000 from by have h1 := Lt.out; have h2 := HLN.out; have h3 := FL.out; simp [h1]; omega)
    go_region_held3 (fun u => Q w2 u ∧ u.cell? ⟨bx, 4, none⟩ = some (.slice ta tn tc)) (repeat (first | (with_reducible assumption) | (with_reducible apply Q.drew) | (with_reducible apply Q.drewN) | (with_reducible apply Q.alloc) | (with_reducible refine dcel ?_) | (with_reducible refine acel ?_) | (with_reducible apply And.intro)))
      (first
        | (go_at_call 40; refine (SH.out _).mono ?_; rintro e w8 ⟨g8, rfl, q8, o8⟩; have j8 : Q w2 w8 := Q.trans (by repeat (first | (with_reducible assumption) | (with_reducible apply Q.drew) | (with_reducible apply Q.drewN) | (with_reducible apply Q.alloc))) q8; have cw84 : w8.cell? ⟨bx, 4, none⟩ = some (.slice ta tn tc) := (j8.cell (p := ⟨bx, 4, none⟩) (lt_of_cell c4)).trans c4; have I8 := hid (show Ib w8 ⟨some ⟨g8, 0, none⟩, sz tn, sz tn⟩ (form tn) from ⟨o8.seg, form_length tn⟩); clear o8)
        | (go_at_call 21; refine (join_q w8 w8.heap.size rfl _ [⟨pa, pn, pc⟩, ⟨some ⟨g8, 0, none⟩, sz tn, sz tn⟩, ⟨ta, tn, tc⟩] #[.slice pa pn pc, .slice (some ⟨g8, 0, none⟩) (sz tn) (sz tn), .slice ta tn tc] rfl (by (repeat (first | (with_reducible exact Q.refl _) | (with_reducible apply Q.drew) | (with_reducible apply Q.drewN) | (with_reducible refine Q.trans ?_ q8) | (with_reducible apply Q.alloc)))) [b1, form tn, tl] rfl (ib3 (I4.out.q (by (repeat (first | (with_reducible exact Q.refl _) | (with_reducible apply Q.drew) | (with_reducible apply Q.drewN) | (with_reducible refine Q.trans ?_ q8) | (with_reducible apply Q.alloc))))) (I8.out.q (by (repeat (first | (with_reducible exact Q.refl _) | (with_reducible apply Q.drew) | (with_reducible apply Q.drewN) | (with_reducible refine Q.trans ?_ q8) | (with_reducible apply Q.alloc))))) (HT7.out.q (by (repeat (first | (with_reducible exact Q.refl _) | (with_reducible apply Q.drew) | (with_reducible apply Q.drewN) | (with_reducible refine Q.trans ?_ q8) | (with_reducible apply Q.alloc)))))) (by show 3 ≤ 100; omega) (Nat.le_trans HLN2.out (by omega))).mono ?_; rintro e w9 ⟨⟨za, zn, zc⟩, rfl, q9, r9, n9⟩; have j9 : Q w2 w9 := Q.trans (by repeat (first | (with_reducible assumption) | (with_reducible apply Q.drew) | (with_reducible apply Q.drewN) | (with_reducible apply Q.alloc))) q9; have cw94 : w9.cell? ⟨bx, 4, none⟩ = some (.slice ta tn tc) := (j9.cell (p := ⟨bx, 4, none⟩) (lt_of_cell c4)).trans c4; clear q9 n9))
    have Q9 := hid (Q2.out.trans j9)
    have B9 := hid (B2.out.q j9)
    have I9 := hid (Row.ib r9)
    clear j8 j9 r9 s7 q8 c0 c4 c6 cw84 cw94 I4 I8 B2 Q2 SH
    have HBL := hid (show bldL ⟨1, ve, dl, sl, tl, vl, ln⟩ 1 = ([([b1, form tn, tl] : List (List Int)).flatten, lenF ln] : List (List Int)).flatten from by
      rw [← HB1.out]; unfold bldL; dsimp only; rw [if_neg (by decide), if_pos rfl, Ld.out, Ls.out, Lt.out]; simp [fstB])
    generalize ([b1, form tn, tl] : List (List Int)).flatten = b2 at *
    have HLN3 := hid (show (([b2, lenF ln] : List (List Int)).flatten).length ≤ 1000000 from by have h2 := HLN2.out; have h3 := LFL.out; simp; omega)
    have c6 := B9.out.c6
    try dsimp only at c6
    by_cases h64 : ln < 64
    · have HF := hid (show lenF ln = [64, ln] from by unfold lenF; rw [if_pos h64])
      have l0 : 0 ≤ ln := by have := HL1.out; omega
      have l1 : ln < 256 := by omega
      rw [HF.out] at HBL HLN3
      go_wp2_with fail
      generalize hwa : World.alloc w9 _ = wa
      have qa : Q w9 wa := by rw [← hwa]; exact (Q.refl _).alloc _
      have Ia := hid (show Ib wa ⟨some ⟨w9.heap.size, 0, none⟩, 2, 2⟩ [64, ln] from by rw [← hwa]; exact ib_lit _ _ [64, ln] rfl w9.heap.size rfl 2 rfl)
      have zwa : wa.heap.size = w9.heap.size + 1 := by rw [← hwa]; simp
      have Qa := hid (Q9.out.trans qa)
      have Ja := hid (I9.out.q qa)
      clear hwa qa
      refine (join_at wa (w9.heap.size + 1) (by omega) #[.slice za zn zc, .slice (some ⟨w9.heap.size, 0, none⟩) 2 2] [⟨za, zn, zc⟩, ⟨some ⟨w9.heap.size, 0, none⟩, 2, 2⟩] rfl [b2, [64, ln]] rfl (ib2 Ja.out Ia.out) (by show 2 ≤ 100; omega) HLN3.out).mono ?_
      rw [← HBL.out]
      rintro e wb ⟨xb, rfl, qb, rb, nb⟩
      have Kb := hid (Qa.out.trans qb)
      have Rb := hid rb
      clear qb rb nb zwa Ia Ja Qa
      go_wp2
      go_ret2
      exact ⟨xb, rfl, Kb.out, Rb.out⟩
    · have HF := hid (show lenF ln = form ln from by unfold lenF; rw [if_neg h64])
      rw [HF.out] at HBL HLN3
      have RP := hid (fun u => rput_ok ln u _ (by have := HL1.out; omega) (by have := HL1.out; omega) (hid rfl))
      go_wp2_with fail
      refine (RP.out w9).mono ?_
      rintro e wa ⟨ga, rfl, qa, oa⟩
      have Qa := hid (Q9.out.trans qa)
      have Ja := hid (I9.out.q qa)
      have Ia := hid (show Ib wa ⟨some ⟨ga, 0, none⟩, sz ln, sz ln⟩ (form ln) from ⟨oa.seg, form_length ln⟩)
      clear qa oa RP
      go_wp2_with fail
      refine (join_at wa wa.heap.size rfl #[.slice za zn zc, .slice (some ⟨ga, 0, none⟩) (sz ln) (sz ln)] [⟨za, zn, zc⟩, ⟨some ⟨ga, 0, none⟩, sz ln, sz ln⟩] rfl [b2, form ln] rfl (ib2 Ja.out Ia.out) (by show 2 ≤ 100; omega) HLN3.out).mono ?_
      rw [← HBL.out]
      rintro e wb ⟨xb, rfl, qb, rb, nb⟩
      have Kb := hid (Qa.out.trans qb)
      have Rb := hid rb
      clear qb rb nb Ia Ja Qa
      go_wp2
      go_ret2
      exact ⟨xb, rfl, Kb.out, Rb.out⟩
  · have HLN := hid (show (([[193, 0, 0, 0, 1], [(dn : Int)], dl, [(sn : Int)], sl] : List (List Int)).flatten).length ≤ 100 from by have h1 := Ld.out; have h2 := Ls.out; simp [h1, h2]; omega)
    have d0 : (0 : Int) ≤ (dn : Int) := by omega
    have d1 : (dn : Int) < 256 := by omega
    have s0 : (0 : Int) ≤ (sn : Int) := by omega
    have s1 : (sn : Int) < 256 := by omega
    go_enter Try.func18, Try.ntmps18
    go_wp2_with fail
    generalize hw1 : World.alloc (World.alloc (World.alloc (World.alloc w _) _) _) _ = w1
    have Q1 := hid (show Q w w1 from by rw [← hw1]; exact ((((Q.refl w).alloc _).alloc _).alloc _).alloc _)
    have Bx1 := hid (show Box w1 30 w.heap.size ⟨1, ve, dl, sl, tl, vl, ln⟩ ⟨da, dn, dc⟩ ⟨sa, sn, sc⟩ ⟨ta, tn, tc⟩ ⟨va, vn, vc⟩ from by rw [← hw1]; exact Box.q (Box.q (Box.q (show Box (w.alloc _) 30 w.heap.size ⟨1, ve, dl, sl, tl, vl, ln⟩ ⟨da, dn, dc⟩ ⟨sa, sn, sc⟩ ⟨ta, tn, tc⟩ ⟨va, vn, vc⟩ from heap_alloc_new w _) ((Q.refl _).alloc _)) ((Q.refl _).alloc _)) ((Q.refl _).alloc _))
    have I1 := hid (show Ib w1 ⟨some ⟨w.heap.size + 1, 0, none⟩, 5, 5⟩ [193, 0, 0, 0, 1] from by rw [← hw1]; exact ((ib_lit _ _ [193, 0, 0, 0, 1] rfl (w.heap.size + 1) (by simp) 5 rfl).q ((Q.refl _).alloc _)).q ((Q.refl _).alloc _))
    have I2 := hid (show Ib w1 ⟨some ⟨w.heap.size + 1 + 1, 0, none⟩, 1, 1⟩ [(dn : Int)] from by rw [← hw1]; exact (ib_lit _ _ [(dn : Int)] rfl (w.heap.size + 1 + 1) (by simp) 1 rfl).q ((Q.refl _).alloc _))
    have I3 := hid (show Ib w1 ⟨some ⟨w.heap.size + 1 + 1 + 1, 0, none⟩, 1, 1⟩ [(sn : Int)] from by rw [← hw1]; exact ib_lit _ _ [(sn : Int)] rfl (w.heap.size + 1 + 1 + 1) (by simp) 1 rfl)
    have z1 : w1.heap.size = w.heap.size + 1 + 1 + 1 + 1 := by rw [← hw1]; simp
    clear hw1
    generalize w.heap.size = bx at *
    refine (join_at w1 (bx + 1 + 1 + 1 + 1) (by omega) #[.slice (some ⟨bx + 1, 0, none⟩) 5 5, .slice (some ⟨bx + 1 + 1, 0, none⟩) 1 1, .slice da dn dc, .slice (some ⟨bx + 1 + 1 + 1, 0, none⟩) 1 1, .slice sa sn sc] [⟨some ⟨bx + 1, 0, none⟩, 5, 5⟩, ⟨some ⟨bx + 1 + 1, 0, none⟩, 1, 1⟩, ⟨da, dn, dc⟩, ⟨some ⟨bx + 1 + 1 + 1, 0, none⟩, 1, 1⟩, ⟨sa, sn, sc⟩] rfl [[193, 0, 0, 0, 1], [(dn : Int)], dl, [(sn : Int)], sl] rfl (ib5 I1.out I2.out (HD.out.q Q1.out) I3.out (HS.out.q Q1.out)) (by show 5 ≤ 100; omega) (Nat.le_trans HLN.out (by omega))).mono ?_
    rintro e w2 ⟨⟨pa, pn, pc⟩, rfl, q2, r2, n2⟩
    have Q2 := hid (Q1.out.trans q2)
    have B2 := hid (Bx1.out.q q2)
    have I4 := hid (Row.ib r2)
    clear q2 r2 n2 z1 I1 I2 I3 Q1 Bx1
    generalize hb1 : ([[193, 0, 0, 0, 1], [(dn : Int)], dl, [(sn : Int)], sl] : List (List Int)).flatten = b1 at *
    have HB1 := hid hb1
    clear hb1
    have c0 := B2.out.c0
    have c4 := B2.out.c4
    have c6 := B2.out.c6
    try dsimp only at c0 c4 c6
    have ht1 : tn ≤ 16384 := by omega
    have SH := hid (fun u => rput_ok (tn : Int) u _ (by omega) (by omega) (hid rfl))
    have FL := hid (form_len tn)
    have HT7 := hid (HT.out.q Q2.out)
    go_wp2_with fail
    have s7 : Q w2 w2 := Q.refl _
    have HLN2 := hid (show (([b1, form tn, tl] : List (List Int)).flatten).length ≤ 20000 from by have h1 := Lt.out; have h2 := HLN.out; have h3 := FL.out; simp [h1]; omega)
    go_region_held3 (fun u => Q w2 u ∧ u.cell? ⟨bx, 4, none⟩ = some (.slice ta tn tc)) (repeat (first | (with_reducible assumption) | (with_reducible apply Q.drew) | (with_reducible apply Q.drewN) | (with_reducible apply Q.alloc) | (with_reducible refine dcel ?_) | (with_reducible refine acel ?_) | (with_reducible apply And.intro)))
      (first
        | (go_at_call 40; refine (SH.out _).mono ?_; rintro e w8 ⟨g8, rfl, q8, o8⟩; have j8 : Q w2 w8 := Q.trans (by repeat (first | (with_reducible assumption) | (with_reducible apply Q.drew) | (with_reducible apply Q.drewN) | (with_reducible apply Q.alloc))) q8; have cw84 : w8.cell? ⟨bx, 4, none⟩ = some (.slice ta tn tc) := (j8.cell (p := ⟨bx, 4, none⟩) (lt_of_cell c4)).trans c4; have I8 := hid (show Ib w8 ⟨some ⟨g8, 0, none⟩, sz tn, sz tn⟩ (form tn) from ⟨o8.seg, form_length tn⟩); clear o8)
        | (go_at_call 21; refine (join_q w8 w8.heap.size rfl _ [⟨pa, pn, pc⟩, ⟨some ⟨g8, 0, none⟩, sz tn, sz tn⟩, ⟨ta, tn, tc⟩] #[.slice pa pn pc, .slice (some ⟨g8, 0, none⟩) (sz tn) (sz tn), .slice ta tn tc] rfl (by (repeat (first | (with_reducible exact Q.refl _) | (with_reducible apply Q.drew) | (with_reducible apply Q.drewN) | (with_reducible refine Q.trans ?_ q8) | (with_reducible apply Q.alloc)))) [b1, form tn, tl] rfl (ib3 (I4.out.q (by (repeat (first | (with_reducible exact Q.refl _) | (with_reducible apply Q.drew) | (with_reducible apply Q.drewN) | (with_reducible refine Q.trans ?_ q8) | (with_reducible apply Q.alloc))))) (I8.out.q (by (repeat (first | (with_reducible exact Q.refl _) | (with_reducible apply Q.drew) | (with_reducible apply Q.drewN) | (with_reducible refine Q.trans ?_ q8) | (with_reducible apply Q.alloc))))) (HT7.out.q (by (repeat (first | (with_reducible exact Q.refl _) | (with_reducible apply Q.drew) | (with_reducible apply Q.drewN) | (with_reducible refine Q.trans ?_ q8) | (with_reducible apply Q.alloc)))))) (by show 3 ≤ 100; omega) (Nat.le_trans HLN2.out (by omega))).mono ?_; rintro e w9 ⟨⟨za, zn, zc⟩, rfl, q9, r9, n9⟩; have j9 : Q w2 w9 := Q.trans (by repeat (first | (with_reducible assumption) | (with_reducible apply Q.drew) | (with_reducible apply Q.drewN) | (with_reducible apply Q.alloc))) q9; have cw94 : w9.cell? ⟨bx, 4, none⟩ = some (.slice ta tn tc) := (j9.cell (p := ⟨bx, 4, none⟩) (lt_of_cell c4)).trans c4; clear q9 n9))
    have Q9 := hid (Q2.out.trans j9)
    have B9 := hid (B2.out.q j9)
    have I9 := hid (Row.ib r9)
    clear j8 j9 r9 s7 q8 c0 c4 c6 cw84 cw94 I4 I8 B2 Q2 SH
    have HBL := hid (show bldL ⟨1, ve, dl, sl, tl, vl, ln⟩ 2 = ([([b1, form tn, tl] : List (List Int)).flatten, lenF ln] : List (List Int)).flatten from by
      rw [← HB1.out]; unfold bldL; dsimp only; rw [if_neg (by decide), if_pos rfl, Ld.out, Ls.out, Lt.out]; simp [fstB])
    generalize ([b1, form tn, tl] : List (List Int)).flatten = b2 at *
    have HLN3 := hid (show (([b2, lenF ln] : List (List Int)).flatten).length ≤ 1000000 from by have h2 := HLN2.out; have h3 := LFL.out; simp; omega)
    have c6 := B9.out.c6
    try dsimp only at c6
    by_cases h64 : ln < 64
    · have HF := hid (show lenF ln = [64, ln] from by unfold lenF; rw [if_pos h64])
      have l0 : 0 ≤ ln := by have := HL1.out; omega
      have l1 : ln < 256 := by omega
      rw [HF.out] at HBL HLN3
      go_wp2_with fail
      generalize hwa : World.alloc w9 _ = wa
      have qa : Q w9 wa := by rw [← hwa]; exact (Q.refl _).alloc _
      have Ia := hid (show Ib wa ⟨some ⟨w9.heap.size, 0, none⟩, 2, 2⟩ [64, ln] from by rw [← hwa]; exact ib_lit _ _ [64, ln] rfl w9.heap.size rfl 2 rfl)
      have zwa : wa.heap.size = w9.heap.size + 1 := by rw [← hwa]; simp
      have Qa := hid (Q9.out.trans qa)
      have Ja := hid (I9.out.q qa)
      clear hwa qa
      refine (join_at wa (w9.heap.size + 1) (by omega) #[.slice za zn zc, .slice (some ⟨w9.heap.size, 0, none⟩) 2 2] [⟨za, zn, zc⟩, ⟨some ⟨w9.heap.size, 0, none⟩, 2, 2⟩] rfl [b2, [64, ln]] rfl (ib2 Ja.out Ia.out) (by show 2 ≤ 100; omega) HLN3.out).mono ?_
      rw [← HBL.out]
      rintro e wb ⟨xb, rfl, qb, rb, nb⟩
      have Kb := hid (Qa.out.trans qb)
      have Rb := hid rb
      clear qb rb nb zwa Ia Ja Qa
      go_wp2
      go_ret2
      exact ⟨xb, rfl, Kb.out, Rb.out⟩
    · have HF := hid (show lenF ln = form ln from by unfold lenF; rw [if_neg h64])
      rw [HF.out] at HBL HLN3
      have RP := hid (fun u => rput_ok ln u _ (by have := HL1.out; omega) (by have := HL1.out; omega) (hid rfl))
      go_wp2_with fail
      refine (RP.out w9).mono ?_
      rintro e wa ⟨ga, rfl, qa, oa⟩
      have Qa := hid (Q9.out.trans qa)
      have Ja := hid (I9.out.q qa)
      have Ia := hid (show Ib wa ⟨some ⟨ga, 0, none⟩, sz ln, sz ln⟩ (form ln) from ⟨oa.seg, form_length ln⟩)
      clear qa oa RP
      go_wp2_with fail
      refine (join_at wa wa.heap.size rfl #[.slice za zn zc, .slice (some ⟨ga, 0, none⟩) (sz ln) (sz ln)] [⟨za, zn, zc⟩, ⟨some ⟨ga, 0, none⟩, sz ln, sz ln⟩] rfl [b2, form ln] rfl (ib2 Ja.out Ia.out) (by show 2 ≤ 100; omega) HLN3.out).mono ?_
      rw [← HBL.out]
      rintro e wb ⟨xb, rfl, qb, rb, nb⟩
      have Kb := hid (Qa.out.trans qb)
      have Rb := hid rb
      clear qb rb nb Ia Ja Qa
      go_wp2
      go_ret2
      exact ⟨xb, rfl, Kb.out, Rb.out⟩
  · have HLN := hid (show (([[194, 0, 0, 0, 1], [(dn : Int)], dl, [(sn : Int)], sl] : List (List Int)).flatten).length ≤ 100 from by have h1 := Ld.out; have h2 := Ls.out; simp [h1, h2]; omega)
    have d0 : (0 : Int) ≤ (dn : Int) := by omega
    have d1 : (dn : Int) < 256 := by omega
    have s0 : (0 : Int) ≤ (sn : Int) := by omega
    have s1 : (sn : Int) < 256 := by omega
    go_enter Try.func18, Try.ntmps18
    go_wp2_with fail
    generalize hw1 : World.alloc (World.alloc (World.alloc (World.alloc w _) _) _) _ = w1
    have Q1 := hid (show Q w w1 from by rw [← hw1]; exact ((((Q.refl w).alloc _).alloc _).alloc _).alloc _)
    have Bx1 := hid (show Box w1 30 w.heap.size ⟨1, ve, dl, sl, tl, vl, ln⟩ ⟨da, dn, dc⟩ ⟨sa, sn, sc⟩ ⟨ta, tn, tc⟩ ⟨va, vn, vc⟩ from by rw [← hw1]; exact Box.q (Box.q (Box.q (show Box (w.alloc _) 30 w.heap.size ⟨1, ve, dl, sl, tl, vl, ln⟩ ⟨da, dn, dc⟩ ⟨sa, sn, sc⟩ ⟨ta, tn, tc⟩ ⟨va, vn, vc⟩ from heap_alloc_new w _) ((Q.refl _).alloc _)) ((Q.refl _).alloc _)) ((Q.refl _).alloc _))
    have I1 := hid (show Ib w1 ⟨some ⟨w.heap.size + 1, 0, none⟩, 5, 5⟩ [194, 0, 0, 0, 1] from by rw [← hw1]; exact ((ib_lit _ _ [194, 0, 0, 0, 1] rfl (w.heap.size + 1) (by simp) 5 rfl).q ((Q.refl _).alloc _)).q ((Q.refl _).alloc _))
    have I2 := hid (show Ib w1 ⟨some ⟨w.heap.size + 1 + 1, 0, none⟩, 1, 1⟩ [(dn : Int)] from by rw [← hw1]; exact (ib_lit _ _ [(dn : Int)] rfl (w.heap.size + 1 + 1) (by simp) 1 rfl).q ((Q.refl _).alloc _))
    have I3 := hid (show Ib w1 ⟨some ⟨w.heap.size + 1 + 1 + 1, 0, none⟩, 1, 1⟩ [(sn : Int)] from by rw [← hw1]; exact ib_lit _ _ [(sn : Int)] rfl (w.heap.size + 1 + 1 + 1) (by simp) 1 rfl)
    have z1 : w1.heap.size = w.heap.size + 1 + 1 + 1 + 1 := by rw [← hw1]; simp
    clear hw1
    generalize w.heap.size = bx at *
    refine (join_at w1 (bx + 1 + 1 + 1 + 1) (by omega) #[.slice (some ⟨bx + 1, 0, none⟩) 5 5, .slice (some ⟨bx + 1 + 1, 0, none⟩) 1 1, .slice da dn dc, .slice (some ⟨bx + 1 + 1 + 1, 0, none⟩) 1 1, .slice sa sn sc] [⟨some ⟨bx + 1, 0, none⟩, 5, 5⟩, ⟨some ⟨bx + 1 + 1, 0, none⟩, 1, 1⟩, ⟨da, dn, dc⟩, ⟨some ⟨bx + 1 + 1 + 1, 0, none⟩, 1, 1⟩, ⟨sa, sn, sc⟩] rfl [[194, 0, 0, 0, 1], [(dn : Int)], dl, [(sn : Int)], sl] rfl (ib5 I1.out I2.out (HD.out.q Q1.out) I3.out (HS.out.q Q1.out)) (by show 5 ≤ 100; omega) (Nat.le_trans HLN.out (by omega))).mono ?_
    rintro e w2 ⟨⟨pa, pn, pc⟩, rfl, q2, r2, n2⟩
    have Q2 := hid (Q1.out.trans q2)
    have B2 := hid (Bx1.out.q q2)
    have I4 := hid (Row.ib r2)
    clear q2 r2 n2 z1 I1 I2 I3 Q1 Bx1
    generalize hb1 : ([[194, 0, 0, 0, 1], [(dn : Int)], dl, [(sn : Int)], sl] : List (List Int)).flatten = b1 at *
    have HB1 := hid hb1
    clear hb1
    have c0 := B2.out.c0
    have c4 := B2.out.c4
    have c6 := B2.out.c6
    try dsimp only at c0 c4 c6
    have ht1 : tn ≤ 16384 := by omega
    have SH := hid (fun u => rput_ok (tn : Int) u _ (by omega) (by omega) (hid rfl))
    have FL := hid (form_len tn)
    have HT7 := hid (HT.out.q Q2.out)
    go_wp2_with fail
    have s7 : Q w2 w2 := Q.refl _
    have HLN2 := hid (show (([b1, form tn, tl] : List (List Int)).flatten).length ≤ 20000 from by have h1 := Lt.out; have h2 := HLN.out; have h3 := FL.out; simp [h1]; omega)
    go_region_held3 (fun u => Q w2 u ∧ u.cell? ⟨bx, 4, none⟩ = some (.slice ta tn tc)) (repeat (first | (with_reducible assumption) | (with_reducible apply Q.drew) | (with_reducible apply Q.drewN) | (with_reducible apply Q.alloc) | (with_reducible refine dcel ?_) | (with_reducible refine acel ?_) | (with_reducible apply And.intro)))
      (first
        | (go_at_call 40; refine (SH.out _).mono ?_; rintro e w8 ⟨g8, rfl, q8, o8⟩; have j8 : Q w2 w8 := Q.trans (by repeat (first | (with_reducible assumption) | (with_reducible apply Q.drew) | (with_reducible apply Q.drewN) | (with_reducible apply Q.alloc))) q8; have cw84 : w8.cell? ⟨bx, 4, none⟩ = some (.slice ta tn tc) := (j8.cell (p := ⟨bx, 4, none⟩) (lt_of_cell c4)).trans c4; have I8 := hid (show Ib w8 ⟨some ⟨g8, 0, none⟩, sz tn, sz tn⟩ (form tn) from ⟨o8.seg, form_length tn⟩); clear o8)
        | (go_at_call 21; refine (join_q w8 w8.heap.size rfl _ [⟨pa, pn, pc⟩, ⟨some ⟨g8, 0, none⟩, sz tn, sz tn⟩, ⟨ta, tn, tc⟩] #[.slice pa pn pc, .slice (some ⟨g8, 0, none⟩) (sz tn) (sz tn), .slice ta tn tc] rfl (by (repeat (first | (with_reducible exact Q.refl _) | (with_reducible apply Q.drew) | (with_reducible apply Q.drewN) | (with_reducible refine Q.trans ?_ q8) | (with_reducible apply Q.alloc)))) [b1, form tn, tl] rfl (ib3 (I4.out.q (by (repeat (first | (with_reducible exact Q.refl _) | (with_reducible apply Q.drew) | (with_reducible apply Q.drewN) | (with_reducible refine Q.trans ?_ q8) | (with_reducible apply Q.alloc))))) (I8.out.q (by (repeat (first | (with_reducible exact Q.refl _) | (with_reducible apply Q.drew) | (with_reducible apply Q.drewN) | (with_reducible refine Q.trans ?_ q8) | (with_reducible apply Q.alloc))))) (HT7.out.q (by (repeat (first | (with_reducible exact Q.refl _) | (with_reducible apply Q.drew) | (with_reducible apply Q.drewN) | (with_reducible refine Q.trans ?_ q8) | (with_reducible apply Q.alloc)))))) (by show 3 ≤ 100; omega) (Nat.le_trans HLN2.out (by omega))).mono ?_; rintro e w9 ⟨⟨za, zn, zc⟩, rfl, q9, r9, n9⟩; have j9 : Q w2 w9 := Q.trans (by repeat (first | (with_reducible assumption) | (with_reducible apply Q.drew) | (with_reducible apply Q.drewN) | (with_reducible apply Q.alloc))) q9; have cw94 : w9.cell? ⟨bx, 4, none⟩ = some (.slice ta tn tc) := (j9.cell (p := ⟨bx, 4, none⟩) (lt_of_cell c4)).trans c4; clear q9 n9))
    have Q9 := hid (Q2.out.trans j9)
    have B9 := hid (B2.out.q j9)
    have I9 := hid (Row.ib r9)
    clear j8 j9 r9 s7 q8 c0 c4 c6 cw84 cw94 I4 I8 B2 Q2 SH
    have HBL := hid (show bldL ⟨1, ve, dl, sl, tl, vl, ln⟩ 3 = ([([b1, form tn, tl] : List (List Int)).flatten, lenF ln] : List (List Int)).flatten from by
      rw [← HB1.out]; unfold bldL; dsimp only; rw [if_neg (by decide), if_pos rfl, Ld.out, Ls.out, Lt.out]; simp [fstB])
    generalize ([b1, form tn, tl] : List (List Int)).flatten = b2 at *
    have HLN3 := hid (show (([b2, lenF ln] : List (List Int)).flatten).length ≤ 1000000 from by have h2 := HLN2.out; have h3 := LFL.out; simp; omega)
    have c6 := B9.out.c6
    try dsimp only at c6
    by_cases h64 : ln < 64
    · have HF := hid (show lenF ln = [64, ln] from by unfold lenF; rw [if_pos h64])
      have l0 : 0 ≤ ln := by have := HL1.out; omega
      have l1 : ln < 256 := by omega
      rw [HF.out] at HBL HLN3
      go_wp2_with fail
      generalize hwa : World.alloc w9 _ = wa
      have qa : Q w9 wa := by rw [← hwa]; exact (Q.refl _).alloc _
      have Ia := hid (show Ib wa ⟨some ⟨w9.heap.size, 0, none⟩, 2, 2⟩ [64, ln] from by rw [← hwa]; exact ib_lit _ _ [64, ln] rfl w9.heap.size rfl 2 rfl)
      have zwa : wa.heap.size = w9.heap.size + 1 := by rw [← hwa]; simp
      have Qa := hid (Q9.out.trans qa)
      have Ja := hid (I9.out.q qa)
      clear hwa qa
      refine (join_at wa (w9.heap.size + 1) (by omega) #[.slice za zn zc, .slice (some ⟨w9.heap.size, 0, none⟩) 2 2] [⟨za, zn, zc⟩, ⟨some ⟨w9.heap.size, 0, none⟩, 2, 2⟩] rfl [b2, [64, ln]] rfl (ib2 Ja.out Ia.out) (by show 2 ≤ 100; omega) HLN3.out).mono ?_
      rw [← HBL.out]
      rintro e wb ⟨xb, rfl, qb, rb, nb⟩
      have Kb := hid (Qa.out.trans qb)
      have Rb := hid rb
      clear qb rb nb zwa Ia Ja Qa
      go_wp2
      go_ret2
      exact ⟨xb, rfl, Kb.out, Rb.out⟩
    · have HF := hid (show lenF ln = form ln from by unfold lenF; rw [if_neg h64])
      rw [HF.out] at HBL HLN3
      have RP := hid (fun u => rput_ok ln u _ (by have := HL1.out; omega) (by have := HL1.out; omega) (hid rfl))
      go_wp2_with fail
      refine (RP.out w9).mono ?_
      rintro e wa ⟨ga, rfl, qa, oa⟩
      have Qa := hid (Q9.out.trans qa)
      have Ja := hid (I9.out.q qa)
      have Ia := hid (show Ib wa ⟨some ⟨ga, 0, none⟩, sz ln, sz ln⟩ (form ln) from ⟨oa.seg, form_length ln⟩)
      clear qa oa RP
      go_wp2_with fail
      refine (join_at wa wa.heap.size rfl #[.slice za zn zc, .slice (some ⟨ga, 0, none⟩) (sz ln) (sz ln)] [⟨za, zn, zc⟩, ⟨some ⟨ga, 0, none⟩, sz ln, sz ln⟩] rfl [b2, form ln] rfl (ib2 Ja.out Ia.out) (by show 2 ≤ 100; omega) HLN3.out).mono ?_
      rw [← HBL.out]
      rintro e wb ⟨xb, rfl, qb, rb, nb⟩
      have Kb := hid (Qa.out.trans qb)
      have Rb := hid rb
      clear qb rb nb Ia Ja Qa
      go_wp2
      go_ret2
      exact ⟨xb, rfl, Kb.out, Rb.out⟩
  · have HLN := hid (show (([[195, 0, 0, 0, 1], [(dn : Int)], dl, [(sn : Int)], sl] : List (List Int)).flatten).length ≤ 100 from by have h1 := Ld.out; have h2 := Ls.out; simp [h1, h2]; omega)
    have d0 : (0 : Int) ≤ (dn : Int) := by omega
    have d1 : (dn : Int) < 256 := by omega
    have s0 : (0 : Int) ≤ (sn : Int) := by omega
    have s1 : (sn : Int) < 256 := by omega
    go_enter Try.func18, Try.ntmps18
    go_wp2_with fail
    generalize hw1 : World.alloc (World.alloc (World.alloc (World.alloc w _) _) _) _ = w1
    have Q1 := hid (show Q w w1 from by rw [← hw1]; exact ((((Q.refl w).alloc _).alloc _).alloc _).alloc _)
    have Bx1 := hid (show Box w1 30 w.heap.size ⟨1, ve, dl, sl, tl, vl, ln⟩ ⟨da, dn, dc⟩ ⟨sa, sn, sc⟩ ⟨ta, tn, tc⟩ ⟨va, vn, vc⟩ from by rw [← hw1]; exact Box.q (Box.q (Box.q (show Box (w.alloc _) 30 w.heap.size ⟨1, ve, dl, sl, tl, vl, ln⟩ ⟨da, dn, dc⟩ ⟨sa, sn, sc⟩ ⟨ta, tn, tc⟩ ⟨va, vn, vc⟩ from heap_alloc_new w _) ((Q.refl _).alloc _)) ((Q.refl _).alloc _)) ((Q.refl _).alloc _))
    have I1 := hid (show Ib w1 ⟨some ⟨w.heap.size + 1, 0, none⟩, 5, 5⟩ [195, 0, 0, 0, 1] from by rw [← hw1]; exact ((ib_lit _ _ [195, 0, 0, 0, 1] rfl (w.heap.size + 1) (by simp) 5 rfl).q ((Q.refl _).alloc _)).q ((Q.refl _).alloc _))
    have I2 := hid (show Ib w1 ⟨some ⟨w.heap.size + 1 + 1, 0, none⟩, 1, 1⟩ [(dn : Int)] from by rw [← hw1]; exact (ib_lit _ _ [(dn : Int)] rfl (w.heap.size + 1 + 1) (by simp) 1 rfl).q ((Q.refl _).alloc _))
    have I3 := hid (show Ib w1 ⟨some ⟨w.heap.size + 1 + 1 + 1, 0, none⟩, 1, 1⟩ [(sn : Int)] from by rw [← hw1]; exact ib_lit _ _ [(sn : Int)] rfl (w.heap.size + 1 + 1 + 1) (by simp) 1 rfl)
    have z1 : w1.heap.size = w.heap.size + 1 + 1 + 1 + 1 := by rw [← hw1]; simp
    clear hw1
    generalize w.heap.size = bx at *
    refine (join_at w1 (bx + 1 + 1 + 1 + 1) (by omega) #[.slice (some ⟨bx + 1, 0, none⟩) 5 5, .slice (some ⟨bx + 1 + 1, 0, none⟩) 1 1, .slice da dn dc, .slice (some ⟨bx + 1 + 1 + 1, 0, none⟩) 1 1, .slice sa sn sc] [⟨some ⟨bx + 1, 0, none⟩, 5, 5⟩, ⟨some ⟨bx + 1 + 1, 0, none⟩, 1, 1⟩, ⟨da, dn, dc⟩, ⟨some ⟨bx + 1 + 1 + 1, 0, none⟩, 1, 1⟩, ⟨sa, sn, sc⟩] rfl [[195, 0, 0, 0, 1], [(dn : Int)], dl, [(sn : Int)], sl] rfl (ib5 I1.out I2.out (HD.out.q Q1.out) I3.out (HS.out.q Q1.out)) (by show 5 ≤ 100; omega) (Nat.le_trans HLN.out (by omega))).mono ?_
    rintro e w2 ⟨⟨pa, pn, pc⟩, rfl, q2, r2, n2⟩
    have Q2 := hid (Q1.out.trans q2)
    have B2 := hid (Bx1.out.q q2)
    have I4 := hid (Row.ib r2)
    clear q2 r2 n2 z1 I1 I2 I3 Q1 Bx1
    generalize hb1 : ([[195, 0, 0, 0, 1], [(dn : Int)], dl, [(sn : Int)], sl] : List (List Int)).flatten = b1 at *
    have HB1 := hid hb1
    clear hb1
    have c0 := B2.out.c0
    have c4 := B2.out.c4
    have c6 := B2.out.c6
    try dsimp only at c0 c4 c6
    have ht1 : tn ≤ 16384 := by omega
    have SH := hid (fun u => rput_ok (tn : Int) u _ (by omega) (by omega) (hid rfl))
    have FL := hid (form_len tn)
    have HT7 := hid (HT.out.q Q2.out)
    go_wp2_with fail
    have s7 : Q w2 w2 := Q.refl _
    have HLN2 := hid (show (([b1, form tn, tl] : List (List Int)).flatten).length ≤ 20000 from by have h1 := Lt.out; have h2 := HLN.out; have h3 := FL.out; simp [h1]; omega)
    go_region_held3 (fun u => Q w2 u ∧ u.cell? ⟨bx, 4, none⟩ = some (.slice ta tn tc)) (repeat (first | (with_reducible assumption) | (with_reducible apply Q.drew) | (with_reducible apply Q.drewN) | (with_reducible apply Q.alloc) | (with_reducible refine dcel ?_) | (with_reducible refine acel ?_) | (with_reducible apply And.intro)))
      (first
        | (go_at_call 40; refine (SH.out _).mono ?_; rintro e w8 ⟨g8, rfl, q8, o8⟩; have j8 : Q w2 w8 := Q.trans (by repeat (first | (with_reducible assumption) | (with_reducible apply Q.drew) | (with_reducible apply Q.drewN) | (with_reducible apply Q.alloc))) q8; have cw84 : w8.cell? ⟨bx, 4, none⟩ = some (.slice ta tn tc) := (j8.cell (p := ⟨bx, 4, none⟩) (lt_of_cell c4)).trans c4; have I8 := hid (show Ib w8 ⟨some ⟨g8, 0, none⟩, sz tn, sz tn⟩ (form tn) from ⟨o8.seg, form_length tn⟩); clear o8)
        | (go_at_call 21; refine (join_q w8 w8.heap.size rfl _ [⟨pa, pn, pc⟩, ⟨some ⟨g8, 0, none⟩, sz tn, sz tn⟩, ⟨ta, tn, tc⟩] #[.slice pa pn pc, .slice (some ⟨g8, 0, none⟩) (sz tn) (sz tn), .slice ta tn tc] rfl (by (repeat (first | (with_reducible exact Q.refl _) | (with_reducible apply Q.drew) | (with_reducible apply Q.drewN) | (with_reducible refine Q.trans ?_ q8) | (with_reducible apply Q.alloc)))) [b1, form tn, tl] rfl (ib3 (I4.out.q (by (repeat (first | (with_reducible exact Q.refl _) | (with_reducible apply Q.drew) | (with_reducible apply Q.drewN) | (with_reducible refine Q.trans ?_ q8) | (with_reducible apply Q.alloc))))) (I8.out.q (by (repeat (first | (with_reducible exact Q.refl _) | (with_reducible apply Q.drew) | (with_reducible apply Q.drewN) | (with_reducible refine Q.trans ?_ q8) | (with_reducible apply Q.alloc))))) (HT7.out.q (by (repeat (first | (with_reducible exact Q.refl _) | (with_reducible apply Q.drew) | (with_reducible apply Q.drewN) | (with_reducible refine Q.trans ?_ q8) | (with_reducible apply Q.alloc)))))) (by show 3 ≤ 100; omega) (Nat.le_trans HLN2.out (by omega))).mono ?_; rintro e w9 ⟨⟨za, zn, zc⟩, rfl, q9, r9, n9⟩; have j9 : Q w2 w9 := Q.trans (by repeat (first | (with_reducible assumption) | (with_reducible apply Q.drew) | (with_reducible apply Q.drewN) | (with_reducible apply Q.alloc))) q9; have cw94 : w9.cell? ⟨bx, 4, none⟩ = some (.slice ta tn tc) := (j9.cell (p := ⟨bx, 4, none⟩) (lt_of_cell c4)).trans c4; clear q9 n9))
    have Q9 := hid (Q2.out.trans j9)
    have B9 := hid (B2.out.q j9)
    have I9 := hid (Row.ib r9)
    clear j8 j9 r9 s7 q8 c0 c4 c6 cw84 cw94 I4 I8 B2 Q2 SH
    have HBL := hid (show bldL ⟨1, ve, dl, sl, tl, vl, ln⟩ 4 = ([([b1, form tn, tl] : List (List Int)).flatten, lenF ln] : List (List Int)).flatten from by
      rw [← HB1.out]; unfold bldL; dsimp only; rw [if_neg (by decide), if_pos rfl, Ld.out, Ls.out, Lt.out]; simp [fstB])
    generalize ([b1, form tn, tl] : List (List Int)).flatten = b2 at *
    have HLN3 := hid (show (([b2, lenF ln] : List (List Int)).flatten).length ≤ 1000000 from by have h2 := HLN2.out; have h3 := LFL.out; simp; omega)
    have c6 := B9.out.c6
    try dsimp only at c6
    by_cases h64 : ln < 64
    · have HF := hid (show lenF ln = [64, ln] from by unfold lenF; rw [if_pos h64])
      have l0 : 0 ≤ ln := by have := HL1.out; omega
      have l1 : ln < 256 := by omega
      rw [HF.out] at HBL HLN3
      go_wp2_with fail
      generalize hwa : World.alloc w9 _ = wa
      have qa : Q w9 wa := by rw [← hwa]; exact (Q.refl _).alloc _
      have Ia := hid (show Ib wa ⟨some ⟨w9.heap.size, 0, none⟩, 2, 2⟩ [64, ln] from by rw [← hwa]; exact ib_lit _ _ [64, ln] rfl w9.heap.size rfl 2 rfl)
      have zwa : wa.heap.size = w9.heap.size + 1 := by rw [← hwa]; simp
      have Qa := hid (Q9.out.trans qa)
      have Ja := hid (I9.out.q qa)
      clear hwa qa
      refine (join_at wa (w9.heap.size + 1) (by omega) #[.slice za zn zc, .slice (some ⟨w9.heap.size, 0, none⟩) 2 2] [⟨za, zn, zc⟩, ⟨some ⟨w9.heap.size, 0, none⟩, 2, 2⟩] rfl [b2, [64, ln]] rfl (ib2 Ja.out Ia.out) (by show 2 ≤ 100; omega) HLN3.out).mono ?_
      rw [← HBL.out]
      rintro e wb ⟨xb, rfl, qb, rb, nb⟩
      have Kb := hid (Qa.out.trans qb)
      have Rb := hid rb
      clear qb rb nb zwa Ia Ja Qa
      go_wp2
      go_ret2
      exact ⟨xb, rfl, Kb.out, Rb.out⟩
    · have HF := hid (show lenF ln = form ln from by unfold lenF; rw [if_neg h64])
      rw [HF.out] at HBL HLN3
      have RP := hid (fun u => rput_ok ln u _ (by have := HL1.out; omega) (by have := HL1.out; omega) (hid rfl))
      go_wp2_with fail
      refine (RP.out w9).mono ?_
      rintro e wa ⟨ga, rfl, qa, oa⟩
      have Qa := hid (Q9.out.trans qa)
      have Ja := hid (I9.out.q qa)
      have Ia := hid (show Ib wa ⟨some ⟨ga, 0, none⟩, sz ln, sz ln⟩ (form ln) from ⟨oa.seg, form_length ln⟩)
      clear qa oa RP
      go_wp2_with fail
      refine (join_at wa wa.heap.size rfl #[.slice za zn zc, .slice (some ⟨ga, 0, none⟩) (sz ln) (sz ln)] [⟨za, zn, zc⟩, ⟨some ⟨ga, 0, none⟩, sz ln, sz ln⟩] rfl [b2, form ln] rfl (ib2 Ja.out Ia.out) (by show 2 ≤ 100; omega) HLN3.out).mono ?_
      rw [← HBL.out]
      rintro e wb ⟨xb, rfl, qb, rb, nb⟩
      have Kb := hid (Qa.out.trans qb)
      have Rb := hid rb
      clear qb rb nb Ia Ja Qa
      go_wp2
      go_ret2
      exact ⟨xb, rfl, Kb.out, Rb.out⟩
/-- The document's Build answers what the program's does. -/
theorem rbuild_any (kd ve : Int) (dl sl tl vl : List Int) (ln : Int) (d s t v : Sv) (width : Int) (w : World) (hd : Ib w d dl) (hs : Ib w s sl) (ht : Ib w t tl) :
    Calls Try.prog 18 #[hv ⟨kd, ve, dl, sl, tl, vl, ln⟩ d s t v, .int .i64 width] w fun e w' => ∃ x : Sv, e = .returned (.tuple #[.slice x.a x.n x.c, .int .i64 (bldE ⟨kd, ve, dl, sl, tl, vl, ln⟩ width)]) ∧ Q w w' ∧ Row w' x (bldR ⟨kd, ve, dl, sl, tl, vl, ln⟩ width) := by
  by_cases h1 : kd = 1
  · subst h1; exact rbuild_1 ve dl sl tl vl ln d s t v width w hd hs ht
  by_cases h2 : kd = 2
  · subst h2; exact rbuild_2 ve dl sl tl vl ln d s t v width w hd hs ht
  by_cases h3 : kd = 3
  · subst h3; exact rbuild_3 ve dl sl tl vl ln d s t v width w hd hs ht
  by_cases h6 : kd = 6
  · subst h6; exact rbuild_6 ve dl sl tl vl ln d s t v width w hd hs ht
  · exact rbuild_o kd ve dl sl tl vl ln d s t v width w h1 h2 h3 h6
end Go.Proofs.Ytbhhajmfdffdbaa
