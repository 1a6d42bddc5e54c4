/-
  What header.Build does: a contract that the statements' walks use.
-/
import Derived.Test.YtbhhajmfdffdbaaWsz
import Derived.Deep.RegionHeld3
import Derived.Lib.SlBytesConst
namespace Go.Proofs.Ytbhhajmfdffdbaa
open Go.RowKit
set_option linter.unusedVariables false
set_option maxRecDepth 20000

theorem dcel {W : World} {p : Addr} {v : Value} (h : W.cell? p = some v) : W.drew.cell? p = some v := h
theorem acel {W : World} {p : Addr} {v : Value} {o : Obj} (h : W.cell? p = some v) : (W.alloc o).cell? p = some v := Lib.cell?_alloc_marked o h
/-- The bytes that a slice brings. -/
structure Ib (w : World) (x : Sv) (zs : List Int) : Prop where
  s : Seg w x.a zs
  l : zs.length = x.n
theorem Ib.q {w w' : World} {x : Sv} {zs : List Int} (h : Ib w x zs) (k : Q w w') : Ib w' x zs := ⟨h.s.q k, h.l⟩
theorem Row.ib {w : World} {x : Sv} {zs : List Int} (h : Row w x zs) : Ib w x zs := ⟨h.seg, Row.len h⟩
theorem ib_lit (w : World) (cs : Array Value) (zs : List Int) (hcs : cs = (u8s zs).toArray) (n : Nat) (hn : w.heap.size = n) (c : Nat) (hc : zs.length = c) : Ib (w.alloc (.cells cs 5)) ⟨some ⟨n, 0, none⟩, c, c⟩ zs := by
  subst hn
  subst hcs
  exact ⟨segL w zs, hc⟩
abbrev pcs (xs : List Sv) : Array Value := (xs.map fun x => Value.slice x.a x.n x.c).toArray
theorem cat_flat (zss : List (List Int)) (m : Nat) : cat (fun j => zss.getD j []) m = (zss.take m).flatten := by
  induction m with
  | zero => rfl
  | succ m ih =>
    show cat _ m ++ zss.getD m [] = _
    rw [ih, List.take_add_one, List.flatten_append]
    congr 1
    rw [List.getD_eq_getElem?_getD]
    cases zss[m]? <;> simp
/-- Concat of pieces that the caller lays in a row. -/
theorem concat_at (w : World) (pb : Nat) (hpb : w.heap.size = pb) (xs : List Sv) (zss : List (List Int)) (hl : zss.length = xs.length) (h : ∀ j, j < xs.length → Ib w (xs.getD j nilS) (zss.getD j [])) (hm : xs.length ≤ 100) (ht : zss.flatten.length ≤ 1000000) :
    Calls Try.prog 35 #[.slice (some ⟨pb, 0, none⟩) xs.length xs.length] (w.alloc (.cells (pcs xs) 22)) fun e w' => ∃ x : Sv, e = .returned (.slice x.a x.n x.c) ∧ Q w w' ∧ Row w' x zss.flatten ∧ New w.heap.size x := by
  subst hpb
  have q : Q w (w.alloc (.cells (pcs xs) 22)) := (Q.refl w).alloc _
  have e : cat (fun j => zss.getD j []) xs.length = zss.flatten := by rw [cat_flat, ← hl, List.take_length]
  refine (concat_any w.heap.size xs.length xs.length (fun j => xs.getD j nilS) (fun j => zss.getD j []) _ (by
      intro j hj
      rw [cell_of_row _ w.heap.size j _ 22 (0, 0) (heap_alloc_new w _)]
      simp [List.getD_eq_getElem?_getD, hj]) (fun j hj => ⟨(h j hj).s.q q, (h j hj).l⟩) hm (by rw [e]; exact ht)).mono ?_
  rintro r w1 ⟨x, rfl, q1, r1, n1⟩
  rw [e] at r1
  exact ⟨x, rfl, q.trans q1, r1, n1.mono q.size⟩
theorem concat_q (X : World) (pb : Nat) (hpb : X.heap.size = pb) (W : World) (xs : List Sv) (cs : Array Value) (hcs : cs = pcs xs) (hq : Q (X.alloc (.cells cs 22)) W) (zss : List (List Int)) (hl : zss.length = xs.length) (h : ∀ j, j < xs.length → Ib W (xs.getD j nilS) (zss.getD j [])) (hm : xs.length ≤ 100) (ht : zss.flatten.length ≤ 1000000) :
    Calls Try.prog 35 #[.slice (some ⟨pb, 0, none⟩) xs.length xs.length] W fun e w' => ∃ x : Sv, e = .returned (.slice x.a x.n x.c) ∧ Q W w' ∧ Row w' x zss.flatten ∧ New W.heap.size x := by
  subst hpb
  subst hcs
  have e : cat (fun j => zss.getD j []) xs.length = zss.flatten := by rw [cat_flat, ← hl, List.take_length]
  refine (concat_any X.heap.size xs.length xs.length (fun j => xs.getD j nilS) (fun j => zss.getD j []) W (by
      intro j hj
      have hc : (X.alloc (.cells (pcs xs) 22)).cell? ⟨X.heap.size, j, none⟩ = some (.slice (xs.getD j nilS).a (xs.getD j nilS).n (xs.getD j nilS).c) := by
        rw [cell_of_row _ X.heap.size j _ 22 (0, 0) (heap_alloc_new X _)]
        simp [List.getD_eq_getElem?_getD, hj]
      rw [hq.cell (lt_of_cell hc)]; exact hc) (fun j hj => ⟨(h j hj).s, (h j hj).l⟩) hm (by rw [e]; exact ht)).mono ?_
  rintro r w1 ⟨x, rfl, q1, r1, n1⟩
  rw [e] at r1
  exact ⟨x, rfl, q1, r1, n1⟩
theorem ib2 {w : World} {x0 x1 : Sv} {z0 z1 : List Int} (h0 : Ib w x0 z0) (h1 : Ib w x1 z1) : ∀ j, j < [x0, x1].length → Ib w ([x0, x1].getD j nilS) ([z0, z1].getD j []) := by
  intro j hj
  rcases (show j = 0 ∨ j = 1 by simp at hj; omega) with rfl | rfl
  · exact h0
  · exact h1
theorem ib3 {w : World} {x0 x1 x2 : Sv} {z0 z1 z2 : List Int} (h0 : Ib w x0 z0) (h1 : Ib w x1 z1) (h2 : Ib w x2 z2) : ∀ j, j < [x0, x1, x2].length → Ib w ([x0, x1, x2].getD j nilS) ([z0, z1, z2].getD j []) := by
  intro j hj
  rcases (show j = 0 ∨ j = 1 ∨ j = 2 by simp at hj; omega) with rfl | rfl | rfl
  · exact h0
  · exact h1
  · exact h2
/-- What Build writes. -/
def bldL (h : Hd) (width : Int) : List Int :=
  if h.kind = 6 then fstB h.kind width :: h.dst
  else [fstB h.kind width, 0, 0, 0, 1] ++ ((h.dst.length : Int) :: h.dst) ++ ((h.src.length : Int) :: h.src) ++ (if h.kind = 1 then form h.tok.length ++ h.tok else []) ++ lenF h.len
def bldR (h : Hd) (width : Int) : List Int := if bldE h width = 0 then bldL h width else []
theorem bld_ok {h : Hd} {width : Int} (e : bldE h width = 0) : (h.kind = 1 ∨ h.kind = 2 ∨ h.kind = 3 ∨ h.kind = 6) ∧ 1 ≤ width ∧ width ≤ 4 ∧ h.dst.length ≤ 20 ∧ (h.kind = 6 ∨ h.src.length ≤ 20) ∧ (h.kind ≠ 1 ∨ h.tok.length ≤ 16384) ∧ (h.kind = 6 ∨ (1 ≤ h.len ∧ h.len ≤ 16384)) := by
  unfold bldE at e
  split at e
  · simp at e
  split at e
  · simp at e
  split at e
  · simp at e
  split at e
  · simp at e
  split at e
  · simp at e
  omega
theorem form_len (n : Int) : (form n).length ≤ 8 := by
  have h := sz_le n
  have h2 := form_length n
  omega
set_option maxHeartbeats 8000000 in
theorem build_any (kd ve : Int) (dl sl tl vl : List Int) (ln : Int) (d s t v : Sv) (width : Int) (w : World) (hd : Ib w d dl) (hs : Ib w s sl) (ht : Ib w t tl) :
    Calls Try.prog 17 #[hv ⟨kd, ve, dl, sl, tl, vl, ln⟩ d s t v, .int .i64 width] w fun e w' => ∃ x : Sv, e = .returned (.tuple #[.slice x.a x.n x.c, .int .i64 (bldE ⟨kd, ve, dl, sl, tl, vl, ln⟩ width)]) ∧ Q w w' ∧ Row w' x (bldR ⟨kd, ve, dl, sl, tl, vl, ln⟩ width) := by
  have HD := hid hd
  have HS := hid hs
  have HT := hid ht
  have CK := hid (fun u => check_any ⟨kd, ve, dl, sl, tl, vl, ln⟩ d s t v width u hd.l hs.l ht.l)
  clear hd hs ht
  obtain ⟨da, dn, dc⟩ := d
  obtain ⟨sa, sn, sc⟩ := s
  obtain ⟨ta, tn, tc⟩ := t
  obtain ⟨va, vn, vc⟩ := v
  have Ld := hid (show dl.length = dn from HD.out.l)
  have Ls := hid (show sl.length = sn from HS.out.l)
  have Lt := hid (show tl.length = tn from HT.out.l)
  have HR := hid (show bldR ⟨kd, ve, dl, sl, tl, vl, ln⟩ width = if bldE ⟨kd, ve, dl, sl, tl, vl, ln⟩ width = 0 then bldL ⟨kd, ve, dl, sl, tl, vl, ln⟩ width else [] from rfl)
  have HOK := hid (@bld_ok ⟨kd, ve, dl, sl, tl, vl, ln⟩ width)
  generalize bldE ⟨kd, ve, dl, sl, tl, vl, ln⟩ width = E at *
  generalize bldR ⟨kd, ve, dl, sl, tl, vl, ln⟩ width = R at *
  go_enter Try.func17, Try.ntmps17
  go_wp2_with fail
  generalize hw1 : World.alloc w _ = w1
  have q1 : Q w w1 := by rw [← hw1]; exact (Q.refl w).alloc _
  have b1 : Box w1 26 w.heap.size ⟨kd, ve, dl, sl, tl, vl, ln⟩ ⟨da, dn, dc⟩ ⟨sa, sn, sc⟩ ⟨ta, tn, tc⟩ ⟨va, vn, vc⟩ := by rw [← hw1]; exact heap_alloc_new w _
  have Q1 := hid q1
  have B1 := hid b1
  clear hw1 q1 b1
  generalize w.heap.size = bx at *
  refine (CK.out w1).mono ?_
  rintro e w2 ⟨rfl, q2⟩
  have Q2 := hid (Q1.out.trans q2)
  have B2 := hid (B1.out.q q2)
  clear q2 Q1 B1 CK
  by_cases hE : E = 0
  · subst hE
    rw [if_pos rfl] at HR
    obtain ⟨ok1, ok2, ok3, ok4, ok5, ok6, ok7⟩ := HOK.out rfl
    try dsimp only at ok1 ok2 ok3 ok4 ok5 ok6 ok7
    have FB := hid (fun u => first_any kd width u ok1 ⟨ok2, ok3⟩)
    have cw20 := B2.out.c0
    have cw22 := B2.out.c2
    have cw23 := B2.out.c3
    have cw24 := B2.out.c4
    have cw26 := B2.out.c6
    try dsimp only at cw20 cw22 cw23 cw24 cw26
    by_cases h6 : kd = 6
    · subst h6
      have HBL := hid (show bldL ⟨6, ve, dl, sl, tl, vl, ln⟩ width = ([[fstB 6 width], dl] : List (List Int)).flatten from by unfold bldL; simp)
      have HLN := hid (show (([[fstB 6 width], dl] : List (List Int)).flatten).length ≤ 1000000 from by have := Ld.out; simp [this]; omega)
      have HD2 := hid (HD.out.q Q2.out)
      go_wp2_with fail
      have s2 : Q w2 w2 := Q.refl _
      go_region_held3 (fun u => Q w2 u ∧ u.cell? ⟨bx, 0, none⟩ = some (.int .i64 6) ∧ u.cell? ⟨bx, 2, none⟩ = some (.slice da dn dc)) (repeat (first | (with_reducible assumption) | (with_reducible apply Q.drew) | (with_reducible apply Q.drewN) | (with_reducible apply Q.alloc) | (with_reducible refine dcel ?_) | (with_reducible refine acel ?_) | (with_reducible apply And.intro)))
        (first
          | (go_at_call 36; refine (FB.out _).mono ?_; rintro e w3 ⟨rfl, rfl⟩)
          | (go_at_call 35; refine (concat_q (w2.alloc (.cells #[.int .u8 (fstB 6 width)] 5)) (w2.heap.size + 1) (by simp) _ [⟨some ⟨w2.heap.size, 0, none⟩, 1, 1⟩, ⟨da, dn, dc⟩] #[.slice (some ⟨w2.heap.size, 0, none⟩) 1 1, .slice da dn dc] rfl (by (repeat (first | (with_reducible exact Q.refl _) | (with_reducible apply Q.drew) | (with_reducible apply Q.drewN) | (with_reducible apply Q.alloc)))) [[fstB 6 width], dl] rfl (ib2 ((ib_lit w2 #[.int .u8 (fstB 6 width)] [fstB 6 width] rfl w2.heap.size rfl 1 rfl).q (by (repeat (first | (with_reducible exact Q.refl _) | (with_reducible apply Q.drew) | (with_reducible apply Q.drewN) | (with_reducible apply Q.alloc))))) (HD2.out.q (by (repeat (first | (with_reducible exact Q.refl _) | (with_reducible apply Q.drew) | (with_reducible apply Q.drewN) | (with_reducible apply Q.alloc)))))) (by show 2 ≤ 100; omega) HLN.out).mono ?_; rintro e w9 ⟨x9, rfl, q9, r9, n9⟩; have j9 : Q w2 w9 := Q.trans (by repeat (first | (with_reducible assumption) | (with_reducible apply Q.drew) | (with_reducible apply Q.drewN) | (with_reducible apply Q.alloc))) q9; have cw90 : w9.cell? ⟨bx, 0, none⟩ = some (.int .i64 6) := (j9.cell (p := ⟨bx, 0, none⟩) (lt_of_cell cw20)).trans cw20; have cw92 : w9.cell? ⟨bx, 2, none⟩ = some (.slice da dn dc) := (j9.cell (p := ⟨bx, 2, none⟩) (lt_of_cell cw22)).trans cw22; clear q9 n9))
      have K9 := hid (Q2.out.trans j9)
      have R9 := hid (show Row w9 x9 R from by rw [HR.out, HBL.out]; exact r9)
      clear j9 r9 s2 cw90 cw92
      go_wp2
      go_ret2
      exact ⟨x9, rfl, K9.out, R9.out⟩
    · have h6' : (kd == 6) = false := by simp [h6]
      have h6'' : (kd = 6) = False := by simp [h6]
      have hs20 : sn ≤ 20 := by have := Ls.out; omega
      have hd20 : dn ≤ 20 := by have := Ld.out; omega
      obtain ⟨hl1, hl2⟩ : 1 ≤ ln ∧ ln ≤ 16384 := by omega
      have LF := hid (fun u => lengthForm_any ln u (by omega) (by omega))
      have HL1 := hid (And.intro hl1 hl2)
      have LFL := hid (show (lenF ln).length ≤ 8 from by unfold lenF; split; simp; exact form_len ln)
      clear hl1 hl2 ok7 ok2 ok3 ok4 ok5
      go_wp2_with (go_at_call 36; refine (FB.out _).mono ?_; rintro e w3 ⟨rfl, rfl⟩)
      generalize hw3 : World.alloc w2 _ = w4
      have q4 : Q w2 w4 := by rw [← hw3]; exact (Q.refl w2).alloc _
      have B4 := hid (B2.out.q q4)
      have I4 := hid (show Ib w4 ⟨some ⟨w2.heap.size, 0, none⟩, 5, 5⟩ [fstB kd width, 0, 0, 0, 1] from by rw [← hw3]; exact ib_lit w2 _ [fstB kd width, 0, 0, 0, 1] rfl w2.heap.size rfl 5 rfl)
      have Q4 := hid (Q2.out.trans q4)
      clear hw3 q4 cw20 cw22 cw23 cw24 cw26 B2 Q2
      generalize w2.heap.size = fb at *
      have cw42 := B4.out.c2
      have cw43 := B4.out.c3
      try dsimp only at cw42 cw43
      have WD := hid (fun u (hu : Q w4 u) => withSize_any ⟨da, dn, dc⟩ dl u HD.out.l ((HD.out.s.q Q4.out).q hu) (by show dn ≤ 20; omega))
      have WS := hid (fun u (hu : Q w4 u) => withSize_any ⟨sa, sn, sc⟩ sl u HS.out.l ((HS.out.s.q Q4.out).q hu) (by show sn ≤ 20; omega))
      have HLN := hid (show (([[fstB kd width, 0, 0, 0, 1], (dn : Int) :: dl, (sn : Int) :: sl] : List (List Int)).flatten).length ≤ 100 from by have h1 := Ld.out; have h2 := Ls.out; simp [h1, h2]; omega)
      have s4 : Q w4 w4 := Q.refl _
      go_region_held3 (fun u => Q w4 u ∧ u.cell? ⟨bx, 2, none⟩ = some (.slice da dn dc) ∧ u.cell? ⟨bx, 3, none⟩ = some (.slice sa sn sc)) (repeat (first | (with_reducible assumption) | (with_reducible apply Q.drew) | (with_reducible apply Q.drewN) | (with_reducible apply Q.alloc) | (with_reducible refine dcel ?_) | (with_reducible refine acel ?_) | (with_reducible apply And.intro)))
        (first
          | (go_at_call 37; have t_ := I5.out; clear t_; refine (WS.out _ (by repeat (first | (with_reducible assumption) | (with_reducible apply Q.drew) | (with_reducible apply Q.drewN) | (with_reducible apply Q.alloc)))).mono ?_; rintro e w6 ⟨⟨ua, un, uc⟩, rfl, q6, r6, n6⟩; have j6 : Q w4 w6 := Q.trans (by repeat (first | (with_reducible assumption) | (with_reducible apply Q.drew) | (with_reducible apply Q.drewN) | (with_reducible apply Q.alloc))) q6; have cw62 : w6.cell? ⟨bx, 2, none⟩ = some (.slice da dn dc) := (q6.cell (p := ⟨bx, 2, none⟩) (lt_of_cell cw52)).trans cw52; have cw63 : w6.cell? ⟨bx, 3, none⟩ = some (.slice sa sn sc) := (q6.cell (p := ⟨bx, 3, none⟩) (lt_of_cell cw53)).trans cw53; have I6 := hid (show Ib w6 ⟨ua, un, uc⟩ ((sn : Int) :: sl) from Row.ib r6); clear r6 n6)
          | (go_at_call 37; refine (WD.out _ (by repeat (first | (with_reducible assumption) | (with_reducible apply Q.drew) | (with_reducible apply Q.drewN) | (with_reducible apply Q.alloc)))).mono ?_; rintro e w5 ⟨⟨ya, yn, yc⟩, rfl, q5, r5, n5⟩; have j5 : Q w4 w5 := Q.trans (by repeat (first | (with_reducible assumption) | (with_reducible apply Q.drew) | (with_reducible apply Q.drewN) | (with_reducible apply Q.alloc))) q5; have cw52 : w5.cell? ⟨bx, 2, none⟩ = some (.slice da dn dc) := (q5.cell (p := ⟨bx, 2, none⟩) (lt_of_cell cw42)).trans cw42; have cw53 : w5.cell? ⟨bx, 3, none⟩ = some (.slice sa sn sc) := (q5.cell (p := ⟨bx, 3, none⟩) (lt_of_cell cw43)).trans cw43; have I5 := hid (show Ib w5 ⟨ya, yn, yc⟩ ((dn : Int) :: dl) from Row.ib r5); clear r5 n5)
          | (go_at_call 35; refine (concat_q w6 w6.heap.size rfl _ [⟨some ⟨fb, 0, none⟩, 5, 5⟩, ⟨ya, yn, yc⟩, ⟨ua, un, uc⟩] #[.slice (some ⟨fb, 0, none⟩) 5 5, .slice ya yn yc, .slice ua un uc] rfl (by (repeat (first | (with_reducible exact Q.refl _) | (with_reducible apply Q.drew) | (with_reducible apply Q.drewN) | (with_reducible refine Q.trans ?_ q6) | (with_reducible refine Q.trans ?_ q5) | (with_reducible apply Q.alloc)))) [[fstB kd width, 0, 0, 0, 1], (dn : Int) :: dl, (sn : Int) :: sl] rfl (ib3 (I4.out.q (by (repeat (first | (with_reducible exact Q.refl _) | (with_reducible apply Q.drew) | (with_reducible apply Q.drewN) | (with_reducible refine Q.trans ?_ q6) | (with_reducible refine Q.trans ?_ q5) | (with_reducible apply Q.alloc))))) (I5.out.q (by (repeat (first | (with_reducible exact Q.refl _) | (with_reducible apply Q.drew) | (with_reducible apply Q.drewN) | (with_reducible refine Q.trans ?_ q6) | (with_reducible refine Q.trans ?_ q5) | (with_reducible apply Q.alloc))))) (I6.out.q (by (repeat (first | (with_reducible exact Q.refl _) | (with_reducible apply Q.drew) | (with_reducible apply Q.drewN) | (with_reducible refine Q.trans ?_ q6) | (with_reducible refine Q.trans ?_ q5) | (with_reducible apply Q.alloc)))))) (by show 3 ≤ 100; omega) (Nat.le_trans HLN.out (by omega))).mono ?_; rintro e w7 ⟨⟨pa, pn, pc⟩, rfl, q7, r7, n7⟩; have j7 : Q w4 w7 := Q.trans (by repeat (first | (with_reducible assumption) | (with_reducible apply Q.drew) | (with_reducible apply Q.drewN) | (with_reducible apply Q.alloc))) q7; have cw72 : w7.cell? ⟨bx, 2, none⟩ = some (.slice da dn dc) := (j7.cell (p := ⟨bx, 2, none⟩) (lt_of_cell cw42)).trans cw42; have cw73 : w7.cell? ⟨bx, 3, none⟩ = some (.slice sa sn sc) := (j7.cell (p := ⟨bx, 3, none⟩) (lt_of_cell cw43)).trans cw43; clear q7 n7))
      have Q7 := hid (Q4.out.trans j7)
      have B7 := hid (B4.out.q j7)
      have I7 := hid (Row.ib r7)
      clear j5 j6 j7 r7 s4 q5 q6 cw42 cw43 cw52 cw53 cw62 cw63 cw72 cw73 I4 I5 I6 B4 Q4 WD WS
      generalize hb1 : ([[fstB kd width, 0, 0, 0, 1], (dn : Int) :: dl, (sn : Int) :: sl] : List (List Int)).flatten = b1 at *
      have HB1 := hid hb1
      clear hb1
      have cw70 := B7.out.c0
      have cw74 := B7.out.c4
      have cw76 := B7.out.c6
      try dsimp only at cw70 cw74 cw76
      by_cases h1 : kd = 1
      · subst h1
        have ht1 : tn ≤ 16384 := by have := Lt.out; omega
        have SH := hid (fun u => shortest_any (tn : Int) u (by omega) (by omega))
        have FL := hid (form_len tn)
        have HT7 := hid (HT.out.q Q7.out)
        go_wp2_with fail
        have s7 : Q w7 w7 := Q.refl _
        have HLN2 := hid (show (([b1, form tn, tl] : List (List Int)).flatten).length ≤ 20000 from by have h1 := Lt.out; have h2 := HLN.out; have h3 := FL.out; simp [h1]; omega)
        go_region_held3 (fun u => Q w7 u ∧ u.cell? ⟨bx, 4, none⟩ = some (.slice ta tn tc)) (repeat (first | (with_reducible assumption) | (with_reducible apply Q.drew) | (with_reducible apply Q.drewN) | (with_reducible apply Q.alloc) | (with_reducible refine dcel ?_) | (with_reducible refine acel ?_) | (with_reducible apply And.intro)))
          (first
            | (go_at_call 38; refine (SH.out _).mono ?_; rintro e w8 ⟨⟨ya, yn, yc⟩, rfl, q8, r8, n8⟩; have j8 : Q w7 w8 := Q.trans (by repeat (first | (with_reducible assumption) | (with_reducible apply Q.drew) | (with_reducible apply Q.drewN) | (with_reducible apply Q.alloc))) q8; have cw84 : w8.cell? ⟨bx, 4, none⟩ = some (.slice ta tn tc) := (j8.cell (p := ⟨bx, 4, none⟩) (lt_of_cell cw74)).trans cw74; have I8 := hid (show Ib w8 ⟨ya, yn, yc⟩ (form tn) from Row.ib r8); clear r8 n8)
            | (go_at_call 35; refine (concat_q w8 w8.heap.size rfl _ [⟨pa, pn, pc⟩, ⟨ya, yn, yc⟩, ⟨ta, tn, tc⟩] #[.slice pa pn pc, .slice ya yn yc, .slice ta tn tc] rfl (by (repeat (first | (with_reducible exact Q.refl _) | (with_reducible apply Q.drew) | (with_reducible apply Q.drewN) | (with_reducible refine Q.trans ?_ q8) | (with_reducible apply Q.alloc)))) [b1, form tn, tl] rfl (ib3 (I7.out.q (by (repeat (first | (with_reducible exact Q.refl _) | (with_reducible apply Q.drew) | (with_reducible apply Q.drewN) | (with_reducible refine Q.trans ?_ q8) | (with_reducible apply Q.alloc))))) (I8.out.q (by (repeat (first | (with_reducible exact Q.refl _) | (with_reducible apply Q.drew) | (with_reducible apply Q.drewN) | (with_reducible refine Q.trans ?_ q8) | (with_reducible apply Q.alloc))))) (HT7.out.q (by (repeat (first | (with_reducible exact Q.refl _) | (with_reducible apply Q.drew) | (with_reducible apply Q.drewN) | (with_reducible refine Q.trans ?_ q8) | (with_reducible apply Q.alloc)))))) (by show 3 ≤ 100; omega) (Nat.le_trans HLN2.out (by omega))).mono ?_; rintro e w9 ⟨⟨za, zn, zc⟩, rfl, q9, r9, n9⟩; have j9 : Q w7 w9 := Q.trans (by repeat (first | (with_reducible assumption) | (with_reducible apply Q.drew) | (with_reducible apply Q.drewN) | (with_reducible apply Q.alloc))) q9; have cw94 : w9.cell? ⟨bx, 4, none⟩ = some (.slice ta tn tc) := (j9.cell (p := ⟨bx, 4, none⟩) (lt_of_cell cw74)).trans cw74; clear q9 n9))
        have Q9 := hid (Q7.out.trans j9)
        have B9 := hid (B7.out.q j9)
        have I9 := hid (Row.ib r9)
        clear j8 j9 r9 s7 q8 cw70 cw74 cw76 cw84 cw94 I7 I8 B7 Q7 SH
        have HBL := hid (show bldL ⟨1, ve, dl, sl, tl, vl, ln⟩ width = ([([b1, form tn, tl] : List (List Int)).flatten, lenF ln] : List (List Int)).flatten from by
          rw [← HB1.out]; unfold bldL; dsimp only; rw [if_neg (by decide), if_pos rfl, Ld.out, Ls.out, Lt.out]; simp)
        generalize ([b1, form tn, tl] : List (List Int)).flatten = b2 at *
        have HLN3 := hid (show (([b2, lenF ln] : List (List Int)).flatten).length ≤ 1000000 from by have h2 := HLN2.out; have h3 := LFL.out; simp; omega)
        have c6 := B9.out.c6
        try dsimp only at c6
        go_wp2_with fail
        refine (LF.out w9).mono ?_
        rintro e wa ⟨⟨fa, fn_, fc⟩, rfl, qa, ra, na⟩
        have Qa := hid (Q9.out.trans qa)
        have Ia := hid (I9.out.q qa)
        have Fa := hid (Row.ib ra)
        clear qa ra na
        go_wp2_with fail
        refine (concat_at wa wa.heap.size rfl [⟨za, zn, zc⟩, ⟨fa, fn_, fc⟩] [b2, lenF ln] rfl (ib2 Ia.out Fa.out) (by show 2 ≤ 100; omega) HLN3.out).mono ?_
        rintro e wb ⟨xb, rfl, qb, rb, nb⟩
        have Kb := hid (Qa.out.trans qb)
        have Rb := hid (show Row wb xb R from by rw [HR.out, HBL.out]; exact rb)
        clear qb rb nb Qa Ia Fa
        go_wp2
        go_ret2
        exact ⟨xb, rfl, Kb.out, Rb.out⟩
      · have h1' : (kd == 1) = false := by simp [h1]
        have h1'' : (kd = 1) = False := by simp [h1]
        have HBL := hid (show bldL ⟨kd, ve, dl, sl, tl, vl, ln⟩ width = ([b1, lenF ln] : List (List Int)).flatten from by
          rw [← HB1.out]; unfold bldL; dsimp only; rw [if_neg h6, if_neg h1, Ld.out, Ls.out]; simp)
        have HLN3 := hid (show (([b1, lenF ln] : List (List Int)).flatten).length ≤ 1000000 from by have h2 := HLN.out; have h3 := LFL.out; simp; omega)
        go_wp2_with fail
        refine (LF.out w7).mono ?_
        rintro e wa ⟨⟨fa, fn_, fc⟩, rfl, qa, ra, na⟩
        have Qa := hid (Q7.out.trans qa)
        have Ia := hid (I7.out.q qa)
        have Fa := hid (Row.ib ra)
        clear qa ra na
        go_wp2_with fail
        refine (concat_at wa wa.heap.size rfl [⟨pa, pn, pc⟩, ⟨fa, fn_, fc⟩] [b1, lenF ln] rfl (ib2 Ia.out Fa.out) (by show 2 ≤ 100; omega) HLN3.out).mono ?_
        rintro e wb ⟨xb, rfl, qb, rb, nb⟩
        have Kb := hid (Qa.out.trans qb)
        have Rb := hid (show Row wb xb R from by rw [HR.out, HBL.out]; exact rb)
        clear qb rb nb Qa Ia Fa
        go_wp2
        go_ret2
        exact ⟨xb, rfl, Kb.out, Rb.out⟩
  · rw [if_neg hE] at HR
    have hR := HR.out
    have hne : (E != 0) = true := by simp [hE]
    subst hR
    go_wp2
    go_ret2
    exact ⟨nilS, rfl, Q2.out, sub_nil _ _ _⟩
end Go.Proofs.Ytbhhajmfdffdbaa
