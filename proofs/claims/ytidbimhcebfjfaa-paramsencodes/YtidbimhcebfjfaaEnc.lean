/-
  What the program's own Encode does: a contract that the statements' walks use.
-/
import Derived.Test.YtidbimhcebfjfaaEncM
import Derived.Test.YtidbimhcebfjfaaDec
import Derived.Test.YtidbimhcebfjfaaTks
import Derived.Deep.Cut
import Derived.Deep.CutRange
namespace Go.Proofs.Ytidbimhcebfjfaa
open Go.RowKit
set_option linter.unusedVariables false
set_option maxRecDepth 20000

theorem cell_new0 (w : World) (x y : Value) : (w.alloc (.cells #[x, y] 60)).cell? ⟨w.heap.size, 0, none⟩ = some x := by
  rw [cell_of_row _ w.heap.size 0 _ 60 (0, 0) (heap_alloc_new w _)]; rfl
def EncR (w : World) (pb fb : Nat) (m : Pm) (s : Nat → Sv) (k : Nat) (xa : Option Addr) (xn : Nat) (wr : World) : Prop :=
  k ≤ 16 ∧ Q w wr ∧ PB wr pb m s ∧ FB wr fb pb ∧ By wr m s ∧ Seg wr xa (encT m k) ∧ (encT m k).length = xn
def four (x0 x1 x2 x3 : Sv) (j : Nat) : Sv := if j = 0 then x0 else if j = 1 then x1 else if j = 2 then x2 else x3
def fourZ (z0 z1 z2 z3 : List Int) (j : Nat) : List Int := if j = 0 then z0 else if j = 1 then z1 else if j = 2 then z2 else z3
theorem concat_four (w : World) (x0 x1 x2 x3 : Sv) (z0 z1 z2 z3 : List Int) (h0 : Seg w x0.a z0 ∧ z0.length = x0.n) (h1 : Seg w x1.a z1 ∧ z1.length = x1.n) (h2 : Seg w x2.a z2 ∧ z2.length = x2.n) (h3 : Seg w x3.a z3 ∧ z3.length = x3.n) (ht : z0.length + z1.length + z2.length + z3.length ≤ 1000000) :
    Calls Try.prog 24 #[.slice (some ⟨w.heap.size, 0, none⟩) 4 4] (w.alloc (.cells #[.slice x0.a x0.n x0.c, .slice x1.a x1.n x1.c, .slice x2.a x2.n x2.c, .slice x3.a x3.n x3.c] 22)) fun e w' => ∃ x : Sv, e = .returned (.slice x.a x.n x.c) ∧ Q w w' ∧ Seg w' x.a (z0 ++ (z1 ++ z2 ++ z3)) ∧ (z0 ++ (z1 ++ z2 ++ z3)).length = x.n := by
  have q : Q w (w.alloc (.cells #[.slice x0.a x0.n x0.c, .slice x1.a x1.n x1.c, .slice x2.a x2.n x2.c, .slice x3.a x3.n x3.c] 22)) := (Q.refl w).alloc _
  refine (concat_any w.heap.size 4 4 (four x0 x1 x2 x3) (fourZ z0 z1 z2 z3) _ (fun j hj => ?_) (fun j hj => ?_) (by omega) ?_).mono ?_
  · rw [cell_of_row _ w.heap.size j _ 22 (0, 0) (heap_alloc_new w _)]
    rcases (show j = 0 ∨ j = 1 ∨ j = 2 ∨ j = 3 by omega) with rfl | rfl | rfl | rfl <;> rfl
  · rcases (show j = 0 ∨ j = 1 ∨ j = 2 ∨ j = 3 by omega) with rfl | rfl | rfl | rfl
    · exact ⟨h0.1.q q, h0.2⟩
    · exact ⟨h1.1.q q, h1.2⟩
    · exact ⟨h2.1.q q, h2.2⟩
    · exact ⟨h3.1.q q, h3.2⟩
  · show ((([] ++ z0) ++ z1) ++ z2 ++ z3).length ≤ 1000000
    simp only [List.nil_append, List.length_append]; omega
  · rintro e w' ⟨x, rfl, q2, r, -⟩
    have ec : cat (fourZ z0 z1 z2 z3) 4 = z0 ++ (z1 ++ z2 ++ z3) := by
      show (([] ++ z0) ++ z1) ++ z2 ++ z3 = _
      simp
    rw [ec] at r
    exact ⟨x, rfl, q.trans q2, Row.seg r, Row.len r⟩

set_option maxHeartbeats 8000000 in
theorem encode_any (m : Pm) (s : Nat → Sv) (srv : Bool) (w : World) (hb : By w m s) :
    Calls Try.prog 10 #[.agg (pc m s), .bool srv] w fun e w' => ∃ x : Sv, e = .returned (.tuple #[.slice x.a x.n x.c, .int .i64 (chkE m srv)]) ∧ Q w w' ∧ Seg w' x.a (encB m srv) ∧ (encB m srv).length = x.n := by
  have HBY := hid hb
  have HC := hid (fun (W : World) => check_any m s srv W hb.len)
  clear hb
  by_cases hall : allR m srv = true
  · have HCE := hid (chkE_ok hall)
    have HEB := hid (show encB m srv = encT m 16 from by unfold encB; rw [if_pos hall])
    have HAL := hid hall
    rw [HCE.out] at HC
    rw [HCE.out, HEB.out]
    clear hall HCE HEB
    go_enter Try.func10, Try.ntmps10
    go_upto_region 1 with fail
    generalize hw1 : World.alloc w _ = w1
    have P1 := hid (show PB w1 w.heap.size m s from by rw [← hw1]; exact pb_new w m s)
    have Q1 := hid (show Q w w1 from by rw [← hw1]; exact (Q.refl w).alloc _)
    clear hw1
    generalize w.heap.size = pb at *
    go_wp2_with (first
      | (refine wpList_load_row rfl 24 _ rfl pb rfl 24 (pc m s) (0, 0) _ P1.out Try.underlying24 rfl (pc_info m s) ?_)
      | (go_at_call 9; refine (HC.out _).mono ?_; rintro e w2 ⟨rfl, q2⟩; have Q2 := hid (Q1.out.trans q2); have P2 := hid (P1.out.q q2); clear q2)
      | (go_at_call 23; refine (fields_any _ _).mono ?_; rintro e w3 ⟨fb, rfl, q3, hfb, b3⟩; have Q3 := hid (Q2.out.trans q3); have P3 := hid (P2.out.q q3); have F3 := hid (show FB w3 fb pb from b3); clear q3 hfb b3))
    go_loopw [7, 19] (fun b i wr => ∃ (k : Nat) (xa : Option Addr) (xn xc : Nat), b = .slice xa xn xc ∧ i = .int .i64 k ∧ EncR w pb fb m s k xa xn wr) (fun _ i _ => 16 - (intOf i).toNat)
    case atStart => exact ⟨0, none, 0, 0, rfl, rfl, by omega, Q3.out, P3.out, F3.out, HBY.out.q Q3.out, seg_nil _ _, rfl⟩
    case round =>
      obtain ⟨k, xa, xn, xc, rfl, rfl, hk, hq, hp, hf, hy, hx, hxl⟩ := hrel
      by_cases hlt : k < 16
      · have hd1 : decide ((k : Int) < 16) = true := by simp; omega
        obtain ⟨c0, c1⟩ := frow_id pb k hlt
        have d0 := hf.cell c0
        have d1 := hf.cell c1
        have hfl := lt_of_cell d0
        have HK := hid (kinds pb k hlt)
        have HP := hid hp
        have HF := hid hf
        have HQ := hid hq
        have HY := hid hy
        have HX := hid hx
        have HXL := hid hxl
        have HRG := hid (allR_at HAL.out hlt)
        have HEL := hid (encT_len HAL.out k (by omega))
        have HBL := hid (fun h => bts_len HAL.out hlt h)
        have HI16 := hid (idl_le k hlt)
        have HES := hid (show encT m (k + 1) = encT m k ++ parB m (idl.getD k 0) from rfl)
        clear c0 c1 hp hf hq hy hx hxl P1 Q1 P2 Q2 P3 Q3 F3
        generalize hi : idl.getD k 0 = i at *
        clear hi
        generalize encT m k = ek at *
        rcases HK.out with ⟨k1, k2, k3, k4, k5⟩ | ⟨k1, k2, k3, k4⟩ | ⟨k1, k2, k3, k4⟩ | ⟨k1, k2, k3⟩
        · rw [k2] at d1
          unfold fnum at d1
          have hm := m_told_89
          have hm2 := m_bytes_89
          have htl : tld m i = (m.num i != usM.num i) := by unfold tld; rw [if_pos k1]
          have hbt : bts m i = form (m.num i) := by unfold bts; rw [if_pos k1]
          have HT := hid (fun (W : World) (q : Q wr W) => ntold_any pb (cn i) (usM.num i) (lo i) (hi i) (m.num i) W ((HP.out.q q).cell (k3 m s)))
          rw [← htl] at HT
          have hrg : lo i ≤ m.num i ∧ m.num i ≤ hi i := by have := HRG.out; unfold rgt at this; rw [if_pos k1] at this; simpa using this
          have HB := hid (fun (W : World) (q : Q wr W) => (nbytes_any pb (cn i) (usM.num i) (lo i) (hi i) (m.num i) W (by omega) (by omega) ((HP.out.q q).cell (k3 m s))).mono (R' := fun e w' => ∃ ya yn yc, e = .returned (.slice ya yn yc) ∧ Q W w' ∧ Seg w' ya (bts m i) ∧ (bts m i).length = yn) (by rintro e w' ⟨g, rfl, q1, o1⟩; rw [hbt]; exact ⟨_, _, _, rfl, q1, o1.seg, o1.len⟩))
          clear k1 k2 k3 k4 k5 hrg htl hbt HK
          unfold parB at HES
          generalize hrv : tld m i = tv at *
          clear hrv
          generalize hbz : bts m i = bz at *
          clear hbz
          cases tv with
          | false =>
            go_wp2_with (go_at_call 74; refine (HT.out _ ((Q.refl wr).alloc _)).mono ?_; rintro e w2 ⟨rfl, q2⟩; have Q2 := hid (((Q.refl wr).alloc _).trans q2); clear q2)
            go_roundw
            case rel => exact ⟨k + 1, xa, xn, xc, rfl, by go_num, by omega, HQ.out.trans Q2.out, HP.out.q Q2.out, HF.out.q Q2.out, HY.out.q Q2.out, by rw [HES.out]; simpa using HX.out.q Q2.out, by rw [HES.out]; simpa using HXL.out⟩
            case measure => simp [intOf]; omega
          | true =>
            have hbl := HBL.out rfl
            go_wp2_with (first
              | (go_at_call 74; refine (HT.out _ ((Q.refl wr).alloc _)).mono ?_; rintro e w2 ⟨rfl, q2⟩; have i2 := (q2.cell (p := ⟨wr.heap.size, 0, none⟩) (by simp)).trans (cell_new0 wr _ _); have v2 := (q2.cell (p := ⟨wr.heap.size, 1, none⟩) (by simp)).trans (cell_new1 wr _ _); have hz2 : wr.heap.size < w2.heap.size := lt_of_cell i2; have Q2 := hid (((Q.refl wr).alloc _).trans q2); clear q2)
              | (go_at_call 71; refine (HB.out _ Q2.out).mono ?_; rintro e w3 ⟨ya, yn, yc, rfl, q3, y3, l3⟩; have i3 := (q3.cell (p := ⟨wr.heap.size, 0, none⟩) hz2).trans i2; have hz3 : wr.heap.size < w3.heap.size := lt_of_cell i3; have Q3 := hid (Q2.out.trans q3); have Y3 := hid y3; have L3 := hid l3; have LB := hid (show yn ≤ 20 by omega); clear q3 y3 l3 v2 i2)
              | (have t := F1.out; go_at_call 25; refine (pform_any (yn : Int) _ (by omega) (by have := LB.out; omega)).mono ?_; rintro e w5 ⟨g2, rfl, q5, o5⟩; have Q5 := hid (Q4.out.trans q5); have X5 := hid (Y4.out.q q5); have O5 := hid (F1.out.q q5); have F2 := hid o5; clear q5 o5 t)
              | (go_at_call 25; refine (pform_any (i : Int) _ (by omega) (by have := HI16.out; omega)).mono ?_; rintro e w4 ⟨g1, rfl, q4, o4⟩; have Q4 := hid (Q3.out.trans q4); have Y4 := hid (Y3.out.q q4); have F1 := hid o4; clear q4 o4 i3)
              | (go_at_call 24; refine (concat_four w5 ⟨xa, xn, xc⟩ ⟨some ⟨g1, 0, none⟩, sz (i : Int), sz (i : Int)⟩ ⟨some ⟨g2, 0, none⟩, sz (yn : Int), sz (yn : Int)⟩ ⟨ya, yn, yc⟩ ek (form (i : Int)) (form (yn : Int)) bz ⟨HX.out.q Q5.out, HXL.out⟩ ⟨O5.out.seg, form_length _⟩ ⟨F2.out.seg, form_length _⟩ ⟨X5.out, L3.out⟩ (by have a1 := HEL.out; have a2 := form_len (i : Int); have a3 := form_len (yn : Int); have a4 := LB.out; have a5 := L3.out; omega)).mono ?_; rintro e w6 ⟨⟨za, zn, zc⟩, rfl, q6, z6, l6⟩; have Q6 := hid (Q5.out.trans q6); have Z6 := hid z6; have L6 := hid l6; clear q6 z6 l6))
            go_roundw
            case rel => exact ⟨k + 1, za, zn, zc, rfl, by go_num, by omega, HQ.out.trans Q6.out, HP.out.q Q6.out, HF.out.q Q6.out, HY.out.q Q6.out, by rw [HES.out, if_pos trivial, L3.out]; exact Z6.out, by rw [HES.out, if_pos trivial, L3.out]; exact L6.out⟩
            case measure => simp [intOf]; omega
        · rw [k2] at d1
          unfold fsrv at d1
          have hm := m_told_86
          have hm2 := m_bytes_86
          have htl : tld m i = m.has i := by unfold tld; rw [if_neg (by omega), if_neg (by omega)]
          have hbt : bts m i = m.byt i := by unfold bts; rw [if_neg (by omega), if_neg (by omega)]
          have HT := hid (fun (W : World) (q : Q wr W) => dtold_any pb (ch i) (cn i) (lo i) (hi i) (m.has i) W ((HP.out.q q).cell (k3 m s).1))
          rw [← htl] at HT
          have HB := hid (fun (W : World) (q : Q wr W) => (dbytes_any pb (ch i) (cn i) (lo i) (hi i) (s i) W ((HP.out.q q).cell (k3 m s).2)).mono (R' := fun e w' => ∃ ya yn yc, e = .returned (.slice ya yn yc) ∧ Q W w' ∧ Seg w' ya (bts m i) ∧ (bts m i).length = yn) (by rintro e w' ⟨rfl, q1⟩; rw [hbt]; exact ⟨_, _, _, rfl, q1, ((HY.out i (by omega)).1.q q).q q1, (HY.out i (by omega)).2⟩))
          clear k1 k2 k3 k4 htl hbt HK
          unfold parB at HES
          generalize hrv : tld m i = tv at *
          clear hrv
          generalize hbz : bts m i = bz at *
          clear hbz
          cases tv with
          | false =>
            go_wp2_with (go_at_call 69; refine (HT.out _ ((Q.refl wr).alloc _)).mono ?_; rintro e w2 ⟨rfl, q2⟩; have Q2 := hid (((Q.refl wr).alloc _).trans q2); clear q2)
            go_roundw
            case rel => exact ⟨k + 1, xa, xn, xc, rfl, by go_num, by omega, HQ.out.trans Q2.out, HP.out.q Q2.out, HF.out.q Q2.out, HY.out.q Q2.out, by rw [HES.out]; simpa using HX.out.q Q2.out, by rw [HES.out]; simpa using HXL.out⟩
            case measure => simp [intOf]; omega
          | true =>
            have hbl := HBL.out rfl
            go_wp2_with (first
              | (go_at_call 69; refine (HT.out _ ((Q.refl wr).alloc _)).mono ?_; rintro e w2 ⟨rfl, q2⟩; have i2 := (q2.cell (p := ⟨wr.heap.size, 0, none⟩) (by simp)).trans (cell_new0 wr _ _); have v2 := (q2.cell (p := ⟨wr.heap.size, 1, none⟩) (by simp)).trans (cell_new1 wr _ _); have hz2 : wr.heap.size < w2.heap.size := lt_of_cell i2; have Q2 := hid (((Q.refl wr).alloc _).trans q2); clear q2)
              | (go_at_call 66; refine (HB.out _ Q2.out).mono ?_; rintro e w3 ⟨ya, yn, yc, rfl, q3, y3, l3⟩; have i3 := (q3.cell (p := ⟨wr.heap.size, 0, none⟩) hz2).trans i2; have hz3 : wr.heap.size < w3.heap.size := lt_of_cell i3; have Q3 := hid (Q2.out.trans q3); have Y3 := hid y3; have L3 := hid l3; have LB := hid (show yn ≤ 20 by omega); clear q3 y3 l3 v2 i2)
              | (have t := F1.out; go_at_call 25; refine (pform_any (yn : Int) _ (by omega) (by have := LB.out; omega)).mono ?_; rintro e w5 ⟨g2, rfl, q5, o5⟩; have Q5 := hid (Q4.out.trans q5); have X5 := hid (Y4.out.q q5); have O5 := hid (F1.out.q q5); have F2 := hid o5; clear q5 o5 t)
              | (go_at_call 25; refine (pform_any (i : Int) _ (by omega) (by have := HI16.out; omega)).mono ?_; rintro e w4 ⟨g1, rfl, q4, o4⟩; have Q4 := hid (Q3.out.trans q4); have Y4 := hid (Y3.out.q q4); have F1 := hid o4; clear q4 o4 i3)
              | (go_at_call 24; refine (concat_four w5 ⟨xa, xn, xc⟩ ⟨some ⟨g1, 0, none⟩, sz (i : Int), sz (i : Int)⟩ ⟨some ⟨g2, 0, none⟩, sz (yn : Int), sz (yn : Int)⟩ ⟨ya, yn, yc⟩ ek (form (i : Int)) (form (yn : Int)) bz ⟨HX.out.q Q5.out, HXL.out⟩ ⟨O5.out.seg, form_length _⟩ ⟨F2.out.seg, form_length _⟩ ⟨X5.out, L3.out⟩ (by have a1 := HEL.out; have a2 := form_len (i : Int); have a3 := form_len (yn : Int); have a4 := LB.out; have a5 := L3.out; omega)).mono ?_; rintro e w6 ⟨⟨za, zn, zc⟩, rfl, q6, z6, l6⟩; have Q6 := hid (Q5.out.trans q6); have Z6 := hid z6; have L6 := hid l6; clear q6 z6 l6))
            go_roundw
            case rel => exact ⟨k + 1, za, zn, zc, rfl, by go_num, by omega, HQ.out.trans Q6.out, HP.out.q Q6.out, HF.out.q Q6.out, HY.out.q Q6.out, by rw [HES.out, if_pos trivial, L3.out]; exact Z6.out, by rw [HES.out, if_pos trivial, L3.out]; exact L6.out⟩
            case measure => simp [intOf]; omega
        · rw [k2] at d1
          unfold fdat at d1
          have hm := m_told_84
          have hm2 := m_bytes_84
          have htl : tld m i = m.has i := by unfold tld; rw [if_neg (by omega), if_neg (by omega)]
          have hbt : bts m i = m.byt i := by unfold bts; rw [if_neg (by omega), if_neg (by omega)]
          have HT := hid (fun (W : World) (q : Q wr W) => dtold_any pb (ch i) (cn i) (lo i) (hi i) (m.has i) W ((HP.out.q q).cell (k3 m s).1))
          rw [← htl] at HT
          have HB := hid (fun (W : World) (q : Q wr W) => (dbytes_any pb (ch i) (cn i) (lo i) (hi i) (s i) W ((HP.out.q q).cell (k3 m s).2)).mono (R' := fun e w' => ∃ ya yn yc, e = .returned (.slice ya yn yc) ∧ Q W w' ∧ Seg w' ya (bts m i) ∧ (bts m i).length = yn) (by rintro e w' ⟨rfl, q1⟩; rw [hbt]; exact ⟨_, _, _, rfl, q1, ((HY.out i (by omega)).1.q q).q q1, (HY.out i (by omega)).2⟩))
          clear k1 k2 k3 k4 htl hbt HK
          unfold parB at HES
          generalize hrv : tld m i = tv at *
          clear hrv
          generalize hbz : bts m i = bz at *
          clear hbz
          cases tv with
          | false =>
            go_wp2_with (go_at_call 69; refine (HT.out _ ((Q.refl wr).alloc _)).mono ?_; rintro e w2 ⟨rfl, q2⟩; have Q2 := hid (((Q.refl wr).alloc _).trans q2); clear q2)
            go_roundw
            case rel => exact ⟨k + 1, xa, xn, xc, rfl, by go_num, by omega, HQ.out.trans Q2.out, HP.out.q Q2.out, HF.out.q Q2.out, HY.out.q Q2.out, by rw [HES.out]; simpa using HX.out.q Q2.out, by rw [HES.out]; simpa using HXL.out⟩
            case measure => simp [intOf]; omega
          | true =>
            have hbl := HBL.out rfl
            go_wp2_with (first
              | (go_at_call 69; refine (HT.out _ ((Q.refl wr).alloc _)).mono ?_; rintro e w2 ⟨rfl, q2⟩; have i2 := (q2.cell (p := ⟨wr.heap.size, 0, none⟩) (by simp)).trans (cell_new0 wr _ _); have v2 := (q2.cell (p := ⟨wr.heap.size, 1, none⟩) (by simp)).trans (cell_new1 wr _ _); have hz2 : wr.heap.size < w2.heap.size := lt_of_cell i2; have Q2 := hid (((Q.refl wr).alloc _).trans q2); clear q2)
              | (go_at_call 66; refine (HB.out _ Q2.out).mono ?_; rintro e w3 ⟨ya, yn, yc, rfl, q3, y3, l3⟩; have i3 := (q3.cell (p := ⟨wr.heap.size, 0, none⟩) hz2).trans i2; have hz3 : wr.heap.size < w3.heap.size := lt_of_cell i3; have Q3 := hid (Q2.out.trans q3); have Y3 := hid y3; have L3 := hid l3; have LB := hid (show yn ≤ 20 by omega); clear q3 y3 l3 v2 i2)
              | (have t := F1.out; go_at_call 25; refine (pform_any (yn : Int) _ (by omega) (by have := LB.out; omega)).mono ?_; rintro e w5 ⟨g2, rfl, q5, o5⟩; have Q5 := hid (Q4.out.trans q5); have X5 := hid (Y4.out.q q5); have O5 := hid (F1.out.q q5); have F2 := hid o5; clear q5 o5 t)
              | (go_at_call 25; refine (pform_any (i : Int) _ (by omega) (by have := HI16.out; omega)).mono ?_; rintro e w4 ⟨g1, rfl, q4, o4⟩; have Q4 := hid (Q3.out.trans q4); have Y4 := hid (Y3.out.q q4); have F1 := hid o4; clear q4 o4 i3)
              | (go_at_call 24; refine (concat_four w5 ⟨xa, xn, xc⟩ ⟨some ⟨g1, 0, none⟩, sz (i : Int), sz (i : Int)⟩ ⟨some ⟨g2, 0, none⟩, sz (yn : Int), sz (yn : Int)⟩ ⟨ya, yn, yc⟩ ek (form (i : Int)) (form (yn : Int)) bz ⟨HX.out.q Q5.out, HXL.out⟩ ⟨O5.out.seg, form_length _⟩ ⟨F2.out.seg, form_length _⟩ ⟨X5.out, L3.out⟩ (by have a1 := HEL.out; have a2 := form_len (i : Int); have a3 := form_len (yn : Int); have a4 := LB.out; have a5 := L3.out; omega)).mono ?_; rintro e w6 ⟨⟨za, zn, zc⟩, rfl, q6, z6, l6⟩; have Q6 := hid (Q5.out.trans q6); have Z6 := hid z6; have L6 := hid l6; clear q6 z6 l6))
            go_roundw
            case rel => exact ⟨k + 1, za, zn, zc, rfl, by go_num, by omega, HQ.out.trans Q6.out, HP.out.q Q6.out, HF.out.q Q6.out, HY.out.q Q6.out, by rw [HES.out, if_pos trivial, L3.out]; exact Z6.out, by rw [HES.out, if_pos trivial, L3.out]; exact L6.out⟩
            case measure => simp [intOf]; omega
        · rw [k2] at d1
          unfold fmrk at d1
          have hm := m_told_91
          have hm2 := m_bytes_91
          have htl : tld m i = m.mv := by unfold tld; rw [if_neg (by omega), if_pos k1]
          have hbt : bts m i = [] := by unfold bts; rw [if_neg (by omega), if_pos k1]
          have HT := hid (fun (W : World) (q : Q wr W) => mtold_any pb (cn i) m.mv W ((HP.out.q q).cell (k3 m s)))
          rw [← htl] at HT
          have HB := hid (fun (W : World) (q : Q wr W) => (mbytes_any pb (cn i) W).mono (R' := fun e w' => ∃ ya yn yc, e = .returned (.slice ya yn yc) ∧ Q W w' ∧ Seg w' ya (bts m i) ∧ (bts m i).length = yn) (by rintro e w' ⟨rfl, q1⟩; rw [hbt]; exact ⟨_, _, _, rfl, q1, seg_nil _ _, rfl⟩))
          clear k1 k2 k3 htl hbt HK
          unfold parB at HES
          generalize hrv : tld m i = tv at *
          clear hrv
          generalize hbz : bts m i = bz at *
          clear hbz
          cases tv with
          | false =>
            go_wp2_with (go_at_call 78; refine (HT.out _ ((Q.refl wr).alloc _)).mono ?_; rintro e w2 ⟨rfl, q2⟩; have Q2 := hid (((Q.refl wr).alloc _).trans q2); clear q2)
            go_roundw
            case rel => exact ⟨k + 1, xa, xn, xc, rfl, by go_num, by omega, HQ.out.trans Q2.out, HP.out.q Q2.out, HF.out.q Q2.out, HY.out.q Q2.out, by rw [HES.out]; simpa using HX.out.q Q2.out, by rw [HES.out]; simpa using HXL.out⟩
            case measure => simp [intOf]; omega
          | true =>
            have hbl := HBL.out rfl
            go_wp2_with (first
              | (go_at_call 78; refine (HT.out _ ((Q.refl wr).alloc _)).mono ?_; rintro e w2 ⟨rfl, q2⟩; have i2 := (q2.cell (p := ⟨wr.heap.size, 0, none⟩) (by simp)).trans (cell_new0 wr _ _); have v2 := (q2.cell (p := ⟨wr.heap.size, 1, none⟩) (by simp)).trans (cell_new1 wr _ _); have hz2 : wr.heap.size < w2.heap.size := lt_of_cell i2; have Q2 := hid (((Q.refl wr).alloc _).trans q2); clear q2)
              | (go_at_call 75; refine (HB.out _ Q2.out).mono ?_; rintro e w3 ⟨ya, yn, yc, rfl, q3, y3, l3⟩; have i3 := (q3.cell (p := ⟨wr.heap.size, 0, none⟩) hz2).trans i2; have hz3 : wr.heap.size < w3.heap.size := lt_of_cell i3; have Q3 := hid (Q2.out.trans q3); have Y3 := hid y3; have L3 := hid l3; have LB := hid (show yn ≤ 20 by omega); clear q3 y3 l3 v2 i2)
              | (have t := F1.out; go_at_call 25; refine (pform_any (yn : Int) _ (by omega) (by have := LB.out; omega)).mono ?_; rintro e w5 ⟨g2, rfl, q5, o5⟩; have Q5 := hid (Q4.out.trans q5); have X5 := hid (Y4.out.q q5); have O5 := hid (F1.out.q q5); have F2 := hid o5; clear q5 o5 t)
              | (go_at_call 25; refine (pform_any (i : Int) _ (by omega) (by have := HI16.out; omega)).mono ?_; rintro e w4 ⟨g1, rfl, q4, o4⟩; have Q4 := hid (Q3.out.trans q4); have Y4 := hid (Y3.out.q q4); have F1 := hid o4; clear q4 o4 i3)
              | (go_at_call 24; refine (concat_four w5 ⟨xa, xn, xc⟩ ⟨some ⟨g1, 0, none⟩, sz (i : Int), sz (i : Int)⟩ ⟨some ⟨g2, 0, none⟩, sz (yn : Int), sz (yn : Int)⟩ ⟨ya, yn, yc⟩ ek (form (i : Int)) (form (yn : Int)) bz ⟨HX.out.q Q5.out, HXL.out⟩ ⟨O5.out.seg, form_length _⟩ ⟨F2.out.seg, form_length _⟩ ⟨X5.out, L3.out⟩ (by have a1 := HEL.out; have a2 := form_len (i : Int); have a3 := form_len (yn : Int); have a4 := LB.out; have a5 := L3.out; omega)).mono ?_; rintro e w6 ⟨⟨za, zn, zc⟩, rfl, q6, z6, l6⟩; have Q6 := hid (Q5.out.trans q6); have Z6 := hid z6; have L6 := hid l6; clear q6 z6 l6))
            go_roundw
            case rel => exact ⟨k + 1, za, zn, zc, rfl, by go_num, by omega, HQ.out.trans Q6.out, HP.out.q Q6.out, HF.out.q Q6.out, HY.out.q Q6.out, by rw [HES.out, if_pos trivial, L3.out]; exact Z6.out, by rw [HES.out, if_pos trivial, L3.out]; exact L6.out⟩
            case measure => simp [intOf]; omega
      · have hk16 : k = 16 := by omega
        subst hk16
        have HQ := hid hq
        have HX := hid hx
        have HXL := hid hxl
        clear hp hf hq hy hx hxl P1 Q1 P2 Q2 P3 Q3 F3
        go_wp2
        go_ret2
        exact ⟨⟨xa, xn, xc⟩, rfl, HQ.out, HX.out, HXL.out⟩
  · have hall' : allR m srv = false := by simpa using hall
    have HCE := hid (chkE_no hall')
    have HEB := hid (show encB m srv = [] from by unfold encB; rw [hall']; rfl)
    rw [HCE.out] at HC
    rw [HCE.out, HEB.out]
    clear hall hall' HCE HEB
    go_enter Try.func10, Try.ntmps10
    go_upto_region 1 with fail
    generalize hw1 : World.alloc w _ = w1
    have P1 := hid (show PB w1 w.heap.size m s from by rw [← hw1]; exact pb_new w m s)
    have Q1 := hid (show Q w w1 from by rw [← hw1]; exact (Q.refl w).alloc _)
    clear hw1
    generalize w.heap.size = pb at *
    go_wp2_with (first
      | (refine wpList_load_row rfl 24 _ rfl pb rfl 24 (pc m s) (0, 0) _ P1.out Try.underlying24 rfl (pc_info m s) ?_)
      | (go_at_call 9; refine (HC.out _).mono ?_; rintro e w2 ⟨rfl, q2⟩; have Q2 := hid (Q1.out.trans q2); clear q2))
    go_ret2
    exact ⟨nilS, rfl, Q2.out, seg_nil _ _, rfl⟩
end Go.Proofs.Ytidbimhcebfjfaa
