/-
  What the document's Settings answers: a contract that the statements' walks use.
-/
import Derived.Test.YtdlefmlienfjhaaWrR
import Derived.Deep.Cut
namespace Go.Proofs.Ytdlefmlienfjhaa
open Go.RowKit
set_option linter.unusedVariables false
set_option maxRecDepth 100000

/-- Bytes that grow. -/
structure PB (w : World) (sb : Nat) (c b l : Int) (wx : World) (y : Sv) (P : List Int) : Prop where
  q : Q w wx
  s : wx.heap[sb]? = some (.cells #[.int .i64 c, .int .i64 b, .int .i64 l] 44 (0, 0))
  r : Row wx y P
theorem PB.c0 {w : World} {sb : Nat} {c b l : Int} {wx : World} {y : Sv} {L : List Int} (h : PB w sb c b l wx y L) : wx.cell? ⟨sb, 0, none⟩ = some (.int .i64 c) := by rw [cell_of_row wx sb 0 _ 44 (0, 0) h.s]; rfl
theorem PB.c1 {w : World} {sb : Nat} {c b l : Int} {wx : World} {y : Sv} {L : List Int} (h : PB w sb c b l wx y L) : wx.cell? ⟨sb, 1, none⟩ = some (.int .i64 b) := by rw [cell_of_row wx sb 1 _ 44 (0, 0) h.s]; rfl
theorem PB.c2 {w : World} {sb : Nat} {c b l : Int} {wx : World} {y : Sv} {L : List Int} (h : PB w sb c b l wx y L) : wx.cell? ⟨sb, 2, none⟩ = some (.int .i64 l) := by rw [cell_of_row wx sb 2 _ 44 (0, 0) h.s]; rfl
/-- A piece more. -/
theorem PB.app {w : World} {sb : Nat} {c b l : Int} {wx : World} {y : Sv} {P : List Int} (h : PB w sb c b l wx y P) (hP : P.length ≤ 100) (i v : Int) (wy : World) (x : Sv) (q : Q (wx.alloc (.cells #[.int .u8 i] 5)) wy) (hs : Seg wy x.a (form v)) (hl : (form v).length = x.n) :
    Calls Try.prog 29 #[.slice (some ⟨wy.heap.size, 0, none⟩) 3 3] (wy.alloc (.cells #[.slice y.a y.n y.c, .slice (some ⟨wx.heap.size, 0, none⟩) 1 1, .slice x.a x.n x.c] 30)) fun e w' => ∃ z : Sv, e = .returned (.slice z.a z.n z.c) ∧ PB w sb c b l w' z (P ++ (i :: form v)) := by
  have q1 : Q wx wy := ((Q.refl wx).alloc _).trans q
  have hf : (form v).length ≤ 8 := by rw [form_length]; exact sz_le v
  refine (join_three wy y ⟨some ⟨wx.heap.size, 0, none⟩, 1, 1⟩ x P [i] (form v) ⟨(Row.seg h.r).q q1, Row.len h.r⟩ ⟨(seg_lit1 wx i).q q, rfl⟩ ⟨hs, hl⟩ (by simp; omega)).mono ?_
  rintro e w' ⟨z, rfl, q2, r, _⟩
  exact ⟨z, rfl, (h.q.trans q1).trans q2, blk_q q2 (blk_q q1 h.s), r⟩
theorem PB.fin {w : World} {sb : Nat} {c b l : Int} {wx : World} {y : Sv} {P : List Int} (h : PB w sb c b l wx y P) (hP : P = nmB (stL c b l)) :
    Calls Try.prog 21 #[.int .i64 4, .slice y.a y.n y.c] wx fun e w' => ∃ z : Sv, e = .returned (.tuple #[.slice z.a z.n z.c, .int .i64 0]) ∧ Q w w' ∧ Row w' z (frB 4 (nmB (stL c b l))) := by
  subst hP
  have hl := Row.len h.r
  have h4 := fr4 c b l
  have h1 := nmB_len (stL c b l)
  have h2 := stL_len c b l
  refine (rframe_any 4 y.a y.n y.c _ wx hl (by omega) (Row.seg h.r)).mono ?_
  rintro e w' ⟨z, rfl, q, r, n⟩
  rw [← hl, h4]
  exact ⟨z, rfl, h.q.trans q, r⟩
set_option maxHeartbeats 16000000 in
theorem rsettings_any (c b l : Int) (w : World) : Calls Try.prog 23 #[.agg #[.int .i64 c, .int .i64 b, .int .i64 l]] w fun e w' => ∃ y : Sv, e = .returned (.tuple #[.slice y.a y.n y.c, .int .i64 (stE c b l)]) ∧ Q w w' ∧ Row w' y (stB c b l) := by
  have hE : stE c b l = _ := stE_iff c b l
  have HQ0 := hid ((Q.refl w).alloc (.cells #[.int .i64 c, .int .i64 b, .int .i64 l] 44))
  by_cases c0 : c < 0
  · have hE1 : stE c b l = 10 := by rw [hE, if_pos (by omega)]
    have hB1 : stB c b l = [] := by unfold stB; rw [hE1, if_neg (by decide)]
    rw [hE1, hB1]
    clear hE hE1 hB1
    go_enter Try.func23, Try.ntmps23
    go_wp2
    go_ret2
    exact ⟨nilS, rfl, HQ0.out, sub_nil _ _ _⟩
  have c0b : decide (c < 0) = false := decide_eq_false c0
  by_cases c1 : b < 0
  · have hE1 : stE c b l = 10 := by rw [hE, if_pos (by omega)]
    have hB1 : stB c b l = [] := by unfold stB; rw [hE1, if_neg (by decide)]
    rw [hE1, hB1]
    clear hE hE1 hB1
    go_enter Try.func23, Try.ntmps23
    go_wp2
    go_ret2
    exact ⟨nilS, rfl, HQ0.out, sub_nil _ _ _⟩
  have c1b : decide (b < 0) = false := decide_eq_false c1
  by_cases c2 : l < -1
  · have hE1 : stE c b l = 10 := by rw [hE, if_pos (by omega)]
    have hB1 : stB c b l = [] := by unfold stB; rw [hE1, if_neg (by decide)]
    rw [hE1, hB1]
    clear hE hE1 hB1
    go_enter Try.func23, Try.ntmps23
    go_wp2
    go_ret2
    exact ⟨nilS, rfl, HQ0.out, sub_nil _ _ _⟩
  have c2b : decide (l < -1) = false := decide_eq_false c2
  by_cases c3 : 4611686018427387903 < c
  · have hE1 : stE c b l = 10 := by rw [hE, if_pos (by omega)]
    have hB1 : stB c b l = [] := by unfold stB; rw [hE1, if_neg (by decide)]
    rw [hE1, hB1]
    clear hE hE1 hB1
    go_enter Try.func23, Try.ntmps23
    go_wp2
    go_ret2
    exact ⟨nilS, rfl, HQ0.out, sub_nil _ _ _⟩
  have c3b : decide (4611686018427387903 < c) = false := decide_eq_false c3
  by_cases c4 : 4611686018427387903 < b
  · have hE1 : stE c b l = 10 := by rw [hE, if_pos (by omega)]
    have hB1 : stB c b l = [] := by unfold stB; rw [hE1, if_neg (by decide)]
    rw [hE1, hB1]
    clear hE hE1 hB1
    go_enter Try.func23, Try.ntmps23
    go_wp2
    go_ret2
    exact ⟨nilS, rfl, HQ0.out, sub_nil _ _ _⟩
  have c4b : decide (4611686018427387903 < b) = false := decide_eq_false c4
  by_cases c5 : 4611686018427387903 < l
  · have hE1 : stE c b l = 10 := by rw [hE, if_pos (by omega)]
    have hB1 : stB c b l = [] := by unfold stB; rw [hE1, if_neg (by decide)]
    rw [hE1, hB1]
    clear hE hE1 hB1
    go_enter Try.func23, Try.ntmps23
    go_wp2
    go_ret2
    exact ⟨nilS, rfl, HQ0.out, sub_nil _ _ _⟩
  have c5b : decide (4611686018427387903 < l) = false := decide_eq_false c5
  have hE0 : stE c b l = 0 := by rw [hE, if_neg (by omega)]
  have hB0 : stB c b l = frB 4 (nmB (stL c b l)) := by unfold stB; rw [hE0, if_pos rfl]
  have hnb : nmB (stL c b l) = stP 1 c 0 ++ (stP 7 b 0 ++ stP 6 l (-1)) := by rw [nmB_ok (nmE_zero hE0), stL_flat]
  rw [hE0, hB0]
  have HNB := hid hnb
  have H0 := hid (show PB w w.heap.size c b l (w.alloc (.cells #[.int .i64 c, .int .i64 b, .int .i64 l] 44)) nilS [] from ⟨(Q.refl w).alloc _, heap_alloc_new w _, sub_nil _ _ _⟩)
  have HFR := hid (fun (wx : World) (y : Sv) (P : List Int) (h : PB w w.heap.size c b l wx y P) (hP : P = nmB (stL c b l)) => h.fin hP)
  have HFB := hid (fun wx y => (rfl : Row wx y (frB 4 (nmB (stL c b l))) = Row wx y (frB 4 (nmB (stL c b l)))))
  clear HFB hE hE0 hB0 hnb
  have hf1 : (form c).length ≤ 8 := by rw [form_length]; exact sz_le c
  have hf2 : (form b).length ≤ 8 := by rw [form_length]; exact sz_le b
  have hf3 : (form l).length ≤ 8 := by rw [form_length]; exact sz_le l
  generalize hFF : frB 4 (nmB (stL c b l)) = FF at *
  generalize hNN : nmB (stL c b l) = NN at *
  clear hFF hNN
  by_cases hc : c = 0
  · have hcb : (c != 0) = false := by simp [hc]
    by_cases hb : b = 0
    · have hbb : (b != 0) = false := by simp [hb]
      by_cases hl : l = -1
      · have hlb : (l != -1) = false := by simp [hl]
        have HPP := hid (show [] = NN from by rw [HNB.out]; unfold stP; simp [hc, hb, hl])
        clear hc hb hl HNB
        go_enter Try.func23, Try.ntmps23
        go_upto_region 4 with fail
        generalize hW : World.alloc w _ = w1 at *
        clear hW HQ0
        have s00 := H0.out.c0
        have s01 := H0.out.c1
        have s02 := H0.out.c2
        have HF := hid (HFR.out _ _ _ H0.out HPP.out)
        go_wp2_with (go_at_call 21; refine HF.out.mono ?_; rintro e w9 ⟨⟨ra, rn, rc⟩, rfl, hz⟩; have HZ := hid hz; clear hz)
        go_ret2
        exact ⟨⟨ra, rn, rc⟩, rfl, HZ.out⟩
      · have hlb : (l != -1) = true := by simp [hl]
        have HPP := hid (show [] ++ (6 :: form l) = NN from by rw [HNB.out]; unfold stP; simp [hc, hb, hl])
        clear hc hb hl HNB
        go_enter Try.func23, Try.ntmps23
        go_upto_region 4 with fail
        generalize hW : World.alloc w _ = w1 at *
        clear hW HQ0
        have s00 := H0.out.c0
        have s01 := H0.out.c1
        have s02 := H0.out.c2
        have HP1 := hid (fun u => rput_any l u)
        have a1 : (w1.alloc (.cells #[.int .u8 6] 5)).cell? ⟨w.heap.size, 2, none⟩ = some (.int .i64 l) := (((Q.refl w1).alloc _).cell (lt_of_cell H0.out.c2)).trans H0.out.c2
        go_wp2_with (first | (go_at_call 25; refine (HP1.out _).mono ?_; rintro e u1 ⟨⟨p1a, p1n, p1c⟩, rfl, q1, x1, l1⟩; have J1 := hid (H0.out.app (by simp) 6 l u1 ⟨p1a, p1n, p1c⟩ q1 x1 l1); clear q1 x1 l1 HP1) | (go_at_call 29; refine J1.out.mono ?_; rintro e v1 ⟨⟨z1a, z1n, z1c⟩, rfl, hz1⟩; have Z1 := hid hz1; have s10 := hz1.c0; have s11 := hz1.c1; have s12 := hz1.c2; clear hz1; refine Hid.out ?_))
        refine hid ?_
        have HF := hid (HFR.out _ _ _ Z1.out HPP.out)
        go_wp2_with (go_at_call 21; refine HF.out.mono ?_; rintro e w9 ⟨⟨ra, rn, rc⟩, rfl, hz⟩; have HZ := hid hz; clear hz)
        go_ret2
        exact ⟨⟨ra, rn, rc⟩, rfl, HZ.out⟩
    · have hbb : (b != 0) = true := by simp [hb]
      by_cases hl : l = -1
      · have hlb : (l != -1) = false := by simp [hl]
        have HPP := hid (show [] ++ (7 :: form b) = NN from by rw [HNB.out]; unfold stP; simp [hc, hb, hl])
        clear hc hb hl HNB
        go_enter Try.func23, Try.ntmps23
        go_upto_region 4 with fail
        generalize hW : World.alloc w _ = w1 at *
        clear hW HQ0
        have s00 := H0.out.c0
        have s01 := H0.out.c1
        have s02 := H0.out.c2
        have HP1 := hid (fun u => rput_any b u)
        have a1 : (w1.alloc (.cells #[.int .u8 7] 5)).cell? ⟨w.heap.size, 1, none⟩ = some (.int .i64 b) := (((Q.refl w1).alloc _).cell (lt_of_cell H0.out.c1)).trans H0.out.c1
        go_wp2_with (first | (go_at_call 25; refine (HP1.out _).mono ?_; rintro e u1 ⟨⟨p1a, p1n, p1c⟩, rfl, q1, x1, l1⟩; have J1 := hid (H0.out.app (by simp) 7 b u1 ⟨p1a, p1n, p1c⟩ q1 x1 l1); clear q1 x1 l1 HP1) | (go_at_call 29; refine J1.out.mono ?_; rintro e v1 ⟨⟨z1a, z1n, z1c⟩, rfl, hz1⟩; have Z1 := hid hz1; have s10 := hz1.c0; have s11 := hz1.c1; have s12 := hz1.c2; clear hz1; refine Hid.out ?_))
        refine hid ?_
        have HF := hid (HFR.out _ _ _ Z1.out HPP.out)
        go_wp2_with (go_at_call 21; refine HF.out.mono ?_; rintro e w9 ⟨⟨ra, rn, rc⟩, rfl, hz⟩; have HZ := hid hz; clear hz)
        go_ret2
        exact ⟨⟨ra, rn, rc⟩, rfl, HZ.out⟩
      · have hlb : (l != -1) = true := by simp [hl]
        have HPP := hid (show [] ++ (7 :: form b) ++ (6 :: form l) = NN from by rw [HNB.out]; unfold stP; simp [hc, hb, hl])
        clear hc hb hl HNB
        go_enter Try.func23, Try.ntmps23
        go_upto_region 4 with fail
        generalize hW : World.alloc w _ = w1 at *
        clear hW HQ0
        have s00 := H0.out.c0
        have s01 := H0.out.c1
        have s02 := H0.out.c2
        have HP1 := hid (fun u => rput_any b u)
        have a1 : (w1.alloc (.cells #[.int .u8 7] 5)).cell? ⟨w.heap.size, 1, none⟩ = some (.int .i64 b) := (((Q.refl w1).alloc _).cell (lt_of_cell H0.out.c1)).trans H0.out.c1
        go_wp2_with (first | (go_at_call 25; refine (HP1.out _).mono ?_; rintro e u1 ⟨⟨p1a, p1n, p1c⟩, rfl, q1, x1, l1⟩; have J1 := hid (H0.out.app (by simp) 7 b u1 ⟨p1a, p1n, p1c⟩ q1 x1 l1); clear q1 x1 l1 HP1) | (go_at_call 29; refine J1.out.mono ?_; rintro e v1 ⟨⟨z1a, z1n, z1c⟩, rfl, hz1⟩; have Z1 := hid hz1; have s10 := hz1.c0; have s11 := hz1.c1; have s12 := hz1.c2; clear hz1; refine Hid.out ?_))
        refine hid ?_
        have HP2 := hid (fun u => rput_any l u)
        have a2 : (v1.alloc (.cells #[.int .u8 6] 5)).cell? ⟨w.heap.size, 2, none⟩ = some (.int .i64 l) := (((Q.refl v1).alloc _).cell (lt_of_cell Z1.out.c2)).trans Z1.out.c2
        go_wp2_with (first | (go_at_call 25; refine (HP2.out _).mono ?_; rintro e u2 ⟨⟨p2a, p2n, p2c⟩, rfl, q2, x2, l2⟩; have J2 := hid (Z1.out.app (by simp; omega) 6 l u2 ⟨p2a, p2n, p2c⟩ q2 x2 l2); clear q2 x2 l2 HP2) | (go_at_call 29; refine J2.out.mono ?_; rintro e v2 ⟨⟨z2a, z2n, z2c⟩, rfl, hz2⟩; have Z2 := hid hz2; have s20 := hz2.c0; have s21 := hz2.c1; have s22 := hz2.c2; clear hz2; refine Hid.out ?_))
        refine hid ?_
        have HF := hid (HFR.out _ _ _ Z2.out HPP.out)
        go_wp2_with (go_at_call 21; refine HF.out.mono ?_; rintro e w9 ⟨⟨ra, rn, rc⟩, rfl, hz⟩; have HZ := hid hz; clear hz)
        go_ret2
        exact ⟨⟨ra, rn, rc⟩, rfl, HZ.out⟩
  · have hcb : (c != 0) = true := by simp [hc]
    by_cases hb : b = 0
    · have hbb : (b != 0) = false := by simp [hb]
      by_cases hl : l = -1
      · have hlb : (l != -1) = false := by simp [hl]
        have HPP := hid (show [] ++ (1 :: form c) = NN from by rw [HNB.out]; unfold stP; simp [hc, hb, hl])
        clear hc hb hl HNB
        go_enter Try.func23, Try.ntmps23
        go_upto_region 4 with fail
        generalize hW : World.alloc w _ = w1 at *
        clear hW HQ0
        have s00 := H0.out.c0
        have s01 := H0.out.c1
        have s02 := H0.out.c2
        have HP1 := hid (fun u => rput_any c u)
        have a1 : (w1.alloc (.cells #[.int .u8 1] 5)).cell? ⟨w.heap.size, 0, none⟩ = some (.int .i64 c) := (((Q.refl w1).alloc _).cell (lt_of_cell H0.out.c0)).trans H0.out.c0
        go_wp2_with (first | (go_at_call 25; refine (HP1.out _).mono ?_; rintro e u1 ⟨⟨p1a, p1n, p1c⟩, rfl, q1, x1, l1⟩; have J1 := hid (H0.out.app (by simp) 1 c u1 ⟨p1a, p1n, p1c⟩ q1 x1 l1); clear q1 x1 l1 HP1) | (go_at_call 29; refine J1.out.mono ?_; rintro e v1 ⟨⟨z1a, z1n, z1c⟩, rfl, hz1⟩; have Z1 := hid hz1; have s10 := hz1.c0; have s11 := hz1.c1; have s12 := hz1.c2; clear hz1; refine Hid.out ?_))
        refine hid ?_
        have HF := hid (HFR.out _ _ _ Z1.out HPP.out)
        go_wp2_with (go_at_call 21; refine HF.out.mono ?_; rintro e w9 ⟨⟨ra, rn, rc⟩, rfl, hz⟩; have HZ := hid hz; clear hz)
        go_ret2
        exact ⟨⟨ra, rn, rc⟩, rfl, HZ.out⟩
      · have hlb : (l != -1) = true := by simp [hl]
        have HPP := hid (show [] ++ (1 :: form c) ++ (6 :: form l) = NN from by rw [HNB.out]; unfold stP; simp [hc, hb, hl])
        clear hc hb hl HNB
        go_enter Try.func23, Try.ntmps23
        go_upto_region 4 with fail
        generalize hW : World.alloc w _ = w1 at *
        clear hW HQ0
        have s00 := H0.out.c0
        have s01 := H0.out.c1
        have s02 := H0.out.c2
        have HP1 := hid (fun u => rput_any c u)
        have a1 : (w1.alloc (.cells #[.int .u8 1] 5)).cell? ⟨w.heap.size, 0, none⟩ = some (.int .i64 c) := (((Q.refl w1).alloc _).cell (lt_of_cell H0.out.c0)).trans H0.out.c0
        go_wp2_with (first | (go_at_call 25; refine (HP1.out _).mono ?_; rintro e u1 ⟨⟨p1a, p1n, p1c⟩, rfl, q1, x1, l1⟩; have J1 := hid (H0.out.app (by simp) 1 c u1 ⟨p1a, p1n, p1c⟩ q1 x1 l1); clear q1 x1 l1 HP1) | (go_at_call 29; refine J1.out.mono ?_; rintro e v1 ⟨⟨z1a, z1n, z1c⟩, rfl, hz1⟩; have Z1 := hid hz1; have s10 := hz1.c0; have s11 := hz1.c1; have s12 := hz1.c2; clear hz1; refine Hid.out ?_))
        refine hid ?_
        have HP2 := hid (fun u => rput_any l u)
        have a2 : (v1.alloc (.cells #[.int .u8 6] 5)).cell? ⟨w.heap.size, 2, none⟩ = some (.int .i64 l) := (((Q.refl v1).alloc _).cell (lt_of_cell Z1.out.c2)).trans Z1.out.c2
        go_wp2_with (first | (go_at_call 25; refine (HP2.out _).mono ?_; rintro e u2 ⟨⟨p2a, p2n, p2c⟩, rfl, q2, x2, l2⟩; have J2 := hid (Z1.out.app (by simp; omega) 6 l u2 ⟨p2a, p2n, p2c⟩ q2 x2 l2); clear q2 x2 l2 HP2) | (go_at_call 29; refine J2.out.mono ?_; rintro e v2 ⟨⟨z2a, z2n, z2c⟩, rfl, hz2⟩; have Z2 := hid hz2; have s20 := hz2.c0; have s21 := hz2.c1; have s22 := hz2.c2; clear hz2; refine Hid.out ?_))
        refine hid ?_
        have HF := hid (HFR.out _ _ _ Z2.out HPP.out)
        go_wp2_with (go_at_call 21; refine HF.out.mono ?_; rintro e w9 ⟨⟨ra, rn, rc⟩, rfl, hz⟩; have HZ := hid hz; clear hz)
        go_ret2
        exact ⟨⟨ra, rn, rc⟩, rfl, HZ.out⟩
    · have hbb : (b != 0) = true := by simp [hb]
      by_cases hl : l = -1
      · have hlb : (l != -1) = false := by simp [hl]
        have HPP := hid (show [] ++ (1 :: form c) ++ (7 :: form b) = NN from by rw [HNB.out]; unfold stP; simp [hc, hb, hl])
        clear hc hb hl HNB
        go_enter Try.func23, Try.ntmps23
        go_upto_region 4 with fail
        generalize hW : World.alloc w _ = w1 at *
        clear hW HQ0
        have s00 := H0.out.c0
        have s01 := H0.out.c1
        have s02 := H0.out.c2
        have HP1 := hid (fun u => rput_any c u)
        have a1 : (w1.alloc (.cells #[.int .u8 1] 5)).cell? ⟨w.heap.size, 0, none⟩ = some (.int .i64 c) := (((Q.refl w1).alloc _).cell (lt_of_cell H0.out.c0)).trans H0.out.c0
        go_wp2_with (first | (go_at_call 25; refine (HP1.out _).mono ?_; rintro e u1 ⟨⟨p1a, p1n, p1c⟩, rfl, q1, x1, l1⟩; have J1 := hid (H0.out.app (by simp) 1 c u1 ⟨p1a, p1n, p1c⟩ q1 x1 l1); clear q1 x1 l1 HP1) | (go_at_call 29; refine J1.out.mono ?_; rintro e v1 ⟨⟨z1a, z1n, z1c⟩, rfl, hz1⟩; have Z1 := hid hz1; have s10 := hz1.c0; have s11 := hz1.c1; have s12 := hz1.c2; clear hz1; refine Hid.out ?_))
        refine hid ?_
        have HP2 := hid (fun u => rput_any b u)
        have a2 : (v1.alloc (.cells #[.int .u8 7] 5)).cell? ⟨w.heap.size, 1, none⟩ = some (.int .i64 b) := (((Q.refl v1).alloc _).cell (lt_of_cell Z1.out.c1)).trans Z1.out.c1
        go_wp2_with (first | (go_at_call 25; refine (HP2.out _).mono ?_; rintro e u2 ⟨⟨p2a, p2n, p2c⟩, rfl, q2, x2, l2⟩; have J2 := hid (Z1.out.app (by simp; omega) 7 b u2 ⟨p2a, p2n, p2c⟩ q2 x2 l2); clear q2 x2 l2 HP2) | (go_at_call 29; refine J2.out.mono ?_; rintro e v2 ⟨⟨z2a, z2n, z2c⟩, rfl, hz2⟩; have Z2 := hid hz2; have s20 := hz2.c0; have s21 := hz2.c1; have s22 := hz2.c2; clear hz2; refine Hid.out ?_))
        refine hid ?_
        have HF := hid (HFR.out _ _ _ Z2.out HPP.out)
        go_wp2_with (go_at_call 21; refine HF.out.mono ?_; rintro e w9 ⟨⟨ra, rn, rc⟩, rfl, hz⟩; have HZ := hid hz; clear hz)
        go_ret2
        exact ⟨⟨ra, rn, rc⟩, rfl, HZ.out⟩
      · have hlb : (l != -1) = true := by simp [hl]
        have HPP := hid (show [] ++ (1 :: form c) ++ (7 :: form b) ++ (6 :: form l) = NN from by rw [HNB.out]; unfold stP; simp [hc, hb, hl])
        clear hc hb hl HNB
        go_enter Try.func23, Try.ntmps23
        go_upto_region 4 with fail
        generalize hW : World.alloc w _ = w1 at *
        clear hW HQ0
        have s00 := H0.out.c0
        have s01 := H0.out.c1
        have s02 := H0.out.c2
        have HP1 := hid (fun u => rput_any c u)
        have a1 : (w1.alloc (.cells #[.int .u8 1] 5)).cell? ⟨w.heap.size, 0, none⟩ = some (.int .i64 c) := (((Q.refl w1).alloc _).cell (lt_of_cell H0.out.c0)).trans H0.out.c0
        go_wp2_with (first | (go_at_call 25; refine (HP1.out _).mono ?_; rintro e u1 ⟨⟨p1a, p1n, p1c⟩, rfl, q1, x1, l1⟩; have J1 := hid (H0.out.app (by simp) 1 c u1 ⟨p1a, p1n, p1c⟩ q1 x1 l1); clear q1 x1 l1 HP1) | (go_at_call 29; refine J1.out.mono ?_; rintro e v1 ⟨⟨z1a, z1n, z1c⟩, rfl, hz1⟩; have Z1 := hid hz1; have s10 := hz1.c0; have s11 := hz1.c1; have s12 := hz1.c2; clear hz1; refine Hid.out ?_))
        refine hid ?_
        have HP2 := hid (fun u => rput_any b u)
        have a2 : (v1.alloc (.cells #[.int .u8 7] 5)).cell? ⟨w.heap.size, 1, none⟩ = some (.int .i64 b) := (((Q.refl v1).alloc _).cell (lt_of_cell Z1.out.c1)).trans Z1.out.c1
        go_wp2_with (first | (go_at_call 25; refine (HP2.out _).mono ?_; rintro e u2 ⟨⟨p2a, p2n, p2c⟩, rfl, q2, x2, l2⟩; have J2 := hid (Z1.out.app (by simp; omega) 7 b u2 ⟨p2a, p2n, p2c⟩ q2 x2 l2); clear q2 x2 l2 HP2) | (go_at_call 29; refine J2.out.mono ?_; rintro e v2 ⟨⟨z2a, z2n, z2c⟩, rfl, hz2⟩; have Z2 := hid hz2; have s20 := hz2.c0; have s21 := hz2.c1; have s22 := hz2.c2; clear hz2; refine Hid.out ?_))
        refine hid ?_
        have HP3 := hid (fun u => rput_any l u)
        have a3 : (v2.alloc (.cells #[.int .u8 6] 5)).cell? ⟨w.heap.size, 2, none⟩ = some (.int .i64 l) := (((Q.refl v2).alloc _).cell (lt_of_cell Z2.out.c2)).trans Z2.out.c2
        go_wp2_with (first | (go_at_call 25; refine (HP3.out _).mono ?_; rintro e u3 ⟨⟨p3a, p3n, p3c⟩, rfl, q3, x3, l3⟩; have J3 := hid (Z2.out.app (by simp; omega) 6 l u3 ⟨p3a, p3n, p3c⟩ q3 x3 l3); clear q3 x3 l3 HP3) | (go_at_call 29; refine J3.out.mono ?_; rintro e v3 ⟨⟨z3a, z3n, z3c⟩, rfl, hz3⟩; have Z3 := hid hz3; have s30 := hz3.c0; have s31 := hz3.c1; have s32 := hz3.c2; clear hz3; refine Hid.out ?_))
        refine hid ?_
        have HF := hid (HFR.out _ _ _ Z3.out HPP.out)
        go_wp2_with (go_at_call 21; refine HF.out.mono ?_; rintro e w9 ⟨⟨ra, rn, rc⟩, rfl, hz⟩; have HZ := hid hz; clear hz)
        go_ret2
        exact ⟨⟨ra, rn, rc⟩, rfl, HZ.out⟩
end Go.Proofs.Ytdlefmlienfjhaa
