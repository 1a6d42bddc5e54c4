/-
  requestOf where the reading ends early: contracts that the statements' walks use.
-/
import Derived.Test.YthefijjdffafkaaDoorRnV
namespace Go.Proofs.YthefijjdffafkaaDoor
open Go.RowKit
set_option linter.unusedVariables false
set_option maxRecDepth 20000

set_option maxHeartbeats 8000000 in
theorem req_muc (x : Sv) (l : List Fd) (c s : Int) (w : World) (h : Fin w x l) (hm : muc l c s = true) : Calls Tryd.prog 19 #[.slice x.a x.n x.c, .agg #[.int .i64 c, .int .i64 s]] w fun e w' => e = .panicked [refP 185] ∧ Q w w' := by
  obtain ⟨xa, xn, xc⟩ := x
  have H32 := hid (fun W q => size_bad ⟨xa, xn, xc⟩ l c s W (h.q (w' := W) q).s h.len (by have := h.b; omega) h.d hm)
  dsimp only at H32
  clear h hm
  go_enter Tryd.func19, Tryd.ntmps19
  have HQ0 := hid (((Q.refl w).alloc (.cells #[.int .i64 c, .int .i64 s] 30)).alloc (.cells (rqC ⟨#[]⟩ ⟨#[]⟩ ⟨#[]⟩ ⟨#[]⟩ ⟨none, 0, 0⟩ 0) 24))
  have HB1 := hid (show Blk ((w.alloc (.cells #[.int .i64 c, .int .i64 s] 30)).alloc (.cells (rqC ⟨#[]⟩ ⟨#[]⟩ ⟨#[]⟩ ⟨#[]⟩ ⟨none, 0, 0⟩ 0) 24)) (w.heap.size + 1) 24 (rqC ⟨#[]⟩ ⟨#[]⟩ ⟨#[]⟩ ⟨#[]⟩ ⟨none, 0, 0⟩ 0) from by
    have := blk_new (w.alloc (.cells #[.int .i64 c, .int .i64 s] 30)) (rqC ⟨#[]⟩ ⟨#[]⟩ ⟨#[]⟩ ⟨#[]⟩ ⟨none, 0, 0⟩ 0) 24
    rw [World.size_alloc] at this
    exact this)
  have HBS := hid (show w.heap.size ≤ w.heap.size + 1 from by omega)
  go_wp2_with fail
  generalize hW : World.alloc (World.alloc w _) _ = W0 at *
  clear hW
  generalize w.heap.size + 1 = b1 at *
  refine (H32.out _ HQ0.out).mono ?_
  rintro e w1 ⟨rfl, q1⟩
  have Q1 := hid (HQ0.out.trans q1)
  have B1 := hid (HB1.out.q q1)
  clear q1 HB1 HQ0
  exact ⟨rfl, rfl, Q1.out⟩
set_option maxHeartbeats 8000000 in
theorem req_fst (x : Sv) (l : List Fd) (c s : Int) (w : World) (h : Fin w x l) (hm : muc l c s = false) (hf : fstE l ≠ 0) : Calls Tryd.prog 19 #[.slice x.a x.n x.c, .agg #[.int .i64 c, .int .i64 s]] w fun e w' => e = .panicked [refP (fstE l)] ∧ Q w w' := by
  obtain ⟨xa, xn, xc⟩ := x
  have H32 := hid (fun W q => size_ok ⟨xa, xn, xc⟩ l c s W (h.q (w' := W) q).s h.len (by have := h.b; omega) h.d hm)
  have H33 := hid (fun W q => flds_bad (h.q (w' := W) q) hf)
  dsimp only at H32 H33
  clear h hm hf
  generalize fstE l = y at *
  go_enter Tryd.func19, Tryd.ntmps19
  have HQ0 := hid (((Q.refl w).alloc (.cells #[.int .i64 c, .int .i64 s] 30)).alloc (.cells (rqC ⟨#[]⟩ ⟨#[]⟩ ⟨#[]⟩ ⟨#[]⟩ ⟨none, 0, 0⟩ 0) 24))
  have HB1 := hid (show Blk ((w.alloc (.cells #[.int .i64 c, .int .i64 s] 30)).alloc (.cells (rqC ⟨#[]⟩ ⟨#[]⟩ ⟨#[]⟩ ⟨#[]⟩ ⟨none, 0, 0⟩ 0) 24)) (w.heap.size + 1) 24 (rqC ⟨#[]⟩ ⟨#[]⟩ ⟨#[]⟩ ⟨#[]⟩ ⟨none, 0, 0⟩ 0) from by
    have := blk_new (w.alloc (.cells #[.int .i64 c, .int .i64 s] 30)) (rqC ⟨#[]⟩ ⟨#[]⟩ ⟨#[]⟩ ⟨#[]⟩ ⟨none, 0, 0⟩ 0) 24
    rw [World.size_alloc] at this
    exact this)
  have HBS := hid (show w.heap.size ≤ w.heap.size + 1 from by omega)
  go_wp2_with fail
  generalize hW : World.alloc (World.alloc w _) _ = W0 at *
  clear hW
  generalize w.heap.size + 1 = b1 at *
  refine (H32.out _ HQ0.out).mono ?_
  rintro e w1 ⟨rfl, q1⟩
  have Q1 := hid (HQ0.out.trans q1)
  have B1 := hid (HB1.out.q q1)
  clear q1 HB1 HQ0
  go_wp2_with (go_at_call 25; refine (H33.out _ Q1.out).mono ?_; rintro e w2 ⟨rfl, q2⟩; have Q2 := hid (Q1.out.trans q2); clear q2)
  exact ⟨rfl, rfl, Q2.out⟩
set_option maxHeartbeats 8000000 in
theorem req_met (x : Sv) (l : List Fd) (c s : Int) (w : World) (h : Fin w x l) (hm : muc l c s = false) (hf : fstE l = 0) (hme : metE l ≠ 0) : Calls Tryd.prog 19 #[.slice x.a x.n x.c, .agg #[.int .i64 c, .int .i64 s]] w fun e w' => e = .panicked [refP (metE l)] ∧ Q w w' := by
  obtain ⟨xa, xn, xc⟩ := x
  have H32 := hid (fun W q => size_ok ⟨xa, xn, xc⟩ l c s W (h.q (w' := W) q).s h.len (by have := h.b; omega) h.d hm)
  have H33 := hid (fun W q => flds_ok (h.q (w' := W) q) hf)
  have H34 := hid (fun W q => method_any ⟨xa, xn, xc⟩ l W (h.q (w' := W) q))
  rw [endA_no _ _ rfl hme] at H34
  dsimp only at H32 H33 H34
  clear h hm hf hme
  generalize metE l = y at *
  generalize lenL l = ln at *
  go_enter Tryd.func19, Tryd.ntmps19
  have HQ0 := hid (((Q.refl w).alloc (.cells #[.int .i64 c, .int .i64 s] 30)).alloc (.cells (rqC ⟨#[]⟩ ⟨#[]⟩ ⟨#[]⟩ ⟨#[]⟩ ⟨none, 0, 0⟩ 0) 24))
  have HB1 := hid (show Blk ((w.alloc (.cells #[.int .i64 c, .int .i64 s] 30)).alloc (.cells (rqC ⟨#[]⟩ ⟨#[]⟩ ⟨#[]⟩ ⟨#[]⟩ ⟨none, 0, 0⟩ 0) 24)) (w.heap.size + 1) 24 (rqC ⟨#[]⟩ ⟨#[]⟩ ⟨#[]⟩ ⟨#[]⟩ ⟨none, 0, 0⟩ 0) from by
    have := blk_new (w.alloc (.cells #[.int .i64 c, .int .i64 s] 30)) (rqC ⟨#[]⟩ ⟨#[]⟩ ⟨#[]⟩ ⟨#[]⟩ ⟨none, 0, 0⟩ 0) 24
    rw [World.size_alloc] at this
    exact this)
  have HBS := hid (show w.heap.size ≤ w.heap.size + 1 from by omega)
  go_wp2_with fail
  generalize hW : World.alloc (World.alloc w _) _ = W0 at *
  clear hW
  generalize w.heap.size + 1 = b1 at *
  refine (H32.out _ HQ0.out).mono ?_
  rintro e w1 ⟨rfl, q1⟩
  have Q1 := hid (HQ0.out.trans q1)
  have B1 := hid (HB1.out.q q1)
  clear q1 HB1 HQ0
  go_wp2_with (go_at_call 25; refine (H33.out _ Q1.out).mono ?_; rintro e w2 ⟨rfl, q2⟩; have Q2 := hid (Q1.out.trans q2); have B2 := hid (B1.out.q q2); clear q2 B1 Q1)
  have R2 := hid (show RI w b1 w2.heap.size (rqC ⟨#[]⟩ ⟨#[]⟩ ⟨#[]⟩ ⟨#[]⟩ ⟨none, 0, 0⟩ ln) (w2.alloc (.cells (rqC ⟨#[]⟩ ⟨#[]⟩ ⟨#[]⟩ ⟨#[]⟩ ⟨none, 0, 0⟩ ln) 24)) from
    ⟨Q2.out.alloc _, B2.out.q ((Q.refl _).alloc _), blk_new w2 _ 24, HBS.out, B2.out.lt⟩)
  generalize hW : World.alloc w2 _ = W2 at *
  clear hW Q2 B2
  generalize w2.heap.size = b2 at *
  refine (H34.out _ R2.out.q).mono ?_
  rintro e w3 ⟨rfl, q3⟩
  exact ⟨rfl, rfl, R2.out.q.trans q3⟩
set_option maxHeartbeats 8000000 in
theorem req_mid (x : Sv) (l : List Fd) (c s : Int) (w : World) (h : Fin w x l) (hm : muc l c s = false) (hf : fstE l = 0) (hme : metE l = 0) (hmi : midE l ≠ 0) : Calls Tryd.prog 19 #[.slice x.a x.n x.c, .agg #[.int .i64 c, .int .i64 s]] w fun e w' => e = .panicked [refP (midE l)] ∧ Q w w' := by
  obtain ⟨xa, xn, xc⟩ := x
  have H32 := hid (fun W q => size_ok ⟨xa, xn, xc⟩ l c s W (h.q (w' := W) q).s h.len (by have := h.b; omega) h.d hm)
  have H33 := hid (fun W q => flds_ok (h.q (w' := W) q) hf)
  have H34 := hid (fun W q => method_any ⟨xa, xn, xc⟩ l W (h.q (w' := W) q))
  rw [endA_ok _ hme] at H34
  have H35 := hid (fun W q => tunnel_any ⟨xa, xn, xc⟩ l W (h.q (w' := W) q))
  have H36 := hid (fun W q => target_any ⟨xa, xn, xc⟩ l (metO l) W (h.q (w' := W) q) rfl)
  dsimp only at H32 H33 H34 H35 H36
  have hCN : ((metO l).toList == [67, 79, 78, 78, 69, 67, 84]) = eqS (metO l) kCNT := beq_lit _ _
  have hmid : midE l = if eqS (metO l) kCNT then tunE l else tarE l := rfl
  clear h hm hf hme
  generalize midE l = y at *
  generalize lenL l = ln at *
  generalize metO l = m at *
  go_enter Tryd.func19, Tryd.ntmps19
  have HQ0 := hid (((Q.refl w).alloc (.cells #[.int .i64 c, .int .i64 s] 30)).alloc (.cells (rqC ⟨#[]⟩ ⟨#[]⟩ ⟨#[]⟩ ⟨#[]⟩ ⟨none, 0, 0⟩ 0) 24))
  have HB1 := hid (show Blk ((w.alloc (.cells #[.int .i64 c, .int .i64 s] 30)).alloc (.cells (rqC ⟨#[]⟩ ⟨#[]⟩ ⟨#[]⟩ ⟨#[]⟩ ⟨none, 0, 0⟩ 0) 24)) (w.heap.size + 1) 24 (rqC ⟨#[]⟩ ⟨#[]⟩ ⟨#[]⟩ ⟨#[]⟩ ⟨none, 0, 0⟩ 0) from by
    have := blk_new (w.alloc (.cells #[.int .i64 c, .int .i64 s] 30)) (rqC ⟨#[]⟩ ⟨#[]⟩ ⟨#[]⟩ ⟨#[]⟩ ⟨none, 0, 0⟩ 0) 24
    rw [World.size_alloc] at this
    exact this)
  have HBS := hid (show w.heap.size ≤ w.heap.size + 1 from by omega)
  go_wp2_with fail
  generalize hW : World.alloc (World.alloc w _) _ = W0 at *
  clear hW
  generalize w.heap.size + 1 = b1 at *
  refine (H32.out _ HQ0.out).mono ?_
  rintro e w1 ⟨rfl, q1⟩
  have Q1 := hid (HQ0.out.trans q1)
  have B1 := hid (HB1.out.q q1)
  clear q1 HB1 HQ0
  go_wp2_with (go_at_call 25; refine (H33.out _ Q1.out).mono ?_; rintro e w2 ⟨rfl, q2⟩; have Q2 := hid (Q1.out.trans q2); have B2 := hid (B1.out.q q2); clear q2 B1 Q1)
  have R2 := hid (show RI w b1 w2.heap.size (rqC ⟨#[]⟩ ⟨#[]⟩ ⟨#[]⟩ ⟨#[]⟩ ⟨none, 0, 0⟩ ln) (w2.alloc (.cells (rqC ⟨#[]⟩ ⟨#[]⟩ ⟨#[]⟩ ⟨#[]⟩ ⟨none, 0, 0⟩ ln) 24)) from
    ⟨Q2.out.alloc _, B2.out.q ((Q.refl _).alloc _), blk_new w2 _ 24, HBS.out, B2.out.lt⟩)
  generalize hW : World.alloc w2 _ = W2 at *
  clear hW Q2 B2
  generalize w2.heap.size = b2 at *
  refine (H34.out _ R2.out.q).mono ?_
  rintro e w3 ⟨rfl, q3⟩
  have R3 := hid (R2.out.call q3)
  have c0 : w3.cell? ⟨b2, 0, none⟩ = some (.string ⟨#[]⟩) := R3.out.b.cell 0
  have f0 : w3.frozen? ⟨b2, 0, none⟩ = false := R3.out.b.frozen 0
  have R4 := hid (show RI w b1 b2 (rqC m ⟨#[]⟩ ⟨#[]⟩ ⟨#[]⟩ ⟨none, 0, 0⟩ ln) (w3.setCell ⟨b2, 0, none⟩ (.string m)) from R3.out.set 0 (.string m))
  clear q3 R3 R2
  cases hcc : eqS m kCNT with
  | true =>
    rw [hcc] at hCN
    rw [hcc, if_pos rfl] at hmid
    replace H35 := hid (fun W q => (by have := H35.out W q; rw [endA_no _ y hmid.symm hmi] at this; exact this : Calls Tryd.prog 27 #[.slice xa xn xc] W fun e w' => e = .panicked [refP y] ∧ Q W w'))
    clear H36 hcc hmid hmi
    go_wp2_with (go_at_call 27; refine (H35.out _ R4.out.q).mono ?_; rintro e w5 ⟨rfl, q5⟩; have R5 := hid (R4.out.q.trans q5); clear q5)
    exact ⟨rfl, rfl, R5.out⟩
  | false =>
    rw [hcc] at hCN
    rw [hcc, if_neg (by decide)] at hmid
    replace H36 := hid (fun W q => (by have := H36.out W q; rw [endA_no _ y hmid.symm hmi] at this; exact this : Calls Tryd.prog 28 #[.slice xa xn xc, .string m] W fun e w' => e = .panicked [refP y] ∧ Q W w'))
    clear H35 hcc hmid hmi
    go_wp2_with (go_at_call 28; refine (H36.out _ R4.out.q).mono ?_; rintro e w5 ⟨rfl, q5⟩; have R5 := hid (R4.out.q.trans q5); clear q5)
    exact ⟨rfl, rfl, R5.out⟩
set_option maxHeartbeats 8000000 in
theorem req_aut (x : Sv) (l : List Fd) (c s : Int) (w : World) (h : Fin w x l) (hm : muc l c s = false) (hf : fstE l = 0) (hme : metE l = 0) (hmi : midE l = 0) (hau : autE l ≠ 0) : Calls Tryd.prog 19 #[.slice x.a x.n x.c, .agg #[.int .i64 c, .int .i64 s]] w fun e w' => e = .panicked [refP (autE l)] ∧ Q w w' := by
  obtain ⟨xa, xn, xc⟩ := x
  have H32 := hid (fun W q => size_ok ⟨xa, xn, xc⟩ l c s W (h.q (w' := W) q).s h.len (by have := h.b; omega) h.d hm)
  have H33 := hid (fun W q => flds_ok (h.q (w' := W) q) hf)
  have H34 := hid (fun W q => method_any ⟨xa, xn, xc⟩ l W (h.q (w' := W) q))
  rw [endA_ok _ hme] at H34
  have H35 := hid (fun W q => tunnel_any ⟨xa, xn, xc⟩ l W (h.q (w' := W) q))
  have H36 := hid (fun W q => target_any ⟨xa, xn, xc⟩ l (metO l) W (h.q (w' := W) q) rfl)
  have H37 := hid (fun W q => author_any ⟨xa, xn, xc⟩ l W (h.q (w' := W) q))
  rw [endA_no _ _ rfl hau] at H37
  dsimp only at H32 H33 H34 H35 H36 H37
  have hCN : ((metO l).toList == [67, 79, 78, 78, 69, 67, 84]) = eqS (metO l) kCNT := beq_lit _ _
  have hmid : midE l = if eqS (metO l) kCNT then tunE l else tarE l := rfl
  rw [hmid] at hmi
  clear h hm hf hme hau hmid
  generalize autE l = y at *
  generalize lenL l = ln at *
  generalize metO l = m at *
  generalize schO l = sc at *
  generalize patO l = pa at *
  go_enter Tryd.func19, Tryd.ntmps19
  have HQ0 := hid (((Q.refl w).alloc (.cells #[.int .i64 c, .int .i64 s] 30)).alloc (.cells (rqC ⟨#[]⟩ ⟨#[]⟩ ⟨#[]⟩ ⟨#[]⟩ ⟨none, 0, 0⟩ 0) 24))
  have HB1 := hid (show Blk ((w.alloc (.cells #[.int .i64 c, .int .i64 s] 30)).alloc (.cells (rqC ⟨#[]⟩ ⟨#[]⟩ ⟨#[]⟩ ⟨#[]⟩ ⟨none, 0, 0⟩ 0) 24)) (w.heap.size + 1) 24 (rqC ⟨#[]⟩ ⟨#[]⟩ ⟨#[]⟩ ⟨#[]⟩ ⟨none, 0, 0⟩ 0) from by
    have := blk_new (w.alloc (.cells #[.int .i64 c, .int .i64 s] 30)) (rqC ⟨#[]⟩ ⟨#[]⟩ ⟨#[]⟩ ⟨#[]⟩ ⟨none, 0, 0⟩ 0) 24
    rw [World.size_alloc] at this
    exact this)
  have HBS := hid (show w.heap.size ≤ w.heap.size + 1 from by omega)
  go_wp2_with fail
  generalize hW : World.alloc (World.alloc w _) _ = W0 at *
  clear hW
  generalize w.heap.size + 1 = b1 at *
  refine (H32.out _ HQ0.out).mono ?_
  rintro e w1 ⟨rfl, q1⟩
  have Q1 := hid (HQ0.out.trans q1)
  have B1 := hid (HB1.out.q q1)
  clear q1 HB1 HQ0
  go_wp2_with (go_at_call 25; refine (H33.out _ Q1.out).mono ?_; rintro e w2 ⟨rfl, q2⟩; have Q2 := hid (Q1.out.trans q2); have B2 := hid (B1.out.q q2); clear q2 B1 Q1)
  have R2 := hid (show RI w b1 w2.heap.size (rqC ⟨#[]⟩ ⟨#[]⟩ ⟨#[]⟩ ⟨#[]⟩ ⟨none, 0, 0⟩ ln) (w2.alloc (.cells (rqC ⟨#[]⟩ ⟨#[]⟩ ⟨#[]⟩ ⟨#[]⟩ ⟨none, 0, 0⟩ ln) 24)) from
    ⟨Q2.out.alloc _, B2.out.q ((Q.refl _).alloc _), blk_new w2 _ 24, HBS.out, B2.out.lt⟩)
  generalize hW : World.alloc w2 _ = W2 at *
  clear hW Q2 B2
  generalize w2.heap.size = b2 at *
  refine (H34.out _ R2.out.q).mono ?_
  rintro e w3 ⟨rfl, q3⟩
  have R3 := hid (R2.out.call q3)
  have c0 : w3.cell? ⟨b2, 0, none⟩ = some (.string ⟨#[]⟩) := R3.out.b.cell 0
  have f0 : w3.frozen? ⟨b2, 0, none⟩ = false := R3.out.b.frozen 0
  have R4 := hid (show RI w b1 b2 (rqC m ⟨#[]⟩ ⟨#[]⟩ ⟨#[]⟩ ⟨none, 0, 0⟩ ln) (w3.setCell ⟨b2, 0, none⟩ (.string m)) from R3.out.set 0 (.string m))
  clear q3 R3 R2
  cases hcc : eqS m kCNT with
  | true =>
    rw [hcc] at hCN
    rw [hcc, if_pos rfl] at hmi
    replace H35 := hid (fun W q => (by have := H35.out W q; rw [endA_ok _ hmi] at this; exact this : Calls Tryd.prog 27 #[.slice xa xn xc] W fun e w' => e = .returned (.tuple #[]) ∧ Q W w'))
    clear H36 hcc hmi
    go_wp2_with (first
      | (go_at_call 27; refine (H35.out _ R4.out.q).mono ?_; rintro e w5 ⟨rfl, q5⟩; have R5 := hid (R4.out.call q5); clear q5)
      | (go_at_call 29; refine (H37.out _ R5.out.q).mono ?_; rintro e w7 ⟨rfl, q7⟩; have R6 := hid (R5.out.q.trans q7); clear q7))
    exact ⟨rfl, rfl, R6.out⟩
  | false =>
    rw [hcc] at hCN
    rw [hcc, if_neg (by decide)] at hmi
    replace H36 := hid (fun W q => (by have := H36.out W q; rw [endA_ok _ hmi] at this; exact this : Calls Tryd.prog 28 #[.slice xa xn xc, .string m] W fun e w' => e = .returned (.tuple #[.string sc, .string pa]) ∧ Q W w'))
    clear H35 hcc hmi
    go_wp2_with (first
      | (go_at_call 28; refine (H36.out _ R4.out.q).mono ?_; rintro e w5 ⟨rfl, q5⟩; have RA := hid (R4.out.call q5); have c1 : w5.cell? ⟨b2, 1, none⟩ = some (.string ⟨#[]⟩) := RA.out.b.cell 1; have f1 : w5.frozen? ⟨b2, 1, none⟩ = false := RA.out.b.frozen 1; have RB := hid (RA.out.set 1 (.string sc)); have c3 : (w5.setCell ⟨b2, 1, none⟩ (.string sc)).cell? ⟨b2, 3, none⟩ = some (.string ⟨#[]⟩) := RB.out.b.cell 3; have c3' : w5.cell? ⟨b2, 3, none⟩ = some (.string ⟨#[]⟩) := RA.out.b.cell 3; have f3 : (w5.setCell ⟨b2, 1, none⟩ (.string sc)).frozen? ⟨b2, 3, none⟩ = false := RB.out.b.frozen 3; have f3' : w5.frozen? ⟨b2, 3, none⟩ = false := RA.out.b.frozen 3; have R5 := hid (RB.out.set 3 (.string pa)); clear q5)
      | (go_at_call 29; refine (H37.out _ R5.out.q).mono ?_; rintro e w7 ⟨rfl, q7⟩; have R6 := hid (R5.out.q.trans q7); clear q7))
    exact ⟨rfl, rfl, R6.out⟩
theorem req_bad (x : Sv) (l : List Fd) (c s : Int) (w : World) (h : Fin w x l) (hc : chE l c s ≠ 0) : Calls Tryd.prog 19 #[.slice x.a x.n x.c, .agg #[.int .i64 c, .int .i64 s]] w fun e w' => e = .panicked [refP (chE l c s)] ∧ Q w w' := by
  unfold chE at hc ⊢
  cases hm : muc l c s with
  | true =>
    rw [if_pos rfl, orE_no (by decide)]
    exact req_muc x l c s w h hm
  | false =>
    rw [hm, if_neg (by decide), orE_ok rfl] at hc
    rw [if_neg (by decide), orE_ok rfl]
    by_cases hf : fstE l = 0
    · rw [orE_ok hf] at hc ⊢
      by_cases hme : metE l = 0
      · rw [orE_ok hme] at hc ⊢
        by_cases hmi : midE l = 0
        · rw [orE_ok hmi] at hc ⊢
          exact req_aut x l c s w h hm hf hme hmi hc
        · rw [orE_no hmi]
          exact req_mid x l c s w h hm hf hme hmi
      · rw [orE_no hme]
        exact req_met x l c s w h hm hf hme
    · rw [orE_no hf]
      exact req_fst x l c s w h hm hf
end Go.Proofs.YthefijjdffafkaaDoor
