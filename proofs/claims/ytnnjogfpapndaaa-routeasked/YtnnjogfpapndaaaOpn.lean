/-
  What prim.Open does: a contract that the statements' walks use.
-/
import Derived.Test.YtnnjogfpapndaaaSeal
import Derived.Deep.MidRow
import Derived.Test.YtnnjogfpapndaaaEqa
namespace Go.Proofs.Ytnnjogfpapndaaa
open Go.RowKit
set_option linter.unusedVariables false
set_option maxRecDepth 20000

/-- What Open refuses, and what it tells. -/
def opnE (ks ns az zs : List Int) : Int :=
  if chkE ks.length ns.length az.length ((zs.length : Int) - 16) ≠ 0 then chkE ks.length ns.length az.length ((zs.length : Int) - 16)
  else if zs.length < 16 then 12 else if tagL ks ns az (zs.take (zs.length - 16)) = zs.drop (zs.length - 16) then 0 else 71
def opnR (ks ns az zs : List Int) : List Int := if opnE ks ns az zs = 0 then ovl ks ns (zs.take (zs.length - 16)) else []
/-- Are the 16 bytes equal? -/
def eq16 (xs ys : List Int) : Bool := decide (xs = ys)
theorem eqa16 (t0 t1 t2 t3 t4 t5 t6 t7 t8 t9 ta tb tc td te tf x0 x1 x2 x3 x4 x5 x6 x7 x8 x9 xa xb xc xd xe xf : Int) (w : World) : (Op.equalIn 10000 90 (.agg #[.int .u8 t0, .int .u8 t1, .int .u8 t2, .int .u8 t3, .int .u8 t4, .int .u8 t5, .int .u8 t6, .int .u8 t7, .int .u8 t8, .int .u8 t9, .int .u8 ta, .int .u8 tb, .int .u8 tc, .int .u8 td, .int .u8 te, .int .u8 tf]) (.agg #[.int .u8 x0, .int .u8 x1, .int .u8 x2, .int .u8 x3, .int .u8 x4, .int .u8 x5, .int .u8 x6, .int .u8 x7, .int .u8 x8, .int .u8 x9, .int .u8 xa, .int .u8 xb, .int .u8 xc, .int .u8 xd, .int .u8 xe, .int .u8 xf])).run Try.prog w = .ok (eq16 [t0, t1, t2, t3, t4, t5, t6, t7, t8, t9, ta, tb, tc, td, te, tf] [x0, x1, x2, x3, x4, x5, x6, x7, x8, x9, xa, xb, xc, xd, xe, xf]) w := arr_eq [t0, t1, t2, t3, t4, t5, t6, t7, t8, t9, ta, tb, tc, td, te, tf] [x0, x1, x2, x3, x4, x5, x6, x7, x8, x9, xa, xb, xc, xd, xe, xf] rfl rfl w
attribute [local go_sem] eqa16
theorem arr_at (b o c : Nat) (w : World) : (Instr.arrayAt 90 (.slice (some ⟨b, o, none⟩) 16 c)).run Try.prog w = .ok (.pointer (some ⟨b, o, none⟩)) w := by kernel_rfl
theorem arr24 : (Try.prog.info? 90).map (·.size) = some 16 := by kernel_rfl
theorem In.cut {w : World} {x : Sv} {zs : List Int} (h : In w x zs) (k c : Nat) (hk : k ≤ x.n) : In w ⟨x.a, k, c⟩ (zs.take k) :=
  ⟨seg_take h.s k, by have := h.l; simp; omega, fun y hy => h.z y (List.mem_of_mem_take hy)⟩
theorem lst16 {l : List Int} (h : l.length = 16) : ∃ x0 x1 x2 x3 x4 x5 x6 x7 x8 x9 xa xb xc xd xe xf : Int, l = [x0, x1, x2, x3, x4, x5, x6, x7, x8, x9, xa, xb, xc, xd, xe, xf] := by
  match l, h with
  | [x0, x1, x2, x3, x4, x5, x6, x7, x8, x9, xa, xb, xc, xd, xe, xf], _ => exact ⟨x0, x1, x2, x3, x4, x5, x6, x7, x8, x9, xa, xb, xc, xd, xe, xf, rfl⟩
set_option maxHeartbeats 8000000 in
theorem open_any (k n ad d : Sv) (ks ns az ds : List Int) (w : World) (hk : In w k ks) (hn : In w n ns) (ha : In w ad az) (hd : In w d ds) (bd : d.n ≤ 140737488355328) (bc : d.n ≤ d.c) :
    Calls Try.prog 57 #[.slice k.a k.n k.c, .slice n.a n.n n.c, .slice ad.a ad.n ad.c, .slice d.a d.n d.c] w fun e w' => ∃ x : Sv, e = .returned (.tuple #[.slice x.a x.n x.c, .int .i64 (opnE ks ns az ds)]) ∧ Q w w' ∧ Row w' x (opnR ks ns az ds) := by
  have HC := hid (check_any k n ad ((d.n : Int) - 16) w)
  have HTG := hid (fun (x : Sv) (cs : List Int) (u : World) => tagOf_any k n ad x ks ns az cs u)
  have HOV := hid (fun (x : Sv) (cs : List Int) (u : World) => overlay_any k n x ks ns cs u)
  have HOK := hid (@chk_ok k.n n.n ad.n ((d.n : Int) - 16))
  have HK := hid hk
  have HN := hid hn
  have HA := hid ha
  have HD := hid hd
  have HOE := hid (show opnE ks ns az ds = if chkE k.n n.n ad.n ((d.n : Int) - 16) ≠ 0 then chkE k.n n.n ad.n ((d.n : Int) - 16) else if d.n < 16 then 12 else if tagL ks ns az (ds.take (d.n - 16)) = ds.drop (d.n - 16) then 0 else 71 from by
    unfold opnE; rw [hk.l, hn.l, ha.l, hd.l])
  have HOR := hid (show opnR ks ns az ds = if opnE ks ns az ds = 0 then ovl ks ns (ds.take (d.n - 16)) else [] from by unfold opnR; rw [hd.l])
  clear hk hn ha hd
  obtain ⟨ka, kn, kc⟩ := k
  obtain ⟨na, nn, nc⟩ := n
  obtain ⟨aa, an, ac⟩ := ad
  obtain ⟨da, dn, dc⟩ := d
  dsimp only at *
  generalize opnE ks ns az ds = OE at *
  generalize opnR ks ns az ds = OR at *
  generalize chkE kn nn an ((dn : Int) - 16) = E at *
  by_cases hE : E = 0
  · subst hE
    obtain ⟨b1, b2, b3, b4⟩ := HOK.out rfl
    rw [if_neg (by simp)] at HOE
    by_cases h16 : (dn : Int) - 16 < 0
    · have hoe : OE = 12 := by rw [HOE.out, if_pos (by omega)]
      have hor : OR = [] := by rw [HOR.out, if_neg (by rw [hoe]; decide)]
      subst hoe
      subst hor
      go_enter Try.func57, Try.ntmps57
      go_wp2_with (go_at_call 52; refine HC.out.mono ?_; rintro e w' ⟨rfl, rfl⟩)
      go_ret2
      exact ⟨nilS, rfl, Q.refl _, sub_nil _ _ _⟩
    · obtain ⟨m, rfl⟩ : ∃ m, dn = m + 16 := ⟨dn - 16, by omega⟩
      rw [if_neg (by omega), show m + 16 - 16 = m by omega] at HOE
      rw [show m + 16 - 16 = m by omega] at HOR
      have hm : ((m + 16 : Nat) : Int) - 16 = (m : Int) := by omega
      have hms : (m : Int) ≤ 16384 := by omega
      have hmc : (m : Int) ≤ (dc : Int) := by omega
      have hm0 : ¬ (m : Int) < 0 := by omega
      rw [hm] at HC
      go_enter Try.func57, Try.ntmps57
      go_wp2_with (go_at_call 52; refine HC.out.mono ?_; rintro e w' ⟨rfl, rfl⟩)
      obtain ⟨b, o, e, hcc⟩ := HD.out.s (by intro e; have h1 := HD.out.l; simp [e] at h1)
      dsimp only at e
      subst e
      have hdl : ds.length = m + 16 := HD.out.l
      have HM := hid (show In w' ⟨some ⟨b, o, none⟩, m, dc⟩ (ds.take m) from HD.out.cut m dc (by show m ≤ m + 16; omega))
      obtain ⟨x0, x1, x2, x3, x4, x5, x6, x7, x8, x9, xa, xb, xc, xd, xe, xf, hxs⟩ := lst16 (show (ds.drop m).length = 16 by simp [hdl])
      obtain ⟨t0, t1, t2, t3, t4, t5, t6, t7, t8, t9, ta, tb, tc, td, te, tf, hts⟩ := lst16 (tagL_len ks ns az (ds.take m))
      have hrg : w'.rangeAt b (o + m) (u8s [x0, x1, x2, x3, x4, x5, x6, x7, x8, x9, xa, xb, xc, xd, xe, xf]) := by
        intro j v hj
        rw [← hxs] at hj
        have hj' : j < 16 := by
          rcases Nat.lt_or_ge j 16 with h | h
          · exact h
          · rw [List.getElem?_eq_none (by simp [hdl]; omega)] at hj; cases hj
        rw [Nat.add_assoc, hcc (m + j) (by omega)]
        simp only [List.getElem?_map, List.getElem?_drop, List.getElem?_eq_getElem (show m + j < ds.length by omega), Option.map_some, Option.some.injEq] at hj
        rw [← hj, List.getD_eq_getElem?_getD, List.getElem?_eq_getElem (show m + j < ds.length by omega)]; rfl
      have hbl : b < w'.heap.size := lt_of_cell (hcc 0 (by omega))
      rw [hxs, hts] at HOE
      have HTS := hid hts
      clear hcc hdl hxs hts
      have c0 : w'.cell? ⟨b, o + m, none⟩ = some (.int .u8 x0) := hrg 0 _ rfl
      have c1 : w'.cell? ⟨b, o + m + 1, none⟩ = some (.int .u8 x1) := hrg 1 _ rfl
      have c2 : w'.cell? ⟨b, o + m + 2, none⟩ = some (.int .u8 x2) := hrg 2 _ rfl
      have c3 : w'.cell? ⟨b, o + m + 3, none⟩ = some (.int .u8 x3) := hrg 3 _ rfl
      have c4 : w'.cell? ⟨b, o + m + 4, none⟩ = some (.int .u8 x4) := hrg 4 _ rfl
      have c5 : w'.cell? ⟨b, o + m + 5, none⟩ = some (.int .u8 x5) := hrg 5 _ rfl
      have c6 : w'.cell? ⟨b, o + m + 6, none⟩ = some (.int .u8 x6) := hrg 6 _ rfl
      have c7 : w'.cell? ⟨b, o + m + 7, none⟩ = some (.int .u8 x7) := hrg 7 _ rfl
      have c8 : w'.cell? ⟨b, o + m + 8, none⟩ = some (.int .u8 x8) := hrg 8 _ rfl
      have c9 : w'.cell? ⟨b, o + m + 9, none⟩ = some (.int .u8 x9) := hrg 9 _ rfl
      have ca : w'.cell? ⟨b, o + m + 10, none⟩ = some (.int .u8 xa) := hrg 10 _ rfl
      have cb : w'.cell? ⟨b, o + m + 11, none⟩ = some (.int .u8 xb) := hrg 11 _ rfl
      have cc : w'.cell? ⟨b, o + m + 12, none⟩ = some (.int .u8 xc) := hrg 12 _ rfl
      have cd : w'.cell? ⟨b, o + m + 13, none⟩ = some (.int .u8 xd) := hrg 13 _ rfl
      have ce : w'.cell? ⟨b, o + m + 14, none⟩ = some (.int .u8 xe) := hrg 14 _ rfl
      have cf : w'.cell? ⟨b, o + m + 15, none⟩ = some (.int .u8 xf) := hrg 15 _ rfl
      have hml : (m : Int) ≤ ((m + 16 : Nat) : Int) := by omega
      have hml2 : (m : Int) ≤ (m : Int) + 16 := by omega
      have hA := arr_at b (o + m) (dc - m)
      have hu := Try.underlying90
      have hi24 : True := trivial
      go_region_with (go_at_call 54; refine (HTG.out ⟨some ⟨b, o, none⟩, m, dc⟩ (ds.take m) _ (HK.out.q (by repeat (first | assumption | exact Q.refl _ | apply Q.drew | apply Q.drewN))) (HN.out.q (by repeat (first | assumption | exact Q.refl _ | apply Q.drew | apply Q.drewN))) (HA.out.q (by repeat (first | assumption | exact Q.refl _ | apply Q.drew | apply Q.drewN))) (HM.out.q (by repeat (first | assumption | exact Q.refl _ | apply Q.drew | apply Q.drewN))) b1 b2 b3 (by show m ≤ _; omega)).mono ?_; rw [HTS.out]; rintro e w5 ⟨rfl, q5⟩; have k5 : Q w' w5 := Q.trans (by repeat (first | assumption | exact Q.refl _ | apply Q.drew | apply Q.drewN)) q5; clear q5; have e0 : w5.cell? ⟨b, o + m, none⟩ = some (.int .u8 x0) := (k5.cell (p := ⟨b, o + m, none⟩) hbl).trans c0; have e1 : w5.cell? ⟨b, o + m + 1, none⟩ = some (.int .u8 x1) := (k5.cell (p := ⟨b, o + m + 1, none⟩) hbl).trans c1; have e2 : w5.cell? ⟨b, o + m + 2, none⟩ = some (.int .u8 x2) := (k5.cell (p := ⟨b, o + m + 2, none⟩) hbl).trans c2; have e3 : w5.cell? ⟨b, o + m + 3, none⟩ = some (.int .u8 x3) := (k5.cell (p := ⟨b, o + m + 3, none⟩) hbl).trans c3; have e4 : w5.cell? ⟨b, o + m + 4, none⟩ = some (.int .u8 x4) := (k5.cell (p := ⟨b, o + m + 4, none⟩) hbl).trans c4; have e5 : w5.cell? ⟨b, o + m + 5, none⟩ = some (.int .u8 x5) := (k5.cell (p := ⟨b, o + m + 5, none⟩) hbl).trans c5; have e6 : w5.cell? ⟨b, o + m + 6, none⟩ = some (.int .u8 x6) := (k5.cell (p := ⟨b, o + m + 6, none⟩) hbl).trans c6; have e7 : w5.cell? ⟨b, o + m + 7, none⟩ = some (.int .u8 x7) := (k5.cell (p := ⟨b, o + m + 7, none⟩) hbl).trans c7; have e8 : w5.cell? ⟨b, o + m + 8, none⟩ = some (.int .u8 x8) := (k5.cell (p := ⟨b, o + m + 8, none⟩) hbl).trans c8; have e9 : w5.cell? ⟨b, o + m + 9, none⟩ = some (.int .u8 x9) := (k5.cell (p := ⟨b, o + m + 9, none⟩) hbl).trans c9; have ea : w5.cell? ⟨b, o + m + 10, none⟩ = some (.int .u8 xa) := (k5.cell (p := ⟨b, o + m + 10, none⟩) hbl).trans ca; have eb : w5.cell? ⟨b, o + m + 11, none⟩ = some (.int .u8 xb) := (k5.cell (p := ⟨b, o + m + 11, none⟩) hbl).trans cb; have ec : w5.cell? ⟨b, o + m + 12, none⟩ = some (.int .u8 xc) := (k5.cell (p := ⟨b, o + m + 12, none⟩) hbl).trans cc; have ed : w5.cell? ⟨b, o + m + 13, none⟩ = some (.int .u8 xd) := (k5.cell (p := ⟨b, o + m + 13, none⟩) hbl).trans cd; have ee : w5.cell? ⟨b, o + m + 14, none⟩ = some (.int .u8 xe) := (k5.cell (p := ⟨b, o + m + 14, none⟩) hbl).trans ce; have ef : w5.cell? ⟨b, o + m + 15, none⟩ = some (.int .u8 xf) := (k5.cell (p := ⟨b, o + m + 15, none⟩) hbl).trans cf)
      all_goals (
        clear c0 c1 c2 c3 c4 c5 c6 c7 c8 c9 ca cb cc cd ce cf e0 e1 e2 e3 e4 e5 e6 e7 e8 e9 ea eb ec ed ee ef
        clear hA hu hi24
        generalize hB : eq16 [t0, t1, t2, t3, t4, t5, t6, t7, t8, t9, ta, tb, tc, td, te, tf] [x0, x1, x2, x3, x4, x5, x6, x7, x8, x9, xa, xb, xc, xd, xe, xf] = B at *
        have HB := hid (show decide ([t0, t1, t2, t3, t4, t5, t6, t7, t8, t9, ta, tb, tc, td, te, tf] = [x0, x1, x2, x3, x4, x5, x6, x7, x8, x9, xa, xb, xc, xd, xe, xf]) = B from hB)
        clear hB
        cases B
        · have hoe : OE = 71 := by rw [HOE.out, if_neg (of_decide_eq_false HB.out)]
          have hor : OR = [] := by rw [HOR.out, if_neg (by rw [hoe]; decide)]
          subst hoe
          subst hor
          have K5 := hid k5
          clear k5
          go_wp2
          go_ret2
          exact ⟨nilS, rfl, K5.out, sub_nil _ _ _⟩
        · have hoe : OE = 0 := by rw [HOE.out, if_pos (of_decide_eq_true HB.out)]
          have hor : OR = ovl ks ns (ds.take m) := by rw [HOR.out, if_pos hoe]
          subst hoe
          subst hor
          have K5 := hid k5
          clear k5
          go_wp2_with fail
          refine (HOV.out ⟨some ⟨b, o, none⟩, m, dc⟩ (ds.take m) w5 (HK.out.q K5.out) (HN.out.q K5.out) (HM.out.q K5.out) b1 b2 (by show m ≤ _; omega)).mono ?_
          rintro e w6 ⟨x, rfl, q6, r6, n6⟩
          have K6 := hid (K5.out.trans q6)
          have R6 := hid r6
          clear q6 r6 n6
          go_wp2
          go_ret2
          exact ⟨x, rfl, K6.out, R6.out⟩
      )
  · have hoe : OE = E := by rw [HOE.out, if_pos hE]
    have hor : OR = [] := by rw [HOR.out, if_neg (by rw [hoe]; exact hE)]
    subst hoe
    subst hor
    have hne : (OE != 0) = true := by simp [hE]
    go_enter Try.func57, Try.ntmps57
    go_wp2_with (go_at_call 52; refine HC.out.mono ?_; rintro e w' ⟨rfl, rfl⟩)
    go_ret2
    exact ⟨nilS, rfl, Q.refl _, sub_nil _ _ _⟩
end Go.Proofs.Ytnnjogfpapndaaa
