/-
  The law on the pseudo fields' order, walked whole.
-/
import Derived.Test.YthefijjdffafkaaDoorOrM
import Derived.Test.YthefijjdffafkaaDoorSmF
import Derived.Deep.Cut
import Derived.BigRegion
namespace Go.Proofs.YthefijjdffafkaaDoor
open Go.RowKit
set_option linter.unusedVariables false
set_option maxRecDepth 100000

/-- A row of integers that came in. -/
def SegI (w : World) (a : Option Addr) (zs : List Int) : Prop := zs ≠ [] → ∃ g off, a = some ⟨g, off, none⟩ ∧ ∀ k z, zs[k]? = some z → w.cell? ⟨g, off + k, none⟩ = some (.int .i64 z)
theorem SegI.q {w w' : World} {a : Option Addr} {zs : List Int} (h : SegI w a zs) (k : Q w w') : SegI w' a zs := by
  intro hne
  obtain ⟨g, off, ha, hc⟩ := h hne
  exact ⟨g, off, ha, fun j v hj => by have := hc j v hj; rw [k.cell (lt_of_cell this)]; exact this⟩
theorem RowG.cells {w : World} {g n c : Nat} {l : List Fd} (h : RowG w ⟨some ⟨g, 0, none⟩, n, c⟩ l) {k : Nat} (hk : k < n) : (∃ v, w.cell? ⟨g, k * 2, none⟩ = some v) ∧ (∃ v, w.cell? ⟨g, k * 2 + 1, none⟩ = some v) ∧ ∀ j, w.frozen? ⟨g, j, none⟩ = false := by
  obtain ⟨g', off', ha, hf, hc⟩ := Sub.some_ h (by show 0 < n; omega)
  cases ha
  have hl := h.1
  have h1 : k * 2 < (l.flatMap fcl).length := by rw [hl]; show k * 2 < n * 2; omega
  have h2 : k * 2 + 1 < (l.flatMap fcl).length := by rw [hl]; show k * 2 + 1 < n * 2; omega
  have e1 := hc _ _ (List.getElem?_eq_getElem h1)
  have e2 := hc _ _ (List.getElem?_eq_getElem h2)
  rw [Nat.zero_add] at e1 e2
  exact ⟨⟨_, e1⟩, ⟨_, e2⟩, hf⟩
set_option maxHeartbeats 16000000 in
theorem orders_walk (x y : Sv) (l : List Fd) (zs : List Int) (w : World) (h : Fin w x l) (hln : l.length ≤ 4398046510976) (hy : SegI w y.a zs) (hz : zs.length = y.n) (hzb : zs.length ≤ 17592186044416) : Calls Tryd.prog 5 #[.slice x.a x.n x.c, .slice y.a y.n y.c] w fun e w' => e = .returned (.bool true) ∧ Q w w' := by
  obtain ⟨xa, xn, xc⟩ := x
  obtain ⟨ya, yn, yc⟩ := y
  have hl := h.len
  dsimp only at hl hy hz
  subst hl
  subst hz
  have HLN := hid hln
  have HYS := hid hy
  have HZB := hid hzb
  have HCP := hid (fun W (q : Q w W) => copy_any ⟨xa, l.length, xc⟩ l W (h.q q))
  have HLI := hid line_any
  have HWD := hid wide_any
  have HAW := hid awake_any
  have HBD := hid h.d
  have HFA := hid (fun W (d : Sv) π (hp : π ∈ prm) (r : RowG W d (qL π ++ l)) => r.fin r.cap (by
    rw [List.length_append, show (qL π).length = 4 from by rw [qL, List.length_map]; exact prm_len π hp]; omega) (bd_app (fun p hp' => by
      have hq : (qL π).Perm lineL := by rw [← qL_line]; exact (List.isPerm_iff.1 (prm_perm π hp)).map _
      have hm := hq.mem_iff.1 hp'
      simp [lineL] at hm
      rcases hm with rfl | rfl | rfl | rfl <;> decide) h.d))
  have HCK := hid (fun (d : Sv) π (hp : π ∈ prm) W (r : RowG W d (qL π ++ l)) => (by
    have := check_any d (qL π ++ l) 1048576 1073741824 W (HFA.out W d π hp r)
    unfold chV rqV at this
    rw [ord_chR hp, (ord_all hp l 1048576 1073741824).1] at this
    exact this : Calls Tryd.prog 6 #[.slice d.a d.n d.c, .agg #[.int .i64 1048576, .int .i64 1073741824]] W fun e w' => ∃ y : Sv, e = .returned (.tuple #[.agg (rqC (chR (lineL ++ l) 1048576 1073741824).m (chR (lineL ++ l) 1048576 1073741824).s (chR (lineL ++ l) 1048576 1073741824).a (chR (lineL ++ l) 1048576 1073741824).p y (chR (lineL ++ l) 1048576 1073741824).len), .int .i64 (chE (lineL ++ l) 1048576 1073741824)]) ∧ Q W w' ∧ RowG w' y (chR (lineL ++ l) 1048576 1073741824).fs ∧ New W.heap.size y))
  have hfl : (chR (lineL ++ l) 1048576 1073741824).fs.length ≤ 4398046511104 := by
    have h1 : (chR (lineL ++ l) 1048576 1073741824).fs.length ≤ (lineL ++ l).length := by
      unfold chR
      by_cases hh : chE (lineL ++ l) 1048576 1073741824 = 0
      · rw [if_pos hh]; exact pln_len _
      · rw [if_neg hh]; exact Nat.zero_le _
    rw [List.length_append] at h1
    have h2 : lineL.length = 4 := rfl
    omega
  have HRS := hid (fun (x y : Sv) W (hx : RowG W x (chR (lineL ++ l) 1048576 1073741824).fs) (hy : RowG W y (chR (lineL ++ l) 1048576 1073741824).fs) => (by have := req_same (chR (lineL ++ l) 1048576 1073741824) x y W hx hy hfl; unfold rqV at this; exact this : Calls Tryd.prog 9 #[.agg (rqC (chR (lineL ++ l) 1048576 1073741824).m (chR (lineL ++ l) 1048576 1073741824).s (chR (lineL ++ l) 1048576 1073741824).a (chR (lineL ++ l) 1048576 1073741824).p x (chR (lineL ++ l) 1048576 1073741824).len), .agg (rqC (chR (lineL ++ l) 1048576 1073741824).m (chR (lineL ++ l) 1048576 1073741824).s (chR (lineL ++ l) 1048576 1073741824).a (chR (lineL ++ l) 1048576 1073741824).p y (chR (lineL ++ l) 1048576 1073741824).len)] W fun e w' => e = .returned (.bool true) ∧ Q W w'))
  dsimp only at HCP
  clear h hfl hln hy hzb
  generalize (chR (lineL ++ l) 1048576 1073741824).m = m at *
  generalize (chR (lineL ++ l) 1048576 1073741824).s = sc at *
  generalize (chR (lineL ++ l) 1048576 1073741824).a = au at *
  generalize (chR (lineL ++ l) 1048576 1073741824).p = pa at *
  generalize (chR (lineL ++ l) 1048576 1073741824).len = ln at *
  generalize (chR (lineL ++ l) 1048576 1073741824).fs = fs at *
  generalize chE (lineL ++ l) 1048576 1073741824 = E at *
  have hEE : (E == E) = true := by simp
  go_enter Tryd.func5, Tryd.ntmps5
  go_wp2_with fail
  refine (HLI.out w).mono ?_
  rintro e w1 ⟨rfl, q1, _, r1⟩
  generalize hg : w.heap.size = g0 at r1 ⊢
  have HG := hid (show w.heap.size ≤ g0 from by omega)
  have Q1 := hid q1
  have R1 := hid r1
  clear q1 r1 hg
  go_wp2_with fail
  go_loopw [15] (fun i wr => ∃ (j : Nat) (π : List Nat), j ≤ zs.length ∧ i = .int .i64 (j : Int) ∧ π ∈ prm ∧ RowG wr ⟨some ⟨g0, 0, none⟩, 4, 4⟩ (qL π) ∧ Q w wr) (fun i _ => zs.length - (intOf i).toNat)
  case atStart => exact ⟨0, [0, 1, 2, 3], by omega, rfl, by decide +kernel, R1.out, Q1.out⟩
  case round =>
    obtain ⟨j, π, hj, rfl, hp, hr, hq⟩ := hrel
    have HP := hid hp
    have HR := hid hr
    have HQ := hid hq
    by_cases hlt : j < zs.length
    · obtain ⟨gy, off, ha, hc⟩ := HYS.out.q hq (by intro e; subst e; simp at hlt)
      subst ha
      have hzj := List.getElem?_eq_getElem hlt
      generalize zs[j]'hlt = z at hzj
      have cz := hc j z hzj
      have hji : (j : Int) < (zs.length : Int) := by omega
      have hj0 : (0 : Int) ≤ (j : Int) := by omega
      have hjb : (j : Int) < 35184372088832 := by have := HZB.out; omega
      clear hc hzj hp hr hq
      by_cases hz0 : 0 ≤ z
      · obtain ⟨b, rfl⟩ : ∃ b : Nat, z = (b : Int) := ⟨z.toNat, by omega⟩
        by_cases hz4 : b < 4
        · have hb4 : (b : Int) < 4 := by omega
          obtain ⟨a, hdd⟩ : ∃ a, a = j % 4 := ⟨_, rfl⟩
          have ha4 : a < 4 := by omega
          have hrem : (j : Int) % 4 = (a : Int) := by omega
          have ha0 : (0 : Int) ≤ (a : Int) := by omega
          have hai : (a : Int) < 4 := by omega
          have hlen : (qL π).length = 4 := by rw [qL, List.length_map]; exact prm_len π HP.out
          have hpa : (qL π)[a]? = some ((qL π)[a]'(by omega)) := List.getElem?_eq_getElem _
          have hpb : (qL π)[b]? = some ((qL π)[b]'(by omega)) := List.getElem?_eq_getElem _
          have HSW := hid (qL_set (prm_len π HP.out) ha4 hz4)
          have HSP := hid (swp_in π HP.out a ha4 b hz4)
          generalize hxa : (qL π)[a]'(by omega) = fa at hpa HSW
          generalize hxb : (qL π)[b]'(by omega) = fb at hpb HSW
          clear hxa hxb
          obtain ⟨n1, v1⟩ := fa
          obtain ⟨n2, v2⟩ := fb
          obtain ⟨_, _, e1, ca0, ca1⟩ := HR.out.get hpa
          cases e1
          obtain ⟨_, _, e2, cb0, cb1⟩ := HR.out.get hpb
          cases e2
          rw [Nat.zero_add] at ca0 ca1 cb0 cb1
          dsimp only at ca0 ca1 cb0 cb1
          have fz := (HR.out.cells ha4).2.2
          have RW1 := HR.out.put ha4 (n2, v2)
          have RW2 := RW1.put hz4 (n1, v1)
          simp only [Nat.zero_add] at RW1 RW2
          obtain ⟨⟨u0, hu0⟩, ⟨u1, hu1⟩, fz1⟩ := RW1.cells hz4
          have fza0 := fz (a * 2)
          have fza1 := fz (a * 2 + 1)
          have fzb0 := fz (b * 2)
          have fzb1 := fz (b * 2 + 1)
          have cA1 : (wr.setCell ⟨g0, a * 2, none⟩ (.string n2)).cell? ⟨g0, a * 2 + 1, none⟩ = some (.string v1) :=
            (World.cell?_setCell_other _ _ _ _ (by intro e; have := congrArg Addr.off e; simp at this)).trans ca1
          have cB1 : (((wr.setCell ⟨g0, a * 2, none⟩ (.string n2)).setCell ⟨g0, a * 2 + 1, none⟩ (.string v2)).setCell ⟨g0, b * 2, none⟩ (.string n1)).cell? ⟨g0, b * 2 + 1, none⟩ = some u1 :=
            (World.cell?_setCell_other _ _ _ _ (by intro e; have := congrArg Addr.off e; simp at this)).trans hu1
          have HN := hid (show RowG ((((wr.setCell ⟨g0, a * 2, none⟩ (.string n2)).setCell ⟨g0, a * 2 + 1, none⟩ (.string v2)).setCell ⟨g0, b * 2, none⟩ (.string n1)).setCell ⟨g0, b * 2 + 1, none⟩ (.string v1)) ⟨some ⟨g0, 0, none⟩, 4, 4⟩ (qL (swp π a b)) from by rw [← HSW.out]; exact RW2)
          have HQN := hid (show Q w ((((wr.setCell ⟨g0, a * 2, none⟩ (.string n2)).setCell ⟨g0, a * 2 + 1, none⟩ (.string v2)).setCell ⟨g0, b * 2, none⟩ (.string n1)).setCell ⟨g0, b * 2 + 1, none⟩ (.string v1)) from
            (((HQ.out.setCell (p := ⟨g0, a * 2, none⟩) HG.out _).setCell (p := ⟨g0, a * 2 + 1, none⟩) HG.out _).setCell (p := ⟨g0, b * 2, none⟩) HG.out _).setCell (p := ⟨g0, b * 2 + 1, none⟩) HG.out _)
          clear hdd hpa hpb hlen fz fz1 RW1 RW2 HSW
          go_wp2_with fail
          go_region
          all_goals
            go_wp2_with fail
            go_roundw
            case rel => exact ⟨j + 1, swp π a b, by omega, by go_num, HSP.out, by first | exact HN.out | exact HN.out.q (Q.refl _).drew, by first | exact HQN.out | exact HQN.out.drew⟩
            case measure => simp [intOf]; omega
        · have hb4 : ¬ (b : Int) < 4 := by omega
          go_wp2_with fail
          go_roundw
          case rel => exact ⟨j + 1, π, by omega, by go_num, HP.out, HR.out, HQ.out⟩
          case measure => simp [intOf]; omega
      · go_wp2_with fail
        go_roundw
        case rel => exact ⟨j + 1, π, by omega, by go_num, HP.out, HR.out, HQ.out⟩
        case measure => simp [intOf]; omega
    · have hji : ¬ (j : Int) < (zs.length : Int) := by omega
      clear hp hr hq HYS HZB
      go_wp2_with fail
      refine (HCP.out wr HQ.out).mono ?_
      rintro e w3 ⟨g1, rfl, q3, r3, n3⟩
      obtain ⟨⟨da, dn, dc⟩, w4, hrun, hrow, hkp, hbb⟩ := rowG_app (HR.out.q q3) r3 (by show 4 + l.length ≤ _; have := HLN.out; omega)
      have Q4 := hid (show Q w w4 from hkp.below (HQ.out.trans q3) (Below.size (HQ.out.trans q3)) (fun i e => by cases e; exact HG.out))
      have R4 := hid hrow
      dsimp only at hrun
      clear q3 r3 n3 hrow hkp hbb HR HQ
      go_wp2_with (at_builtin; refine Lib.wpList_append_run _ rfl _ _ _ _ rfl _ _ rfl rfl _ _ hrun ?_; refine Hid.out ?_)
      refine hid ?_
      clear hrun
      go_wp2_with fail
      refine (HWD.out w4).mono ?_
      rintro e w5 ⟨rfl, q5⟩
      have Q5 := hid (Q4.out.trans q5)
      have R5 := hid (R4.out.q q5)
      clear q5 Q4 R4
      go_wp2_with fail
      refine (HCK.out ⟨da, dn, dc⟩ π HP.out w5 R5.out).mono ?_
      rintro e w6 ⟨⟨ua, un, uc⟩, rfl, q6, ru, nu⟩
      have q7 : Q w6 (w6.alloc (.cells (rqC m sc au pa ⟨ua, un, uc⟩ ln) 24)) := (Q.refl w6).alloc _
      have Q7 := hid ((Q5.out.trans q6).trans q7)
      have U7 := hid (ru.q q7)
      have B7 := hid (show Blk (w6.alloc (.cells (rqC m sc au pa ⟨ua, un, uc⟩ ln) 24)) w6.heap.size 24 (rqC m sc au pa ⟨ua, un, uc⟩ ln) from blk_new w6 _ 24)
      clear q6 q7 ru nu Q5 R5
      go_upto_region 9 with fail
      generalize hW : World.alloc w6 _ = W7 at *
      clear hW
      generalize w6.heap.size = b7 at *
      go_wp2_with fail
      refine (HLI.out W7).mono ?_
      rintro e w8 ⟨rfl, q8, _, r8⟩
      have Q8 := hid (Q7.out.trans q8)
      have HG2 := hid (show w.heap.size ≤ W7.heap.size from Below.size Q7.out)
      have R8 := hid r8
      have U8 := hid (U7.out.q q8)
      have B8 := hid (B7.out.q q8)
      have HB7 := hid B7.out.lt
      have HU7 := hid U7.out.lt
      clear q8 r8 Q7 U7 B7
      go_wp2_with fail
      refine (HCP.out w8 Q8.out).mono ?_
      rintro e w9 ⟨g2, rfl, q9, r9, n9⟩
      obtain ⟨⟨ea, en, ec⟩, w10, hrun, hrow, hkp, hbb⟩ := rowG_app (R8.out.q q9) r9 (by show 4 + l.length ≤ _; have := HLN.out; omega)
      have Q10 := hid (show Q w w10 from hkp.below (Q8.out.trans q9) (Below.size (Q8.out.trans q9)) (fun i e => by cases e; exact HG2.out))
      have R10 := hid (show RowG w10 ⟨ea, en, ec⟩ (qL [0, 1, 2, 3] ++ l) from hrow)
      have U10 := hid (show RowG w10 ⟨ua, un, uc⟩ fs from Sub.keep (U8.out.q q9) hkp (fun b e h => by have h1 := HU7.out b e; have h2 : W7.heap.size = b := Option.some.inj h; omega))
      have B10 := hid (show Blk w10 b7 24 (rqC m sc au pa ⟨ua, un, uc⟩ ln) from (B8.out.q q9).keep hkp (fun h => by have h1 := HB7.out; have h2 : W7.heap.size = b7 := Option.some.inj h; omega))
      dsimp only at hrun
      clear q9 r9 n9 hrow hkp hbb R8 U8 B8 HB7 HU7 Q8 HCP
      go_wp2_with (at_builtin; refine Lib.wpList_append_run _ rfl _ _ _ _ rfl _ _ rfl rfl _ _ hrun ?_; refine Hid.out ?_)
      refine hid ?_
      clear hrun
      go_wp2_with fail
      refine (HWD.out w10).mono ?_
      rintro e w11 ⟨rfl, q11⟩
      have Q11 := hid (Q10.out.trans q11)
      have R11 := hid (R10.out.q q11)
      have U11 := hid (U10.out.q q11)
      have B11 := hid (B10.out.q q11)
      clear q11 Q10 R10 U10 B10
      go_wp2_with fail
      refine (HCK.out ⟨ea, en, ec⟩ [0, 1, 2, 3] (by decide +kernel) w11 R11.out).mono ?_
      rintro e w12 ⟨⟨va, vn, vc⟩, rfl, q12, rv, nv⟩
      have q13 : Q w12 (w12.alloc (.cells (rqC m sc au pa ⟨va, vn, vc⟩ ln) 24)) := (Q.refl w12).alloc _
      have Q13 := hid ((Q11.out.trans q12).trans q13)
      have V13 := hid (rv.q q13)
      have U13 := hid ((U11.out.q q12).q q13)
      have B13 := hid ((B11.out.q q12).q q13)
      have D13 := hid (show Blk (w12.alloc (.cells (rqC m sc au pa ⟨va, vn, vc⟩ ln) 24)) w12.heap.size 24 (rqC m sc au pa ⟨va, vn, vc⟩ ln) from blk_new w12 _ 24)
      clear q12 q13 rv nv Q11 R11 U11 B11 HCK
      go_upto_region 10 with fail
      generalize hW : World.alloc w12 _ = W13 at *
      clear hW
      generalize w12.heap.size = b12 at *
      have d0 : W13.cell? ⟨b12, 0, none⟩ = some (.string m) := D13.out.cell 0
      have d1 : W13.cell? ⟨b12, 1, none⟩ = some (.string sc) := D13.out.cell 1
      have d2 : W13.cell? ⟨b12, 2, none⟩ = some (.string au) := D13.out.cell 2
      have d3 : W13.cell? ⟨b12, 3, none⟩ = some (.string pa) := D13.out.cell 3
      have d4 : W13.cell? ⟨b12, 4, none⟩ = some (.slice va vn vc) := D13.out.cell 4
      have d5 : W13.cell? ⟨b12, 5, none⟩ = some (.int .i64 ln) := D13.out.cell 5
      have b0 : W13.cell? ⟨b7, 0, none⟩ = some (.string m) := B13.out.cell 0
      have b1 : W13.cell? ⟨b7, 1, none⟩ = some (.string sc) := B13.out.cell 1
      have b2 : W13.cell? ⟨b7, 2, none⟩ = some (.string au) := B13.out.cell 2
      have b3 : W13.cell? ⟨b7, 3, none⟩ = some (.string pa) := B13.out.cell 3
      have b4 : W13.cell? ⟨b7, 4, none⟩ = some (.slice ua un uc) := B13.out.cell 4
      have b5 : W13.cell? ⟨b7, 5, none⟩ = some (.int .i64 ln) := B13.out.cell 5
      go_wp2_with (first
        | (go_at_call 9; refine (HRS.out ⟨ua, un, uc⟩ ⟨va, vn, vc⟩ _ U13.out V13.out).mono ?_; rintro e w14 ⟨rfl, q14⟩; have Q14 := hid (Q13.out.trans q14); clear q14)
        | (go_at_call 10; refine (HAW.out _).mono ?_; rintro e w15 ⟨rfl, q15⟩; have Q15 := hid (Q14.out.trans q15); clear q15))
      go_ret
      exact ⟨rfl, Q15.out⟩
end Go.Proofs.YthefijjdffafkaaDoor
