/-
  The law on one field more, walked whole.
-/
import Derived.Test.YthefijjdffafkaaDoorSpM
import Derived.Test.YthefijjdffafkaaDoorDoB
import Derived.Test.YthefijjdffafkaaDoorSmF
import Derived.Deep.Cut
namespace Go.Proofs.YthefijjdffafkaaDoor
open Go.RowKit
set_option linter.unusedVariables false
set_option maxRecDepth 100000

theorem chk_some (x : Sv) (l : List Fd) (c s E : Int) (w : World) (h : Fin w x l) (hE : chE l c s = E) : Calls Tryd.prog 6 #[.slice x.a x.n x.c, .agg #[.int .i64 c, .int .i64 s]] w fun e w' => ∃ (m s a p : ByteArray) (y : Sv) (n : Int), e = .returned (.tuple #[.agg (rqC m s a p y n), .int .i64 E]) ∧ Q w w' := by
  refine (check_any x l c s w h).mono ?_
  rintro e w' ⟨y, rfl, q, _, _⟩
  subst hE
  exact ⟨(chR l c s).m, (chR l c s).s, (chR l c s).a, (chR l c s).p, y, (chR l c s).len, rfl, q⟩
theorem spoilt_muc (l : List Fd) (k : Nat) (p : Fd) (hn : l.length ≤ 65536) (hz : wsz (lineL ++ l) ≤ 268435456) (hp : 32 + p.1.size + p.2.size ≤ 268435456) (h0 : chE (lineL ++ l) 1048576 1073741824 = 0) (hk : k ≤ l.length) : muc (lineL ++ l.take k ++ [p] ++ l.drop k) 1048576 1073741824 = false := by
  obtain ⟨hm, _⟩ := orE_zero h0
  have hmu : muc (lineL ++ l) 1048576 1073741824 = false := by
    cases hh : muc (lineL ++ l) 1048576 1073741824 with
    | false => rfl
    | true => rw [hh] at hm; simp at hm
  unfold muc at hmu ⊢
  rw [Bool.or_eq_false_iff, decide_eq_false_iff_not, decide_eq_false_iff_not] at hmu
  rw [sizS_wrap] at hmu ⊢
  have hlen : (lineL ++ l).length = 4 + l.length := by rw [List.length_append]; rfl
  have hlw : (lineL ++ l.take k ++ [p] ++ l.drop k).length = 5 + l.length := by
    simp only [List.length_append, List.length_take, List.length_drop, List.length_cons, List.length_nil]
    have : lineL.length = 4 := rfl
    omega
  have ht : tot (lineL ++ l.take k ++ [p] ++ l.drop k) = tot (lineL ++ l) + (p.1.size + p.2.size) := by
    have e1 : tot l = tot (l.take k) + tot (l.drop k) := by rw [← tot_app, List.take_append_drop]
    simp only [tot_app, e1]
    have : tot [p] = p.1.size + p.2.size := by simp [tot]
    omega
  unfold wsz at hz
  rw [hlen] at hz
  rw [hlw, ht]
  obtain ⟨_, hs⟩ := hmu
  generalize tot (lineL ++ l) = T at *
  have h1 : -9223372036854775808 ≤ RowKit.wrap64 (T : Int) := by unfold RowKit.wrap64; omega
  rw [← wrap_add] at hz
  have h2 : RowKit.wrap64 (((T + (p.1.size + p.2.size) : Nat) : Int)) = RowKit.wrap64 (RowKit.wrap64 (T : Int) + ((p.1.size + p.2.size : Nat) : Int)) := by rw [wrap_add]; congr 1
  rw [h2]
  generalize RowKit.wrap64 (T : Int) = t at *
  rw [wrap_id (by omega) (by omega)] at hz
  rw [wrap_id (by omega) (by omega)]
  rw [decide_eq_false (by omega), decide_eq_false (by omega)]
  rfl
theorem cut_eq (l : List Fd) (k t : Nat) (p : Fd) (ht : t = 4 + k) : [] ++ (lineL ++ l).take t ++ [p] ++ (lineL ++ l).drop t = lineL ++ l.take k ++ [p] ++ l.drop k := by
  have h : t = lineL.length + k := ht
  rw [h, List.take_length_add_append, List.drop_length_add_append, List.nil_append]
theorem cut_bd (l : List Fd) (k : Nat) (p : Fd) (h : BdF (lineL ++ l)) (hp : p.1.size ≤ 140737488355328 ∧ p.2.size ≤ 140737488355328) : BdF (lineL ++ l.take k ++ [p] ++ l.drop k) := by
  intro q hq
  simp only [List.mem_append, List.mem_singleton] at hq
  rcases hq with ((hq | hq) | rfl) | hq
  · exact h q (List.mem_append_left _ hq)
  · exact h q (List.mem_append_right _ (List.mem_of_mem_take hq))
  · exact hp
  · exact h q (List.mem_append_right _ (List.mem_of_mem_drop hq))
theorem rowG_nil (w : World) : RowG w ⟨none, 0, 0⟩ [] := ⟨rfl, .inl ⟨rfl, rfl, rfl⟩⟩
set_option maxHeartbeats 40000000 in
theorem spoilt_walk (x : Sv) (l : List Fd) (at_ : Int) (p1 p2 : ByteArray) (w : World) (h : Fin w x l) (hln : l.length ≤ 4398046510976) (hs1 : p1.size ≤ 140737488355328) (hs2 : p2.size ≤ 140737488355328) (ha0 : -9223372036854775808 ≤ at_) (ha1 : at_ < 9223372036854775808) : Calls Tryd.prog 4 #[.slice x.a x.n x.c, .int .i64 at_, .agg #[.string p1, .string p2]] w fun e w' => e = .returned (.bool true) ∧ Q w w' := by
  obtain ⟨xa, xn, xc⟩ := x
  have hl := h.len
  dsimp only at hl
  subst hl
  have HCP := hid (fun W (q : Q w W) => copy_any ⟨xa, l.length, xc⟩ l W (h.q q))
  have HLI := hid line_any
  have HWD := hid wide_any
  have HAW := hid awake_any
  have HBD := hid (show BdF (lineL ++ l) from bd_app (fun p hp => by
      simp [lineL] at hp
      rcases hp with rfl | rfl | rfl | rfl <;> decide) h.d)
  have HLL := hid (show (lineL ++ l).length = 4 + l.length from by rw [List.length_append]; rfl)
  have HS1 := hid hs1
  have HS2 := hid hs2
  have HLN := hid hln
  have HNM := hid (fun W => rname_any p1 W hs1)
  have HVL := hid (fun W => rvalue_any p2 W hs2)
  have HHP := hid (fun W => rhop_any p1 p2 W)
  have HQ0 := hid ((Q.refl w).alloc (.cells #[.string p1, .string p2] 37))
  have HM0 := hid (blk_new w #[.string p1, .string p2] 37)
  dsimp only at HCP
  clear h hs1 hs2 hln
  go_enter Tryd.func4, Tryd.ntmps4
  go_wp2_with fail
  generalize hW : World.alloc w _ = W0 at *
  clear hW
  generalize hbm : w.heap.size = bm at HM0 ⊢
  have HBM := hid hbm
  clear hbm
  refine (HLI.out W0).mono ?_
  rintro e w2 ⟨rfl, q2, _, r2⟩
  have Q2 := hid (HQ0.out.trans q2)
  have R2 := hid r2
  have M2 := hid (HM0.out.q q2)
  have LG := hid (show w.heap.size ≤ W0.heap.size ∧ bm < W0.heap.size from ⟨Below.size HQ0.out, HM0.out.lt⟩)
  clear q2 r2 HLI
  go_wp2_with fail
  refine (HCP.out w2 Q2.out).mono ?_
  rintro e w3 ⟨g1, rfl, q3, r3, n3⟩
  obtain ⟨⟨da, dn, dc⟩, w4, hrun, hrow, hkp, hbb⟩ := rowG_app (R2.out.q q3) r3 (by show 4 + l.length ≤ _; have := HLN.out; omega)
  have Q4 := hid (show Q w w4 from hkp.below (Q2.out.trans q3) (Below.size (Q2.out.trans q3)) (fun i e => by have h1 : W0.heap.size = i := Option.some.inj e; have h2 := LG.out.1; omega))
  have M4 := hid (show Blk w4 bm 37 #[.string p1, .string p2] from (M2.out.q q3).keep hkp (fun e => by have h1 : W0.heap.size = bm := Option.some.inj e; have h2 := LG.out.2; omega))
  have R4 := hid hrow
  dsimp only at hrun
  clear q3 r3 n3 hrow hkp hbb R2 M2 Q2 HCP
  go_wp2_with (at_builtin; refine Lib.wpList_append_run _ rfl _ _ _ _ rfl _ _ rfl rfl _ _ hrun ?_; refine Hid.out ?_)
  refine hid ?_
  clear hrun
  go_wp2_with fail
  refine (HWD.out w4).mono ?_
  rintro e w5 ⟨rfl, q5⟩
  have Q5 := hid (Q4.out.trans q5)
  have R5 := hid (R4.out.q q5)
  have M5 := hid (M4.out.q q5)
  clear q5 Q4 R4 M4
  have HFN := hid (fun W (r : RowG W ⟨da, dn, dc⟩ (lineL ++ l)) => r.fin r.cap (by rw [HLL.out]; have := HLN.out; omega) HBD.out)
  generalize hE : chE (lineL ++ l) 1048576 1073741824 = E
  have HE := hid hE
  clear hE
  go_wp2_with fail
  refine (chk_some ⟨da, dn, dc⟩ (lineL ++ l) 1048576 1073741824 E w5 (HFN.out _ R5.out) HE.out).mono ?_
  rintro e w6 ⟨m6, s6, a6, u6, y6, n6, rfl, q6⟩
  have q7 := q6.alloc (.cells (rqC m6 s6 a6 u6 y6 n6) 24)
  have Q7 := hid (Q5.out.trans q7)
  have R7 := hid (R5.out.q q7)
  have M7 := hid (M5.out.q q7)
  clear q6 q7 Q5 R5 M5
  go_upto_region 3 with fail
  generalize hW : World.alloc w6 _ = W7 at *
  clear hW
  have hdn : dn = 4 + l.length := by have h1 := R7.out.len; rw [HLL.out] at h1; exact h1.symm
  have HDN := hid hdn
  have HCAP := hid R7.out.cap
  dsimp only at HCAP
  have hlb : (l.length : Int) ≤ 4398046510976 := by have := HLN.out; omega
  by_cases hE0 : E = 0
  · subst hE0
    by_cases hat0 : at_ < 0
    · go_wp2_with (go_at_call 10; refine (HAW.out _).mono ?_; rintro e w99 ⟨rfl, q99⟩; have Q99 := hid (Q7.out.trans q99); clear q99)
      go_ret
      exact ⟨rfl, Q99.out⟩
    · obtain ⟨k, rfl⟩ : ∃ k : Nat, at_ = (k : Int) := ⟨at_.toNat, by omega⟩
      by_cases hkl : (l.length : Int) < (k : Int)
      · go_wp2_with (go_at_call 10; refine (HAW.out _).mono ?_; rintro e w99 ⟨rfl, q99⟩; have Q99 := hid (Q7.out.trans q99); clear q99)
        go_ret
        exact ⟨rfl, Q99.out⟩
      · by_cases hbig : (65536 : Int) < (l.length : Int)
        · go_wp2_with (go_at_call 10; refine (HAW.out _).mono ?_; rintro e w99 ⟨rfl, q99⟩; have Q99 := hid (Q7.out.trans q99); clear q99)
          go_ret
          exact ⟨rfl, Q99.out⟩
        · have HSZ := hid (sizes_any ⟨da, dn, dc⟩ (lineL ++ l) W7 (HFN.out _ R7.out))
          dsimp only at HSZ
          generalize hZ : wsz (lineL ++ l) = Z at HSZ
          have HZ := hid hZ
          clear hZ hdn
          go_wp2_with fail
          refine HSZ.out.mono ?_
          rintro e w8 ⟨rfl, q8⟩
          have Q8 := hid (Q7.out.trans q8)
          have R8 := hid (R7.out.q q8)
          have M8 := hid (M7.out.q q8)
          have m80 : w8.cell? ⟨bm, 0, none⟩ = some (.string p1) := M8.out.cell 0
          have m81 : w8.cell? ⟨bm, 1, none⟩ = some (.string p2) := M8.out.cell 1
          clear q8 Q7 R7 M7 HSZ
          by_cases hz : (268435456 : Int) < Z
          · go_wp2_with (go_at_call 10; refine (HAW.out _).mono ?_; rintro e w99 ⟨rfl, q99⟩; have Q99 := hid (Q8.out.trans q99); clear q99)
            go_ret
            exact ⟨rfl, Q99.out⟩
          · have q9 := (Q.refl w8).alloc (.cells #[.string p1, .string p2] 37)
            have B9 := blk_new w8 #[.string p1, .string p2] 37
            have HSZ := hid (show Calls Tryd.prog 14 #[.slice (some ⟨w8.heap.size, 0, none⟩) 1 1] (w8.alloc (.cells #[.string p1, .string p2] 37)) fun e w' => e = .returned (.int .i64 (wsz [(p1, p2)])) ∧ Q (w8.alloc (.cells #[.string p1, .string p2] 37)) w' from
              sizes_any ⟨some ⟨w8.heap.size, 0, none⟩, 1, 1⟩ [(p1, p2)] _ ⟨fun _ => ⟨w8.heap.size, 0, rfl, fun i q hi => by
                match i, hi with
                | 0, hi =>
                  cases hi
                  exact ⟨B9.cell 0, B9.cell 1⟩⟩, rfl, Nat.le_refl _, by show 1 ≤ _; omega, fun q hq => by
                  have : q = (p1, p2) := by simpa using hq
                  subst this
                  exact ⟨HS1.out, HS2.out⟩⟩)
            have hzz : wsz [(p1, p2)] = (32 : Int) + (p1.size : Int) + (p2.size : Int) := by
              have h1 := HS1.out
              have h2 := HS2.out
              unfold wsz
              rw [wrap_id (by simp [tot]; omega) (by simp [tot]; omega)]
              simp [tot]
              omega
            rw [hzz] at HSZ
            clear hzz
            generalize hzg : (32 : Int) + (p1.size : Int) + (p2.size : Int) = zp at HSZ
            have HZG := hid hzg
            clear hzg
            have Q9 := hid (Q8.out.trans q9)
            have R9 := hid (R8.out.q q9)
            have M9 := hid (M8.out.q q9)
            clear q9 B9
            have HDF := hid (decide_eq_false hz)
            go_wp2_with (simp only [])
            generalize hW : World.alloc w8 _ = W9 at *
            clear hW
            refine HSZ.out.mono ?_
            rintro e w10 ⟨rfl, q10⟩
            have Q10 := hid (Q9.out.trans q10)
            have R10 := hid (R9.out.q q10)
            have M10 := hid (M9.out.q q10)
            have m100 : w10.cell? ⟨bm, 0, none⟩ = some (.string p1) := M10.out.cell 0
            have m101 : w10.cell? ⟨bm, 1, none⟩ = some (.string p2) := M10.out.cell 1
            clear q10 Q8 R8 M8 Q9 R9 M9 HSZ m80 m81
            by_cases hzp : (268435456 : Int) < zp
            · go_wp2_with (go_at_call 10; refine (HAW.out _).mono ?_; rintro e w99 ⟨rfl, q99⟩; have Q99 := hid (Q10.out.trans q99); clear q99)
              go_ret
              exact ⟨rfl, Q99.out⟩
            · have HZP := hid hzp
              have HZN := hid hz
              have HBG := hid hbig
              have HKL := hid hkl
              have HDP := hid (decide_eq_false hzp)
              clear hzp hz
              go_upto_region 5 with (simp only [HDP.out])
              go_cut [10] from 53 (fun v wc => v = .bool (wrgS (p1, p2)) ∧ Q w10 wc)
              case first =>
                have hwr : wrgS (p1, p2) = (!nmS p1 || !vlS p2 || hopS (p1, p2)) := rfl
                have HWR := hid hwr
                clear hwr
                generalize nmS p1 = b1 at *
                generalize vlS p2 = b2 at *
                generalize hopS (p1, p2) = b3 at *
                have hs0 : Q w10 w10 := Q.refl _
                have HS0 := hid hs0
                clear hs0
                cases b1
                · go_wp2_with (go_at_call 15; refine (HNM.out _).mono ?_; rintro e w11 ⟨rfl, h11⟩; replace h11 := h11.symm; subst h11)
                  go_meet
                  case rel => exact ⟨by rw [HWR.out]; rfl, HS0.out⟩
                · cases b2
                  · go_wp2_with (first | (go_at_call 15; refine (HNM.out _).mono ?_; rintro e w11 ⟨rfl, h11⟩; replace h11 := h11.symm; subst h11) | (go_at_call 16; refine (HVL.out _).mono ?_; rintro e w12 ⟨rfl, h12⟩; replace h12 := h12.symm; subst h12))
                    go_meet
                    case rel => exact ⟨by rw [HWR.out]; rfl, HS0.out⟩
                  · go_wp2_with (first | (go_at_call 15; refine (HNM.out _).mono ?_; rintro e w11 ⟨rfl, h11⟩; replace h11 := h11.symm; subst h11) | (go_at_call 16; refine (HVL.out _).mono ?_; rintro e w12 ⟨rfl, h12⟩; replace h12 := h12.symm; subst h12) | (go_at_call 12; refine (HHP.out _).mono ?_; rintro e w13 ⟨rfl, q13⟩; have Q13 := hid q13; clear q13))
                    go_meet
                    case rel => exact ⟨by rw [HWR.out]; rfl, Q13.out⟩
              case rest =>
                obtain ⟨rfl, qc⟩ := hcut
                have QC := hid (Q10.out.trans qc)
                have RC := hid (R10.out.q qc)
                have MC := hid (M10.out.q qc)
                have mc0 : wc.cell? ⟨bm, 0, none⟩ = some (.string p1) := MC.out.cell 0
                have mc1 : wc.cell? ⟨bm, 1, none⟩ = some (.string p2) := MC.out.cell 1
                clear qc Q10 R10 M10 m100 m101 HNM HVL HHP
                have hh1 : (p1.toList == [99, 111, 110, 116, 101, 110, 116, 45, 108, 101, 110, 103, 116, 104]) = eqS p1 kLen := beq_lit p1 _
                have hh2 : (p1.toList == [104, 111, 115, 116]) = eqS p1 kHos := beq_lit p1 _
                cases hc1 : eqS p1 kLen with
                | true =>
                  rw [hc1] at hh1
                  go_wp2_with (go_at_call 10; refine (HAW.out _).mono ?_; rintro e w99 ⟨rfl, q99⟩; have Q99 := hid (QC.out.trans q99); clear q99)
                  go_ret
                  exact ⟨rfl, Q99.out⟩
                | false =>
                  rw [hc1] at hh1
                  cases hc2 : eqS p1 kHos with
                  | true =>
                    rw [hc2] at hh2
                    go_wp2_with (go_at_call 10; refine (HAW.out _).mono ?_; rintro e w99 ⟨rfl, q99⟩; have Q99 := hid (QC.out.trans q99); clear q99)
                    go_ret
                    exact ⟨rfl, Q99.out⟩
                  | false =>
                    rw [hc2] at hh2
                    have hkn : k ≤ l.length := by omega
                    have HMU := hid (spoilt_muc l k (p1, p2) (by omega) (by rw [HZ.out]; have := HZN.out; omega) (by have := HZP.out; have := HZG.out; show 32 + p1.size + p2.size ≤ _; omega) HE.out hkn)
                    have HWL := hid (spoilt_all (l.take k) (l.drop k) (p1, p2) 1048576 1073741824 hc1 hc2 (by rw [List.append_assoc, List.take_append_drop]; exact HE.out) HMU.out)
                    have HDC := hid (show 4 + k ≤ dn ∧ dn ≤ dc from ⟨by have := HDN.out; omega, HCAP.out⟩)
                    clear hc1 hc2 HMU
                    clear HZG HDF HZP HZN HDP
                    have HKB := hid (show (k : Int) ≤ 65536 ∧ k ≤ l.length from ⟨by omega, hkn⟩)
                    clear ha0 ha1 hat0 hkl hbig hlb hkn
                    obtain ⟨t, ht⟩ : ∃ t : Nat, t = 4 + k := ⟨_, rfl⟩
                    have HT := hid (show RowKit.wrap64 ((4 : Int) + (k : Int)) = (t : Int) from by have := HKB.out; rw [wrap_id (by omega) (by omega)]; omega)
                    have HTK := hid ht
                    have htn : t ≤ dn := by have := HDC.out; omega
                    have htc : t ≤ dc := by have := HDC.out; omega
                    have RT := hid (RC.out.take htn)
                    obtain ⟨⟨fa, fn, fc⟩, w11, hrun, hrow, hkp, hbb⟩ := rowG_app (d := ⟨none, 0, 0⟩) (l := []) (rowG_nil _) RT.out (by show 0 + t ≤ _; have := HKB.out; omega)
                    obtain ⟨q11, n11⟩ := new_step' rfl (Q.refl wc) (fun b hb => by cases hb) hkp hbb
                    have Q11 := hid q11
                    have N11 := hid n11
                    have R11 := hid hrow
                    have m110 : w11.cell? ⟨bm, 0, none⟩ = some (.string p1) := (MC.out.q q11).cell 0
                    have m111 : w11.cell? ⟨bm, 1, none⟩ = some (.string p2) := (MC.out.q q11).cell 1
                    clear q11 n11 hrow hkp hbb RT ht
                    have LF := R11.out.len
                    rw [List.nil_append, List.length_take] at LF
                    dsimp only at LF
                    obtain ⟨⟨ga, gn, gc⟩, w12, hrun2, hrow, hkp, hbb⟩ := rowG_one (p1, p2) R11.out (by show fn ≤ _; have := HKB.out; have := HTK.out; omega)
                    obtain ⟨q12, n12⟩ := new_step' rfl Q11.out N11.out hkp hbb
                    have Q12 := hid q12
                    have R12 := hid hrow
                    have RD := hid ((RC.out.q q12).drop htn _ rfl)
                    have LG2 := R12.out.len
                    rw [List.length_append, List.nil_append, List.length_take] at LG2
                    dsimp only [List.length_cons, List.length_nil] at LG2
                    clear hrow hkp hbb q12
                    obtain ⟨⟨ea, en, ec⟩, w13, hrun3, hrow, hkp, hbb⟩ := rowG_app R12.out RD.out (by show gn + (dn - t) ≤ _; have := HDN.out; have := HKB.out; have := HTK.out; have := HBG.out; omega)
                    obtain ⟨q13, n13⟩ := new_step' rfl Q12.out n12 hkp hbb
                    have Q13 := hid (QC.out.trans q13)
                    have R13 := hid (show RowG w13 ⟨ea, en, ec⟩ (lineL ++ l.take k ++ [(p1, p2)] ++ l.drop k) from by rw [← cut_eq l k t (p1, p2) HTK.out]; exact hrow)
                    clear hrow hkp hbb q13 n13 n12 LG2 LF RD R12 Q12 R11 Q11 N11
                    dsimp only at hrun hrun2 hrun3
                    have HR1 := hid hrun
                    have HR2 := hid hrun2
                    have HR3 := hid hrun3
                    clear hrun hrun2 hrun3
                    generalize hE2 : chE (lineL ++ l.take k ++ [(p1, p2)] ++ l.drop k) 1048576 1073741824 = E2 at HWL
                    have HE2 := hid hE2
                    have HFN2 := hid (fun W (r : RowG W ⟨ea, en, ec⟩ (lineL ++ l.take k ++ [(p1, p2)] ++ l.drop k)) => r.fin r.cap (by rw [← cut_eq l k t (p1, p2) HTK.out]; simp only [List.nil_append, List.length_append, List.length_take, List.length_drop, List.length_cons, List.length_nil]; have := HBG.out; have h4 : lineL.length = 4 := rfl; omega) (cut_bd l k (p1, p2) HBD.out ⟨HS1.out, HS2.out⟩))
                    clear hE2
                    generalize wrgS (p1, p2) = wb at *
                    go_upto_region 9 with fail
                    clear hh1 hh2 mc0 mc1 MC
                    have htc' : (t : Int) ≤ (dc : Int) := by omega
                    have htn' : (t : Int) ≤ (dn : Int) := by omega
                    have ht0 : (0 : Int) ≤ (t : Int) := by omega
                    have hdc' : (dn : Int) ≤ (dc : Int) := by have := HCAP.out; omega
                    go_wp2_with (first | simp only [HT.out] | (at_builtin; refine Lib.wpList_append_run _ rfl _ _ _ _ rfl _ _ rfl rfl _ _ HR1.out ?_; refine Hid.out ?_))
                    refine hid ?_
                    go_wp2_with (first | (at_builtin; refine Lib.wpList_append_run _ rfl _ _ _ _ rfl _ _ rfl rfl _ _ HR2.out ?_; refine Hid.out ?_))
                    refine hid ?_
                    clear m110 m111
                    go_wp2_with (first | simp only [HT.out] | (at_builtin; refine Lib.wpList_append_run _ rfl _ _ _ _ rfl _ _ rfl rfl _ _ HR3.out ?_; refine Hid.out ?_))
                    all_goals
                      refine hid ?_
                      clear htc' htn' ht0 hdc' HT HR1 HR2 HR3
                      go_wp2_with fail
                      refine (HWD.out w13).mono ?_
                      rintro e w14 ⟨rfl, q14⟩
                      have Q14 := hid (Q13.out.trans q14)
                      have R14 := hid (R13.out.q q14)
                      clear q14
                      go_wp2_with fail
                      refine (chk_some ⟨ea, en, ec⟩ _ 1048576 1073741824 E2 w14 (HFN2.out _ R14.out) HE2.out).mono ?_
                      rintro e w15 ⟨m8, s8, a8, u8, y8, n8, rfl, q15⟩
                      have q16 := q15.alloc (.cells (rqC m8 s8 a8 u8 y8 n8) 24)
                      have Q16 := hid (Q14.out.trans q16)
                      clear q15 q16 R14 Q14
                      go_upto_region 13 with fail
                      generalize hW : World.alloc w15 _ = W16 at *
                      clear hW
                      by_cases hE0 : E2 = 0
                      · have hw : wb = false := by
                          cases wb with
                          | false => rfl
                          | true => exact absurd hE0 (HWL.out.2 rfl)
                        subst hw
                        subst hE0
                        go_wp2_with (go_at_call 10; refine (HAW.out _).mono ?_; rintro e w99 ⟨rfl, q99⟩; have Q99 := hid (Q16.out.trans q99); clear q99)
                        go_ret
                        exact ⟨rfl, Q99.out⟩
                      · have hw : wb = true := HWL.out.1 hE0
                        subst hw
                        have hEb : (E2 != 0) = true := by simp [hE0]
                        go_wp2_with (go_at_call 10; refine (HAW.out _).mono ?_; rintro e w99 ⟨rfl, q99⟩; have Q99 := hid (Q16.out.trans q99); clear q99)
                        go_ret
                        exact ⟨rfl, Q99.out⟩
  · have hEb : (E != 0) = true := by simp [hE0]
    go_wp2_with (go_at_call 10; refine (HAW.out _).mono ?_; rintro e w99 ⟨rfl, q99⟩; have Q99 := hid (Q7.out.trans q99); clear q99)
    go_ret
    exact ⟨rfl, Q99.out⟩
end Go.Proofs.YthefijjdffafkaaDoor
