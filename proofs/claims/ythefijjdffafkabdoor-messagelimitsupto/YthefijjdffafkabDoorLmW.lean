/-
  The law on limits, walked whole.
-/
import Derived.Test.YthefijjdffafkabDoorLmM
import Derived.Deep.Cut
namespace Go.Proofs.YthefijjdffafkabDoor
open Go.RowKit
set_option linter.unusedVariables false
set_option maxRecDepth 100000

theorem chk_some (x : Sv) (l : List Fd) (c s E : Int) (w : World) (h : Fin w x l) (hE : chE l c s = E) : Calls Tryd.prog 8 #[.slice x.a x.n x.c, .agg #[.int .i64 c, .int .i64 s]] w fun e w' => ∃ (m s a p : ByteArray) (y : Sv) (n : Int), e = .returned (.tuple #[.agg (rqC m s a p y n), .int .i64 E]) ∧ Q w w' := by
  refine (check_any x l c s w h).mono ?_
  rintro e w' ⟨y, rfl, q, _, _⟩
  subst hE
  exact ⟨(chR l c s).m, (chR l c s).s, (chR l c s).a, (chR l c s).p, y, (chR l c s).len, rfl, q⟩
theorem muc_no {l : List Fd} {c s : Int} (h1 : (l.length : Int) ≤ c) (h2 : sizS l ≤ s) : muc l c s = false := by
  unfold muc
  rw [decide_eq_false (by omega), decide_eq_false (by omega)]; rfl
theorem muc_c {l : List Fd} {c s : Int} (h1 : c < (l.length : Int)) : muc l c s = true := by unfold muc; rw [decide_eq_true h1]; rfl
theorem muc_s {l : List Fd} {c s : Int} (h1 : s < sizS l) : muc l c s = true := by unfold muc; rw [decide_eq_true h1, Bool.or_true]
set_option maxHeartbeats 16000000 in
theorem limits_walk (x : Sv) (l : List Fd) (less : Int) (w : World) (h : Fin w x l) (hle : l.length ≤ 1048576) (ht : tot l ≤ 1048576) (hl0 : -9223372036854775808 ≤ less) (hl1 : less < 9223372036854775808) : Calls Tryd.prog 3 #[.slice x.a x.n x.c, .int .i64 less] w fun e w' => e = .returned (.bool true) ∧ Q w w' := by
  obtain ⟨xa, xn, xc⟩ := x
  have hl := h.len
  dsimp only at hl
  subst hl
  have HAW := hid awake_any
  have HX := hid h
  by_cases hbig : 65536 < l.length
  · have hb : (65536 : Int) < (l.length : Int) := by omega
    clear h ht hle
    go_enter Tryd.func3, Tryd.ntmps3
    go_wp2_with (go_at_call 5; refine (HAW.out _).mono ?_; rintro e w1 ⟨rfl, q1⟩; have Q1 := hid q1; clear q1)
    go_ret
    exact ⟨rfl, Q1.out⟩
  · have hb : ¬ (65536 : Int) < (l.length : Int) := by omega
    have HSZ := hid (sizes_any ⟨xa, l.length, xc⟩ l w h (by omega))
    have hz : ¬ (268435456 : Int) < (tot l : Int) + 32 * (l.length : Int) := by omega
    have HCP := hid (fun W (q : Q w W) => copy_any ⟨xa, l.length, xc⟩ l W (h.q q))
    have HLN := hid line_any
    have HWD := hid wide_any
    obtain ⟨LN, hLN⟩ : ∃ n, n = 4 + l.length := ⟨_, rfl⟩
    obtain ⟨T, hT⟩ : ∃ n, n = 42 + tot l := ⟨_, rfl⟩
    have hti : tot (lineL ++ l) = T := by rw [tot_app, tot_line, hT]
    have hli : (lineL ++ l).length = LN := by rw [List.length_append, hLN]; rfl
    have hsi : sizS (lineL ++ l) = (T : Int) := by rw [sizS_tot _ (by omega), hti]
    have HBD := hid (bd_app bd_line h.d)
    have hm1 : muc (lineL ++ l) 1048576 1073741824 = false := muc_no (by omega) (by rw [hsi]; omega)
    have hm2 : muc (lineL ++ l) (LN : Int) (T : Int) = false := muc_no (by omega) (by omega)
    have HE2 := hid (chE_free hm2 hm1)
    have HE3 := hid (fun (h1 : 1 ≤ less) => chE_muc (muc_c (l := lineL ++ l) (c := (LN : Int) - less) (s := (T : Int)) (by omega)))
    have HE4 := hid (fun (h1 : 1 ≤ less) => chE_muc (muc_s (l := lineL ++ l) (c := (LN : Int)) (s := (T : Int) - less) (by omega)))
    have HLI := hid hli
    have HTI := hid hti
    have HLE := hid (show l.length ≤ 1048576 ∧ LN = 4 + l.length from ⟨hle, hLN⟩)
    have HTL := hid (show tot l ≤ 1048576 ∧ T = 42 + tot l from ⟨ht, hT⟩)
    dsimp only at HSZ HCP
    clear h hbig hm1 hm2 hsi hti hli hle ht hLN hT
    go_enter Tryd.func3, Tryd.ntmps3
    go_wp2_with fail
    refine HSZ.out.mono ?_
    rintro e w1 ⟨rfl, q1⟩
    have Q1 := hid q1
    clear q1 HSZ
    go_wp2_with fail
    refine (HLN.out w1).mono ?_
    rintro e w2 ⟨rfl, q2, f2, r2⟩
    have Q2 := hid (Q1.out.trans q2)
    have R2 := hid r2
    have LG0 := hid (show w.heap.size ≤ w1.heap.size from Below.size Q1.out)
    clear q2 f2 r2 HLN hz
    go_wp2_with fail
    refine (HCP.out w2 Q2.out).mono ?_
    rintro e w3 ⟨g, rfl, q3, r3, n3⟩
    obtain ⟨⟨da, dn, dc⟩, w4, hrun, hrow, hkp, hbb⟩ := rowG_app (R2.out.q q3) r3 (by show 4 + l.length ≤ _; obtain ⟨_, _⟩ := HLE.out; omega)
    have Q4 := hid (show Q w w4 from hkp.below (Q2.out.trans q3) (Below.size (Q2.out.trans q3)) (fun i e => by cases e; exact LG0.out))
    have hdn : dn = LN := by have h1 := hrow.len; rw [HLI.out] at h1; exact h1.symm
    have F4 := hid (show Fin w4 ⟨da, dn, dc⟩ (lineL ++ l) from hrow.fin hrow.cap (by rw [HLI.out]; obtain ⟨_, _⟩ := HLE.out; omega) HBD.out)
    dsimp only at hrun
    clear q3 r3 n3 hrow hkp hbb R2 HCP Q2
    go_wp2_with (at_builtin; refine Lib.wpList_append_run _ rfl _ _ _ _ rfl _ _ rfl rfl _ _ hrun ?_; refine Hid.out ?_)
    refine hid ?_
    clear hrun
    replace hdn := hdn.symm
    subst hdn
    go_wp2_with fail
    refine (HWD.out w4).mono ?_
    rintro e w5 ⟨rfl, q5⟩
    have Q5 := hid (Q4.out.trans q5)
    have F5 := hid (F4.out.q q5)
    clear q5 HWD
    generalize hE : chE (lineL ++ l) 1048576 1073741824 = E
    have HC1 := hid (fun W (f : Fin W ⟨da, LN, dc⟩ (lineL ++ l)) => chk_some ⟨da, LN, dc⟩ (lineL ++ l) 1048576 1073741824 E W f hE)
    have HC2 := hid (fun W (f : Fin W ⟨da, LN, dc⟩ (lineL ++ l)) => chk_some ⟨da, LN, dc⟩ (lineL ++ l) (LN : Int) (T : Int) E W f (HE2.out.trans hE))
    have HC3 := hid (fun W (f : Fin W ⟨da, LN, dc⟩ (lineL ++ l)) (h1 : 1 ≤ less) => chk_some ⟨da, LN, dc⟩ (lineL ++ l) ((LN : Int) - less) (T : Int) 185 W f (HE3.out h1))
    have HC4 := hid (fun W (f : Fin W ⟨da, LN, dc⟩ (lineL ++ l)) (h1 : 1 ≤ less) => chk_some ⟨da, LN, dc⟩ (lineL ++ l) (LN : Int) ((T : Int) - less) 185 W f (HE4.out h1))
    have hEE : (E != E) = false := by simp
    dsimp only at HC1 HC2 HC3 HC4
    clear hE HE2 HE3 HE4
    go_wp2_with fail
    refine (HC1.out _ F5.out).mono ?_
    rintro e w6 ⟨m6, s6, a6, p6, y6, n6, rfl, q6⟩
    have Q7 := hid ((Q5.out.trans q6).alloc (.cells (rqC m6 s6 a6 p6 y6 n6) 28))
    have F7 := hid ((F5.out.q q6).q ((Q.refl w6).alloc (.cells (rqC m6 s6 a6 p6 y6 n6) 28)))
    clear q6 Q5 F5 HC1 Q4 F4
    go_upto_region 5 with fail
    generalize hW : World.alloc w6 _ = W7 at *
    clear hW
    go_wp2_with fail
    have HTL2 := hid HTL.out
    go_loopw [8, 38] (fun n i wr => ∃ k : Nat, k ≤ LN ∧ i = .int .i64 (k : Int) ∧ n = .int .i64 ((tot ((lineL ++ l).take k) : Nat) : Int) ∧ Q W7 wr) (fun _ i _ => LN - (intOf i).toNat)
    case atStart => exact ⟨0, by omega, rfl, rfl, Q.refl _⟩
    case round =>
      obtain ⟨k, hk, rfl, rfl, hq⟩ := hrel
      have HQ := hid hq
      by_cases hlt : k < LN
      · obtain ⟨g2, off, ⟨p1, p2⟩, ha, hp, c0, c1⟩ := (F7.out.q hq).s.at (show k < (lineL ++ l).length by rw [HLI.out]; exact hlt)
        dsimp only at ha
        subst ha
        dsimp only at c0 c1
        have hki : (k : Int) < (LN : Int) := by have := HLI.out; omega
        have hk0 : (0 : Int) ≤ (k : Int) := by omega
        have hkb : (k : Int) < 8796093022208 := by have := HLI.out; obtain ⟨_, _⟩ := HLE.out; omega
        have hts := tot_snoc hp
        have htk := tot_take (lineL ++ l) (k + 1)
        rw [HTI.out] at htk
        have HN := hid (show ((tot ((lineL ++ l).take (k + 1)) : Nat) : Int) = ((tot ((lineL ++ l).take k) : Nat) : Int) + ((p1.size : Int) + (p2.size : Int)) from by dsimp only at hts; omega)
        have hb1 : ((tot ((lineL ++ l).take k) : Nat) : Int) + ((p1.size : Int) + (p2.size : Int)) < 9223372036854775808 := by obtain ⟨_, _⟩ := HTL.out; dsimp only at hts; omega
        have hb0 : (0 : Int) ≤ ((tot ((lineL ++ l).take k) : Nat) : Int) := by omega
        have hb2 : (p1.size : Int) + (p2.size : Int) < 9223372036854775808 := by omega
        have q8 := hq.alloc (.cells #[.string p1, .string p2] 36)
        have Q8 := hid q8
        have hn1 : (0 : Int) ≤ (p1.size : Int) := by omega
        have hn2 : (0 : Int) ≤ (p2.size : Int) := by omega
        clear hq hp hts htk q8 hb
        generalize ((tot ((lineL ++ l).take k) : Nat) : Int) = T at *
        go_wp2_with fail
        go_roundw
        case rel => exact ⟨k + 1, by omega, by go_num, by first | (rw [HN.out]; done) | (rw [HN.out]; go_num), Q8.out⟩
        case measure => simp [intOf]; omega
      · have hki : ¬ (k : Int) < (LN : Int) := by have := HLI.out; omega
        have hTk : tot ((lineL ++ l).take k) = T := by rw [List.take_of_length_le (by rw [HLI.out]; omega), HTI.out]
        rw [hTk]
        have Q9 := hid (Q7.out.trans hq)
        have F9 := hid (F7.out.q hq)
        have hbl : (LN : Int) ≤ 1048580 := by obtain ⟨_, _⟩ := HLE.out; omega
        have hbt : (T : Int) ≤ 1048618 := by obtain ⟨_, _⟩ := HTL.out; omega
        have hbl0 : (0 : Int) ≤ (LN : Int) := by omega
        have hbt0 : (0 : Int) ≤ (T : Int) := by omega
        clear hq hTk hk hlt Q7 F7 HLI HTI HLE HTL HTL2 HQ HBD HX hb
        generalize (T : Int) = TI at *
        generalize hLL : (LN : Int) = LI at *
        go_wp2_with fail
        refine (HC2.out _ F9.out).mono ?_
        rintro e w10 ⟨m6, s6, a6, p6, y6, n6, rfl, q6⟩
        have Q10 := hid ((Q9.out.trans q6).alloc (.cells (rqC m6 s6 a6 p6 y6 n6) 28))
        have F10 := hid ((F9.out.q q6).q ((Q.refl w10).alloc (.cells (rqC m6 s6 a6 p6 y6 n6) 28)))
        clear q6 HC2
        go_upto_region 12 with fail
        generalize hW : World.alloc w10 _ = W10 at *
        clear hW
        by_cases h1 : 1 ≤ less
        · have e1 : ¬ less < 1 := by omega
          by_cases h2 : less ≤ 1000
          · have e2 : ¬ (1000 : Int) < less := by omega
            have b1 : -9223372036854775808 ≤ LI - less := by omega
            have b2 : LI - less < 9223372036854775808 := by omega
            have b3 : -9223372036854775808 ≤ TI - less := by omega
            have b4 : TI - less < 9223372036854775808 := by omega
            go_wp2_with fail
            refine (HC3.out _ F10.out h1).mono ?_
            rintro e w11 ⟨m7, s7, a7, p7, y7, n7, rfl, q7⟩
            have Q11 := hid ((Q10.out.trans q7).alloc (.cells (rqC m7 s7 a7 p7 y7 n7) 28))
            have F11 := hid ((F10.out.q q7).q ((Q.refl w11).alloc (.cells (rqC m7 s7 a7 p7 y7 n7) 28)))
            clear q7 HC3
            go_upto_region 17 with fail
            generalize hW : World.alloc w11 _ = W11 at *
            clear hW
            go_wp2_with fail
            refine (HC4.out _ F11.out h1).mono ?_
            rintro e w12 ⟨m8, s8, a8, p8, y8, n8, rfl, q8⟩
            have Q12 := hid ((Q11.out.trans q8).alloc (.cells (rqC m8 s8 a8 p8 y8 n8) 28))
            clear q8 HC4
            go_upto_region 18 with fail
            generalize hW : World.alloc w12 _ = W12 at *
            clear hW
            go_wp2_with (go_at_call 5; refine (HAW.out _).mono ?_; rintro e w13 ⟨rfl, q13⟩; have Q13 := hid (Q12.out.trans q13); clear q13)
            go_ret
            exact ⟨rfl, Q13.out⟩
          · have e2 : (1000 : Int) < less := by omega
            go_wp2_with (go_at_call 5; refine (HAW.out _).mono ?_; rintro e w13 ⟨rfl, q13⟩; have Q13 := hid (Q10.out.trans q13); clear q13)
            go_ret
            exact ⟨rfl, Q13.out⟩
        · have e1 : less < 1 := by omega
          go_wp2_with (go_at_call 5; refine (HAW.out _).mono ?_; rintro e w13 ⟨rfl, q13⟩; have Q13 := hid (Q10.out.trans q13); clear q13)
          go_ret
          exact ⟨rfl, Q13.out⟩
end Go.Proofs.YthefijjdffafkabDoor
