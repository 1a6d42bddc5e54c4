/-
  What the document's own Encode does: a contract that the statements' walks use.
-/
import Derived.Test.YtidbimhcebfjfaaRCk
import Derived.Test.YtidbimhcebfjfaaJnF
namespace Go.Proofs.Ytidbimhcebfjfaa
open Go.RowKit
set_option linter.unusedVariables false
set_option maxRecDepth 20000

/-- A parameter as the document writes it; all up to an id. -/
def parI (m : Pm) (i : Nat) : List Int := if kd i = 0 then [] else parB m i
def encI (m : Pm) : Nat → List Int
  | 0 => []
  | k + 1 => encI m k ++ parI m k
theorem encI_eq (m : Pm) : encI m 17 = encT m 16 := by
  have e1 : encI m 13 = encT m 13 := rfl
  have e2 : encI m 14 = encT m 13 := by show encI m 13 ++ [] = _; rw [List.append_nil, e1]
  show ((encI m 14 ++ parB m 14) ++ parB m 15) ++ parB m 16 = ((encT m 13 ++ parB m 14) ++ parB m 15) ++ parB m 16
  rw [e2]
theorem parI_len {m : Pm} {srv : Bool} (h : allR m srv = true) {i : Nat} : (parI m i).length ≤ 36 := by
  unfold parI
  by_cases hk : kd i = 0
  · rw [if_pos hk]; simp
  · rw [if_neg hk]
    obtain ⟨k, h1, e⟩ := kd_ids hk
    rw [← e]
    exact parB_len h h1
theorem encI_len {m : Pm} {srv : Bool} (h : allR m srv = true) : ∀ k, (encI m k).length ≤ 36 * k := by
  intro k
  induction k with
  | zero => simp [encI]
  | succ k ih => have := parI_len h (i := k); simp only [encI, List.length_append]; omega
theorem allR_i {m : Pm} {srv : Bool} (h : allR m srv = true) {i : Nat} (hk : kd i ≠ 0) : rgt m i srv = true := by
  obtain ⟨k, h1, e⟩ := kd_ids hk
  rw [← e]
  exact allR_at h h1
theorem bts_i {m : Pm} {srv : Bool} (h : allR m srv = true) {i : Nat} (hk : kd i ≠ 0) (ht : tld m i = true) : (bts m i).length ≤ 20 := by
  obtain ⟨k, h1, e⟩ := kd_ids hk
  rw [← e] at ht ⊢
  exact bts_len h h1 ht
theorem encI_told {m : Pm} {i : Nat} (hk : kd i ≠ 0) (ht : tld m i = true) : encI m (i + 1) = encI m i ++ (form (i : Int) ++ form ((bts m i).length : Int) ++ bts m i) := by
  show encI m i ++ parI m i = _
  unfold parI parB
  rw [if_neg hk, if_pos ht]
theorem encI_not {m : Pm} {i : Nat} (ht : kd i = 0 ∨ tld m i = false) : encI m (i + 1) = encI m i := by
  show encI m i ++ parI m i = _
  unfold parI parB
  rcases ht with h | h
  · rw [if_pos h, List.append_nil]
  · rw [h]
    by_cases hk : kd i = 0
    · rw [if_pos hk, List.append_nil]
    · rw [if_neg hk]; simp
theorem lo_ge (i : Nat) (h : kd i = 1) : 0 ≤ lo i := by
  unfold lo
  repeat' split
  all_goals omega
theorem hi_le (i : Nat) (h : kd i = 1) : hi i ≤ 4611686018427387903 := by
  unfold hi
  repeat' split
  all_goals omega
theorem kd_f4 {k : Nat} (h : kd k = 4) : k = 12 := by
  unfold kd at h
  by_cases h3 : k = 12
  · exact h3
  · exfalso
    by_cases h1 : k = 0 ∨ k = 2 ∨ k = 16
    · rw [if_pos h1] at h; omega
    · by_cases h2 : k = 15
      · rw [if_neg h1, if_pos h2] at h; omega
      · rw [if_neg h1, if_neg h2, if_neg h3] at h
        by_cases h4 : k = 13 ∨ 16 < k
        · rw [if_pos h4] at h; omega
        · rw [if_neg h4] at h; omega
/-- How far Encode has come. -/
def RnR (w : World) (ab ub : Nat) (m : Pm) (s : Nat → Sv) (k : Nat) (x : Sv) (wr : World) : Prop :=
  k ≤ 17 ∧ Q w wr ∧ RB wr ab (rc m s) ∧ RB wr ub (rc usM (fun _ => nilS)) ∧ Seg wr x.a (encI m k) ∧ (encI m k).length = x.n
set_option maxHeartbeats 16000000 in
theorem rencode_any (m : Pm) (s : Nat → Sv) (srv : Bool) (w : World) (hb : By w m s) :
    Calls Try.prog 11 #[.agg (rc m s), .bool srv] w fun e w' => ∃ x : Sv, e = .returned (.tuple #[.slice x.a x.n x.c, .int .i64 (chkE m srv)]) ∧ Q w w' ∧ Seg w' x.a (encB m srv) ∧ (encB m srv).length = x.n := by
  have HBY := hid hb
  have HC := hid (fun (W : World) => rcheck_any m s srv W hb.len)
  clear hb
  have HU := hid rusual_any
  cases hr : allR m srv with
  | false =>
    rw [chkE_no hr] at HC
    have HE := hid (chkE_no hr)
    have HB := hid (show encB m srv = [] from by unfold encB; rw [hr]; rfl)
    clear hr
    go_enter Try.func11, Try.ntmps11
    go_upto_region 1 with fail
    generalize hw1 : World.alloc w _ = w1
    have R1 := hid (show RB w1 w.heap.size (rc m s) from by rw [← hw1]; exact heap_alloc_new w _)
    have Q1 := hid (show Q w w1 from by rw [← hw1]; exact (Q.refl w).alloc _)
    clear hw1
    go_wp2_with (first
      | (refine wpList_load_g (by kernel_rfl) _ rfl w.heap.size rfl m s R1.out ?_)
      | (go_at_call 26; refine (HC.out _).mono ?_; rintro e w2 ⟨rfl, q2⟩; have Q2 := hid (Q1.out.trans q2); clear q2))
    go_ret2
    exact ⟨nilS, by rw [HE.out]; rfl, Q2.out, by rw [HB.out]; exact seg_nil _ _, by rw [HB.out]; rfl⟩
  | true =>
    rw [chkE_ok hr] at HC
    have HE := hid (chkE_ok hr)
    have HB := hid (show encB m srv = encI m 17 from by unfold encB; rw [hr, encI_eq]; rfl)
    have HR := hid hr
    clear hr
    go_enter Try.func11, Try.ntmps11
    go_upto_region 1 with fail
    generalize hw1 : World.alloc w _ = w1
    have R1 := hid (show RB w1 w.heap.size (rc m s) from by rw [← hw1]; exact heap_alloc_new w _)
    have Q1 := hid (show Q w w1 from by rw [← hw1]; exact (Q.refl w).alloc _)
    clear hw1
    generalize w.heap.size = ab at *
    go_wp2_with (first
      | (refine wpList_load_g (by kernel_rfl) _ rfl ab rfl m s R1.out ?_)
      | (go_at_call 26; refine (HC.out _).mono ?_; rintro e w2 ⟨rfl, q2⟩; have Q2 := hid (Q1.out.trans q2); have R2 := hid (R1.out.q q2); clear q2)
      | (go_at_call 17; refine (HU.out _).mono ?_; rintro e w3 ⟨rfl, q3⟩; have Q3 := hid (Q2.out.trans q3); have R3 := hid (R2.out.q q3); clear q3)
      | (refine wpList_store_row rfl 36 _ _ rfl w3.heap.size (rc usM (fun _ => nilS)) rfl rfl 36 _ (heap_alloc_new w3 _) info36 rfl (rc_one _ _) ?_; refine Hid.out ?_))
    refine hid ?_
    generalize hw4 : World.setRow _ _ _ = w4
    have q4 : Q w3 w4 := by rw [← hw4]; exact (((Keep.refl (fun _ => False) w3).alloc _).setRow _ _ (.inr (Nat.le_refl _))).toQ (fun _ _ h => h)
    have U4 := hid (show RB w4 w3.heap.size (rc usM (fun _ => nilS)) from by rw [← hw4]; exact setRow_heap _ _ _ _ 36 _ (heap_alloc_new w3 _))
    clear hw4
    have Q4 := hid (Q3.out.trans q4)
    have R4 := hid (R3.out.q q4)
    clear q4 Q3 R3 Q2 R2 Q1 R1
    generalize w3.heap.size = ub at *
    clear w3
    go_wp2_with fail
    generalize hw5 : World.alloc w4 _ = w5
    have q5 : Q w4 w5 := by rw [← hw5]; exact (Q.refl w4).alloc _
    clear hw5
    have Q5 := hid (Q4.out.trans q5)
    have R5 := hid (R4.out.q q5)
    have U5 := hid (U4.out.q q5)
    clear q5 Q4 R4 U4
    generalize w4.heap.size = ob at *
    go_loopw [8, 9] (fun o i wr => ∃ (k : Nat) (x : Sv), i = .int .i64 k ∧ o = .slice x.a x.n x.c ∧ RnR w ab ub m s k x wr) (fun _ i _ => 17 - (intOf i).toNat)
    case atStart => exact ⟨0, ⟨some ⟨ob, 0, none⟩, 0, 0⟩, rfl, rfl, by omega, Q5.out, R5.out, U5.out, seg_nil _ _, rfl⟩
    case round =>
      obtain ⟨k, ⟨xa, xn, xc⟩, rfl, rfl, hk, hq, hr, hu, hs, hn⟩ := hrel
      have HQ := hid hq
      have HRB := hid hr
      have HUB := hid hu
      have HS := hid (show Seg wr xa (encI m k) from hs)
      have HN := hid (show (encI m k).length = xn from hn)
      clear hq hr hu hs hn Q5 R5 U5
      by_cases hlt : k < 17
      · have hd1 : decide ((k : Int) ≤ 16) = true := by simp; omega
        have hlt17 : (k : Int) < 17 := by omega
        have h0k : (0 : Int) ≤ (k : Int) := by omega
        obtain ⟨x1, x2, x3⟩ := rc_at m s k hlt
        obtain ⟨y1, -, -⟩ := rc_at usM (fun _ => nilS) k hlt
        have c1 := HRB.out.cell x1
        have c2 := HRB.out.cell x2
        have c3 := HRB.out.cell x3
        have d1 := HUB.out.cell y1
        have hl1 := lt_of_cell c1
        have hl2 := lt_of_cell d1
        have q0 : Q wr wr := Q.refl wr
        clear x1 x2 x3 y1
        have KI := hid (rkind_any k)
        have HKP := hid (fun (W : World) => rput_ok (k : Int) W (sz (k : Int)) (by omega) (by omega) (hid rfl))
        have HKL := hid (form_length (k : Int))
        have HIL := hid (encI_len HR.out k)
        have hkd := kd_le k
        by_cases k1 : kd k = 1
        · have h12 : ((k : Int) == 12) = false := by
            have : k ≠ 12 := by intro e; subst e; revert k1; decide
            simp; omega
          have hkb : kB k = 110 := by unfold kB; rw [if_pos k1]
          rw [hkb] at KI
          have hrg := allR_i HR.out (i := k) (by omega)
          have ht : tld m k = (m.num k != usM.num k) := by unfold tld; rw [if_pos k1]
          have hbt : bts m k = form (m.num k) := by unfold bts; rw [if_pos k1]
          have hrr : 0 ≤ m.num k ∧ m.num k ≤ 4611686018427387903 := by
            unfold rgt at hrg
            rw [if_pos k1] at hrg
            simp only [Bool.and_eq_true, decide_eq_true_eq] at hrg
            exact ⟨by have := lo_ge k k1; omega, by have := hi_le k k1; omega⟩
          clear hrg c2 c3 hkb
          by_cases hne : m.num k = usM.num k
          · have HEQ := hid (encI_not (m := m) (i := k) (.inr (by rw [ht, hne]; simp)))
            rw [hne] at c1
            have hne2 : (usM.num k != usM.num k) = false := by simp
            clear ht hbt hrr hne k1 hkd HKP HKL HIL
            generalize usM.num k = uk at *
            go_wp2_with fail
            go_region_held3 (fun u => Q wr u ∧ u.cell? ⟨ab, k, none⟩ = some (.int .i64 uk) ∧ u.cell? ⟨ub, k, none⟩ = some (.int .i64 uk)) (repeat (first | (with_reducible assumption) | (with_reducible apply And.intro) | (with_reducible apply Q.drew) | (with_reducible refine dcel ?_)))
                    ((go_at_call 27; refine (KI.out _).mono ?_; rintro e wk ⟨rfl, rfl⟩))
            go_wp2_with (go_at_call 27; refine (KI.out _).mono ?_; rintro e wk ⟨rfl, rfl⟩)
            exact ⟨⟨k + 1, ⟨xa, xn, xc⟩, by go_num, rfl, by omega, HQ.out.trans (by repeat (first | (with_reducible assumption) | (with_reducible exact Q.refl _) | (with_reducible apply Q.drew) | (with_reducible apply Q.drewN) | (with_reducible apply Q.alloc))), HRB.out.q (by repeat (first | (with_reducible assumption) | (with_reducible exact Q.refl _) | (with_reducible apply Q.drew) | (with_reducible apply Q.drewN) | (with_reducible apply Q.alloc))), HUB.out.q (by repeat (first | (with_reducible assumption) | (with_reducible exact Q.refl _) | (with_reducible apply Q.drew) | (with_reducible apply Q.drewN) | (with_reducible apply Q.alloc))), by rw [HEQ.out]; exact HS.out.q (by repeat (first | (with_reducible assumption) | (with_reducible exact Q.refl _) | (with_reducible apply Q.drew) | (with_reducible apply Q.drewN) | (with_reducible apply Q.alloc))), by rw [HEQ.out]; exact HN.out⟩, by simp [intOf]; omega⟩
          · have HEQ := hid (encI_told (m := m) (i := k) (by omega) (by rw [ht]; simp [hne]))
            rw [hbt] at HEQ
            have hne2 : (m.num k != usM.num k) = true := by simp [hne]
            have HNP := hid (fun (W : World) => rput_ok (m.num k) W (sz (m.num k)) hrr.1 hrr.2 (hid rfl))
            have HNL := hid (form_length (m.num k))
            have hsl := sz_le (m.num k)
            rw [HNL.out] at HEQ
            clear ht hbt hrr hne k1 hkd
            generalize form (m.num k) = zv at *
            generalize sz (m.num k) = zn at *
            have hzv := HNL.out
            have HLP := hid (fun (W : World) => rput_ok (zn : Int) W (sz (zn : Int)) (by omega) (by omega) (hid rfl))
            have HLL := hid (form_length (zn : Int))
            have HSUM := hid (show (encI m k).length + (form (k : Int)).length + (form (zn : Int)).length + zv.length ≤ 1000000 from by have := HIL.out; have := form_len (k : Int); have := form_len (zn : Int); omega)
            clear hzv hsl HIL
            generalize sz (k : Int) = zk at *
            generalize sz (zn : Int) = zl at *
            generalize hnk : m.num k = nk at *
            clear hnk
            generalize hukk : usM.num k = uk at *
            clear hukk
            go_wp2_with fail
            go_region_held3 (fun u => Q wr u ∧ u.cell? ⟨ab, k, none⟩ = some (.int .i64 nk) ∧ u.cell? ⟨ub, k, none⟩ = some (.int .i64 uk)) (repeat (first | (with_reducible assumption) | (with_reducible apply And.intro) | (with_reducible apply Q.drew) | (with_reducible refine dcel ?_)))
                    ((go_at_call 27; refine (KI.out _).mono ?_; rintro e wk ⟨rfl, rfl⟩))
            go_wp2_with (first
              | (go_at_call 27; refine (KI.out _).mono ?_; rintro e wk ⟨rfl, rfl⟩)
              | (go_at_call 22; refine (HNP.out _).mono ?_; rintro e w4 ⟨g4, rfl, q4, o4⟩; have j4 : Q wr w4 := Q.trans (by repeat (first | (with_reducible assumption) | (with_reducible exact Q.refl _) | (with_reducible apply Q.drew) | (with_reducible apply Q.drewN) | (with_reducible apply Q.alloc))) q4; have O4 := hid o4; clear q4 o4 HNP)
              | (go_at_call 22; first | (refine (HKP.out _).mono ?_; rintro e w5 ⟨g5, rfl, q5, o5⟩; have j5 : Q wr w5 := Q.trans (by repeat (first | (with_reducible assumption) | (with_reducible exact Q.refl _) | (with_reducible apply Q.drew) | (with_reducible apply Q.drewN) | (with_reducible apply Q.alloc))) q5; have O5 := hid o5; have O8 := hid (O4.out.q q5); clear q5 o5 HKP) | (refine (HLP.out _).mono ?_; rintro e w6 ⟨g6, rfl, q6, o6⟩; have j6 : Q wr w6 := j5.trans q6; have O6 := hid o6; have O7 := hid (O5.out.q q6); have O9 := hid (O8.out.q q6); clear o6))
                    | (go_at_call 21; refine (join4 w6 ⟨xa, xn, xc⟩ ⟨some ⟨g5, 0, none⟩, zk, zk⟩ ⟨some ⟨g6, 0, none⟩, zl, zl⟩ ⟨some ⟨g4, 0, none⟩, zn, zn⟩ _ _ _ zv ⟨HS.out.q j6, HN.out⟩ ⟨O7.out.seg, HKL.out⟩ ⟨O6.out.seg, HLL.out⟩ ⟨O9.out.seg, HNL.out⟩ HSUM.out).mono ?_; rintro e w7 ⟨t, rfl, q7, r7⟩; have j7 : Q wr w7 := j6.trans q7; have R7 := hid r7; clear q7 r7))
            exact ⟨⟨k + 1, t, by go_num, rfl, by omega, HQ.out.trans j7, HRB.out.q j7, HUB.out.q j7, by rw [HEQ.out]; exact R7.out.seg, by rw [HEQ.out]; exact Row.len R7.out⟩, by simp [intOf]; omega⟩
        · by_cases k23 : kd k = 2 ∨ kd k = 3
          · have h12 : ((k : Int) == 12) = false := by
              have : k ≠ 12 := by intro e; subst e; revert k23; decide
              simp; omega
            have hkb : kB k = 98 := by unfold kB; rw [if_neg k1, if_pos k23]
            rw [hkb] at KI
            have ht : tld m k = m.has k := by unfold tld; rw [if_neg k1, if_neg (by omega)]
            have hbt : bts m k = m.byt k := by unfold bts; rw [if_neg k1, if_neg (by omega)]
            have hby := HBY.out k k23
            clear c1 d1 hkb
            cases hh : m.has k with
            | false =>
              rw [hh] at c2
              have HEQ := hid (encI_not (m := m) (i := k) (.inr (by rw [ht, hh])))
              clear ht hbt hby hh k1 k23 hkd HKP HKL HIL c3
              go_wp2_with fail
              go_quiet ((go_at_call 27; exact Calls.quiet_of_same ((KI.out _).mono (fun e w h => ⟨h.1, h.2.symm⟩))))
              go_wp2_with (go_at_call 27; refine (KI.out _).mono ?_; rintro e wk ⟨rfl, rfl⟩)
              exact ⟨⟨k + 1, ⟨xa, xn, xc⟩, by go_num, rfl, by omega, HQ.out.trans (by repeat (first | (with_reducible assumption) | (with_reducible exact Q.refl _) | (with_reducible apply Q.drew) | (with_reducible apply Q.drewN) | (with_reducible apply Q.alloc))), HRB.out.q (by repeat (first | (with_reducible assumption) | (with_reducible exact Q.refl _) | (with_reducible apply Q.drew) | (with_reducible apply Q.drewN) | (with_reducible apply Q.alloc))), HUB.out.q (by repeat (first | (with_reducible assumption) | (with_reducible exact Q.refl _) | (with_reducible apply Q.drew) | (with_reducible apply Q.drewN) | (with_reducible apply Q.alloc))), by rw [HEQ.out]; exact HS.out.q (by repeat (first | (with_reducible assumption) | (with_reducible exact Q.refl _) | (with_reducible apply Q.drew) | (with_reducible apply Q.drewN) | (with_reducible apply Q.alloc))), by rw [HEQ.out]; exact HN.out⟩, by simp [intOf]; omega⟩
            | true =>
              rw [hh] at c2
              have HEQ := hid (encI_told (m := m) (i := k) (by omega) (by rw [ht, hh]))
              have hb20 := bts_i HR.out (i := k) (by omega) (by rw [ht, hh])
              rw [hbt] at HEQ hb20
              obtain ⟨hv1, hv2⟩ := hby
              rw [hv2] at HEQ
              generalize m.byt k = zv at *
              generalize s k = sk at *
              obtain ⟨va, vn, vc⟩ := sk
              have hv3 : zv.length = vn := hv2
              have HV := hid (show Seg wr va zv from hv1.q HQ.out)
              have HVL := hid (show zv.length = vn from hv2)
              have HEQ2 := hid (show encI m (k + 1) = encI m k ++ (form (k : Int) ++ form (vn : Int) ++ zv) from HEQ.out)
              clear HEQ
              have HEQ := HEQ2
              clear HEQ2
              have HLP := hid (fun (W : World) => rput_ok (vn : Int) W (sz (vn : Int)) (by omega) (by omega) (hid rfl))
              have HLL := hid (form_length (vn : Int))
              have HSUM := hid (show (encI m k).length + (form (k : Int)).length + (form (vn : Int)).length + zv.length ≤ 1000000 from by have := HIL.out; have := form_len (k : Int); have := form_len (vn : Int); omega)
              clear ht hbt hh k1 k23 hkd hv1 hv2 hv3 hb20 HIL
              generalize sz (k : Int) = zk at *
              generalize sz (vn : Int) = zl at *
              go_wp2_with fail
              go_quiet ((go_at_call 27; exact Calls.quiet_of_same ((KI.out _).mono (fun e w h => ⟨h.1, h.2.symm⟩))))
              go_wp2_with (first
                | (go_at_call 27; refine (KI.out _).mono ?_; rintro e wk ⟨rfl, rfl⟩)
                | (go_at_call 22; first | (refine (HKP.out _).mono ?_; rintro e w5 ⟨g5, rfl, q5, o5⟩; have j5 : Q wr w5 := Q.trans (by repeat (first | (with_reducible assumption) | (with_reducible exact Q.refl _) | (with_reducible apply Q.drew) | (with_reducible apply Q.drewN) | (with_reducible apply Q.alloc))) q5; have O5 := hid o5; clear q5 o5 HKP) | (refine (HLP.out _).mono ?_; rintro e w6 ⟨g6, rfl, q6, o6⟩; have j6 : Q wr w6 := j5.trans q6; have O6 := hid o6; have O7 := hid (O5.out.q q6); clear o6))
                      | (go_at_call 21; refine (join4 w6 ⟨xa, xn, xc⟩ ⟨some ⟨g5, 0, none⟩, zk, zk⟩ ⟨some ⟨g6, 0, none⟩, zl, zl⟩ ⟨va, vn, vc⟩ _ _ _ zv ⟨HS.out.q j6, HN.out⟩ ⟨O7.out.seg, HKL.out⟩ ⟨O6.out.seg, HLL.out⟩ ⟨HV.out.q j6, HVL.out⟩ HSUM.out).mono ?_; rintro e w7 ⟨t, rfl, q7, r7⟩; have j7 : Q wr w7 := j6.trans q7; have R7 := hid r7; clear q7 r7))
              exact ⟨⟨k + 1, t, by go_num, rfl, by omega, HQ.out.trans j7, HRB.out.q j7, HUB.out.q j7, by rw [HEQ.out]; exact R7.out.seg, by rw [HEQ.out]; exact Row.len R7.out⟩, by simp [intOf]; omega⟩
          · by_cases k4 : kd k = 4
            · have h12 : k = 12 := kd_f4 k4
              subst h12
              have hkb : kB 12 = 48 := rfl
              rw [hkb] at KI
              have c4 := HRB.out.cell (j := 51) (v := .bool m.mv) rfl
              have hl4 := lt_of_cell c4
              clear c1 d1 c2 c3 hkb
              cases hh : m.mv with
              | false =>
                rw [hh] at c4
                have HEQ := hid (encI_not (m := m) (i := 12) (.inr (by show m.mv = false; exact hh)))
                clear hh k1 k23 k4 hkd HKP HKL HIL
                go_wp2_with fail
                go_quiet ((go_at_call 27; exact Calls.quiet_of_same ((KI.out _).mono (fun e w h => ⟨h.1, h.2.symm⟩))))
                go_wp2_with (go_at_call 27; refine (KI.out _).mono ?_; rintro e wk ⟨rfl, rfl⟩)
                exact ⟨⟨12 + 1, ⟨xa, xn, xc⟩, by go_num, rfl, by omega, HQ.out.trans (by repeat (first | (with_reducible assumption) | (with_reducible exact Q.refl _) | (with_reducible apply Q.drew) | (with_reducible apply Q.drewN) | (with_reducible apply Q.alloc))), HRB.out.q (by repeat (first | (with_reducible assumption) | (with_reducible exact Q.refl _) | (with_reducible apply Q.drew) | (with_reducible apply Q.drewN) | (with_reducible apply Q.alloc))), HUB.out.q (by repeat (first | (with_reducible assumption) | (with_reducible exact Q.refl _) | (with_reducible apply Q.drew) | (with_reducible apply Q.drewN) | (with_reducible apply Q.alloc))), by rw [HEQ.out]; exact HS.out.q (by repeat (first | (with_reducible assumption) | (with_reducible exact Q.refl _) | (with_reducible apply Q.drew) | (with_reducible apply Q.drewN) | (with_reducible apply Q.alloc))), by rw [HEQ.out]; exact HN.out⟩, by simp [intOf]⟩
              | true =>
                rw [hh] at c4
                have HEQ := hid (encI_told (m := m) (i := 12) (by omega) (by show m.mv = true; exact hh))
                generalize hzv : bts m 12 = zv at *
                have hz0 : zv = [] := by rw [← hzv]; rfl
                clear hzv
                have HVL := hid (show zv.length = 0 from by rw [hz0]; rfl)
                rw [HVL.out] at HEQ
                have hv3 := HVL.out
                have HLP := hid (fun (W : World) => rput_ok ((0 : Nat) : Int) W (sz ((0 : Nat) : Int)) (by omega) (by omega) (hid rfl))
                have HLL := hid (form_length ((0 : Nat) : Int))
                have HSUM := hid (show (encI m 12).length + (form ((12 : Nat) : Int)).length + (form ((0 : Nat) : Int)).length + zv.length ≤ 1000000 from by have := HIL.out; have := form_len ((12 : Nat) : Int); have := form_len ((0 : Nat) : Int); omega)
                have HV := hid (show Seg wr none zv from by rw [hz0]; exact seg_nil _ _)
                clear hh k1 k23 k4 hkd hz0 hv3 HIL
                generalize sz ((12 : Nat) : Int) = zk at *
                generalize sz ((0 : Nat) : Int) = zl at *
                go_wp2_with fail
                go_quiet ((go_at_call 27; exact Calls.quiet_of_same ((KI.out _).mono (fun e w h => ⟨h.1, h.2.symm⟩))))
                go_wp2_with (first
                  | (go_at_call 27; refine (KI.out _).mono ?_; rintro e wk ⟨rfl, rfl⟩)
                  | (go_at_call 22; first | (refine (HKP.out _).mono ?_; rintro e w5 ⟨g5, rfl, q5, o5⟩; have j5 : Q wr w5 := Q.trans (by repeat (first | (with_reducible assumption) | (with_reducible exact Q.refl _) | (with_reducible apply Q.drew) | (with_reducible apply Q.drewN) | (with_reducible apply Q.alloc))) q5; have O5 := hid o5; clear q5 o5 HKP) | (refine (HLP.out _).mono ?_; rintro e w6 ⟨g6, rfl, q6, o6⟩; have j6 : Q wr w6 := j5.trans q6; have O6 := hid o6; have O7 := hid (O5.out.q q6); clear o6))
                        | (go_at_call 21; refine (join4 w6 ⟨xa, xn, xc⟩ ⟨some ⟨g5, 0, none⟩, zk, zk⟩ ⟨some ⟨g6, 0, none⟩, zl, zl⟩ nilS _ _ _ zv ⟨HS.out.q j6, HN.out⟩ ⟨O7.out.seg, HKL.out⟩ ⟨O6.out.seg, HLL.out⟩ ⟨HV.out.q j6, HVL.out⟩ HSUM.out).mono ?_; rintro e w7 ⟨t, rfl, q7, r7⟩; have j7 : Q wr w7 := j6.trans q7; have R7 := hid r7; clear q7 r7))
                exact ⟨⟨12 + 1, t, by go_num, rfl, by omega, HQ.out.trans j7, HRB.out.q j7, HUB.out.q j7, by rw [HEQ.out]; exact R7.out.seg, by rw [HEQ.out]; exact Row.len R7.out⟩, by simp [intOf]⟩
            · have h0 : kd k = 0 := by omega
              have hkb : kB k = 32 := by unfold kB; rw [if_neg k1, if_neg k23, if_neg k4]
              rw [hkb] at KI
              have HEQ := hid (encI_not (m := m) (i := k) (.inl h0))
              have h12 : ((k : Int) == 12) = false := by
                have : k ≠ 12 := by intro e; subst e; exact k4 rfl
                simp; omega
              clear c1 d1 c2 c3 hkb h0 k1 k23 k4 hkd HKP HKL HIL
              go_wp2_with fail
              go_quiet ((go_at_call 27; exact Calls.quiet_of_same ((KI.out _).mono (fun e w h => ⟨h.1, h.2.symm⟩))))
              go_wp2_with (go_at_call 27; refine (KI.out _).mono ?_; rintro e wk ⟨rfl, rfl⟩)
              exact ⟨⟨k + 1, ⟨xa, xn, xc⟩, by go_num, rfl, by omega, HQ.out.trans (by repeat (first | (with_reducible assumption) | (with_reducible exact Q.refl _) | (with_reducible apply Q.drew) | (with_reducible apply Q.drewN) | (with_reducible apply Q.alloc))), HRB.out.q (by repeat (first | (with_reducible assumption) | (with_reducible exact Q.refl _) | (with_reducible apply Q.drew) | (with_reducible apply Q.drewN) | (with_reducible apply Q.alloc))), HUB.out.q (by repeat (first | (with_reducible assumption) | (with_reducible exact Q.refl _) | (with_reducible apply Q.drew) | (with_reducible apply Q.drewN) | (with_reducible apply Q.alloc))), by rw [HEQ.out]; exact HS.out.q (by repeat (first | (with_reducible assumption) | (with_reducible exact Q.refl _) | (with_reducible apply Q.drew) | (with_reducible apply Q.drewN) | (with_reducible apply Q.alloc))), by rw [HEQ.out]; exact HN.out⟩, by simp [intOf]; omega⟩
      · have hk17 : k = 17 := by omega
        subst hk17
        go_wp2
        go_ret2
        exact ⟨⟨xa, xn, xc⟩, by rw [HE.out]; rfl, HQ.out, by rw [HB.out]; exact HS.out, by rw [HB.out]; exact HN.out⟩
end Go.Proofs.Ytidbimhcebfjfaa
