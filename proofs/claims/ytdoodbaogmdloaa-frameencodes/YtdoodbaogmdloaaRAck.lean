/-
  What the document's own ackBytes does: a contract that the statements' walks use.
-/
import Derived.Test.YtdoodbaogmdloaaREb
import Derived.BigQuiet
namespace Go.Proofs.Ytdoodbaogmdloaa
open Go.RowKit
set_option linter.unusedVariables false
set_option maxRecDepth 20000

theorem spOk_gap {low : Int} {l : List (Int × Int)} (h : spOk low l = true) : ∀ i, i + 1 < l.length → (l.getD i (0, 0)).2 + 2 ≤ (l.getD (i + 1) (0, 0)).1 := by
  induction l generalizing low with
  | nil => intro i hi; simp at hi
  | cons x r ih =>
    simp only [spOk, Bool.and_eq_true, decide_eq_true_eq] at h
    intro i hi
    cases i with
    | zero =>
      cases r with
      | nil => simp at hi
      | cons y r =>
        have h2 := h.2
        simp only [spOk, Bool.and_eq_true, decide_eq_true_eq] at h2
        exact h2.1.1
    | succ i => exact ih h.2 i (by simpa using hi)
theorem forms_two (a b : Int) : forms [a, b] = form a ++ form b := by simp [forms]
theorem forms_one (a : Int) : forms [a] = form a := by simp [forms]
theorem forms_cons (a : Int) (l : List Int) : forms (a :: l) = form a ++ forms l := by simp [forms]

set_option maxHeartbeats 8000000 in
theorem ackBytes_any (f : Fr) (d c s : Sv) (w : World) (h : Holds w f d c s) (hsp : spansB f.sp = true) (hdl : isN f.dl = true) :
    Calls Try.prog 37 #[fv f d c s] w fun e w' => ∃ r : Sv, e = .returned (.slice r.a r.n r.c) ∧ Q w w' ∧ Row w' r (forms (ackH f)) ∧ New w.heap.size r := by
  unfold spansB at hsp
  rw [Bool.and_eq_true, decide_eq_true_eq] at hsp
  obtain ⟨⟨h1, h64⟩, hok⟩ := hsp
  have hall := spOk_all (by omega) hok
  have hgap := spOk_gap hok
  have hsl := h.sl
  have HLEN := hid (ackH_len h64)
  obtain ⟨m, hm⟩ : ∃ m, f.sp.length = m + 1 := ⟨f.sp.length - 1, by omega⟩
  have hsn : s.n = m + 1 := by omega
  have hm63 : m ≤ 63 := by omega
  have hdl0 : 0 ≤ f.dl ∧ f.dl ≤ 4611686018427387903 := by unfold isN at hdl; simpa using hdl
  obtain ⟨b, off, ha, hb, cm0, cm1⟩ := spans_in h.ss (j := m) (by omega)
  obtain ⟨sa, sn, sc⟩ := s
  dsimp only at ha hsn hsl
  subst ha
  subst hsn
  have HSS := hid h.ss
  have HALL := hid (fun j (hj : j < f.sp.length) => hall (f.sp.getD j (0, 0)) (by rw [List.getD_eq_getElem?_getD, List.getElem?_eq_getElem hj]; exact List.getElem_mem _))
  have HGAP := hid hgap
  have hr := HALL.out m (by omega)
  have ST := hid (ackH_eq hm)
  have HM := hid hm
  clear h hok hall hgap hm hsl h1 h64 hdl
  have hw0 : IntKind.i64.wrap (((m + 1 : Nat) : Int) - 1) = m := by rw [IntKind.wrap_i64]; omega
  have hw0' : IntKind.i64.wrap ((m : Int) + 1 - 1) = m := by rw [IntKind.wrap_i64]; omega
  have hmi : (m : Int) < (m : Int) + 1 := by omega
  have P1 := hid (fun (u : World) => rput_k (f.sp.getD m (0, 0)).2 u (by omega) (by omega))
  have P2 := hid (fun (u : World) => rput_k f.dl u hdl0.1 hdl0.2)
  have P3 := hid (fun (u : World) => rput_k (m : Int) u (by omega) (by omega))
  have FE := hid (show form (f.sp.getD m (0, 0)).2 ++ form f.dl ++ form (m : Int) ++ forms (rem f.sp m (m + 1)) = forms (ackH f) by rw [ST.out, forms_app, forms_cons, forms_two]; simp)
  have L1 := hid (form_len8 (f.sp.getD m (0, 0)).2)
  have L2 := hid (form_len8 f.dl)
  have L3 := hid (form_len8 (m : Int))
  generalize hT : f.sp.getD m (0, 0) = T at *
  clear hT hdl0
  obtain ⟨T1, T2⟩ := T
  simp only at cm0 cm1 hr P1 FE L1
  go_enter Try.func37, Try.ntmps37
  go_wp2_with fail
  generalize hw0 : World.alloc w _ = w0
  have Q0 := hid (show Q w w0 from by rw [← hw0]; exact (Q.refl w).alloc _)
  have HB0 := hid (show Box w0 34 w.heap.size f d c ⟨some ⟨b, off, none⟩, m + 1, sc⟩ from by rw [← hw0]; exact heap_alloc_new w _)
  clear hw0 cm0 cm1
  refine (P1.out w0).mono ?_
  rintro e w1 ⟨p, rfl, q1, r1, n1⟩
  have E1 := hid (show EI w0 w1 p (form T2) from ⟨q1, r1, n1⟩)
  have e9 := (Box.q HB0.out q1).c9
  clear q1 r1 n1
  go_wp2_with fail
  refine (P2.out w1).mono ?_
  rintro e w2 ⟨p2, rfl, q2, r2, n2⟩
  obtain ⟨x2, w3, hr2, I2⟩ := (E1.out.qr q2).app r2.seg r2.len (by have := L1.out; have := L2.out; omega)
  have E2 := hid I2
  clear q2 r2 n2 I2 e9
  go_wp2_with (at_builtin; refine Lib.wpList_append_run _ rfl _ _ _ _ rfl _ _ rfl rfl _ _ hr2 ?_)
  clear hr2
  refine (P3.out w3).mono ?_
  rintro e w4 ⟨p3, rfl, q3, r3, n3⟩
  obtain ⟨x3, w5, hr3, I3⟩ := (E2.out.qr q3).app r3.seg r3.len (by have := L1.out; have := L2.out; have := L3.out; simp only [List.length_append]; omega)
  have E3 := hid I3
  clear q3 r3 n3 I3
  go_wp2_with (at_builtin; refine Lib.wpList_append_run _ rfl _ _ _ _ rfl _ _ rfl rfl _ _ hr3 ?_)
  clear hr3
  go_loopw [4, 5] (fun ov iv wr => ∃ (j : Nat) (x : Sv) (zs : List Int), j ≤ m + 1 ∧ iv = .int .i64 ((j : Int) - 1) ∧ ov = .slice x.a x.n x.c ∧ EI w0 wr x zs ∧ zs ++ forms (rem f.sp m j) = forms (ackH f)) (fun _ iv _ => (intOf iv + 1).toNat)
  case atStart => exact ⟨m + 1, x3, _, Nat.le_refl _, by rw [show ((m + 1 : Nat) : Int) - 1 = (m : Int) by omega], rfl, E3.out, FE.out⟩
  case round =>
    obtain ⟨j, x, zs, hj, rfl, rfl, hI, hz⟩ := hrel
    have hzl : zs.length ≤ 1056 := by have h1 := HLEN.out; rw [← hz, List.length_append] at h1; omega
    have HI := hid hI
    have HZ := hid hz
    clear hz
    obtain ⟨xa, xn, xc⟩ := x
    cases j with
    | zero =>
      have HF := hid (show Row wr ⟨xa, xn, xc⟩ (forms (ackH f)) from by have h1 := HZ.out; rw [rem_zero] at h1; have h2 : zs = forms (ackH f) := (by simpa [forms] using h1); rw [← h2]; exact hI.row)
      clear hI hzl
      go_wp2
      go_ret
      exact ⟨⟨xa, xn, xc⟩, rfl, Q0.out.trans HI.out.q, HF.out, HI.out.new.mono Q0.out.size⟩
    | succ i =>
      obtain ⟨b', off', hbb, hb', d0, d1⟩ := spans_in HSS.out (j := i) (by rw [HM.out]; omega)
      simp only [Option.some.injEq, Addr.mk.injEq, and_true] at hbb
      obtain ⟨rfl, rfl⟩ := hbb
      have qw := Q0.out.trans hI.q
      rw [← qw.cell (by exact hb)] at d0 d1
      have a0 := HALL.out i (by rw [HM.out]; omega)
      have c8 := (Box.q HB0.out hI.q).c8
      have hji : (((i + 1 : Nat) : Int)) - 1 = (i : Int) := by omega
      have hj0 : (0 : Int) ≤ (i : Int) := by omega
      have hj1 : (i : Int) < (m : Int) + 1 := by omega
      have hw3 : IntKind.i64.wrap ((i : Int) - 1) = (i : Int) - 1 := by rw [IntKind.wrap_i64]; omega
      have hbr : b < wr.heap.size := Nat.lt_of_lt_of_le hb qw.size
      have L5 := hid (form_len8 ((f.sp.getD i (0, 0)).2 - (f.sp.getD i (0, 0)).1))
      have PA := hid (fun (u : World) => rput_k ((f.sp.getD i (0, 0)).2 - (f.sp.getD i (0, 0)).1) u (by omega) (by omega))
      have HZL := hid hzl
      by_cases him : i = m
      · have REL := hid (show zs ++ form ((f.sp.getD i (0, 0)).2 - (f.sp.getD i (0, 0)).1) ++ forms (rem f.sp m i) = forms (ackH f) from by
          have h1 := HZ.out
          rw [him, rem_top, forms_cons] at h1
          rw [him]; simpa using h1)
        have lt0 : decide ((i : Int) < (m : Int)) = false := by simp; omega
        have lt1 : ¬ (i : Int) < (m : Int) := by omega
        have HIM := hid him
        clear him HZ
        generalize f.sp.getD i (0, 0) = T0 at *
        obtain ⟨p0, u0⟩ := T0
        dsimp only at d0 d1 a0 L5 PA REL
        have v3 : IntKind.i64.wrap (u0 - p0) = u0 - p0 := by rw [IntKind.wrap_i64]; omega
        rw [hji]
        clear hI hzl hji
        have APP := hid (show ∀ (u : World) (p : Sv), Q wr u → Row u p (form (u0 - p0)) → ∃ (x' : Sv) (w' : World), (Builtin.append_ #[22, 22] 22 #[.slice xa xn xc, .slice p.a p.n p.c]).run Try.prog u = .ok (.slice x'.a x'.n x'.c) w' ∧ EI w0 w' x' (zs ++ form (u0 - p0)) from fun u p q hr => (HI.out.qr q).app hr.seg hr.len (by have := L5.out; have := HZL.out; first | omega | (simp only [List.length_append]; omega)))
        go_wp2_with fail
        go_region_law (first
          | (refine step_call36 rfl _ _ rfl (by first | (simp [Act.eval]; done) | (simp [Act.eval, Act.put]; done)) (PA.out _) ?_; rintro e w6 ⟨p, rfl, q6, r6, n6⟩; refine ⟨_, rfl, ?_⟩; obtain ⟨x6, w7, hr6, I6⟩ := APP.out _ p (Q.trans (by repeat (first | (with_reducible assumption) | (with_reducible exact Q.refl _) | (with_reducible apply Q.drew) | (with_reducible apply Q.drewN))) q6) r6; have I6h := hid I6; clear I6 q6 r6 n6)
          | (refine step_append rfl _ _ _ _ rfl (by first | (simp [Act.eval]; done) | (simp [Act.eval, Act.put]; done)) (by first | (simp [Act.eval]; done) | (simp [Act.eval, Act.put]; done)) hr6 ?_))
        all_goals
          go_wp2
          go_roundw
          case rel => exact ⟨i, x6, _, by omega, rfl, rfl, I6h.out, REL.out⟩
          case measure => simp [intOf]; try omega
      · have him2 : i + 1 ≤ m := by omega
        have REL := hid (show zs ++ form ((f.sp.getD (i + 1) (0, 0)).1 - (f.sp.getD i (0, 0)).2 - 2) ++ form ((f.sp.getD i (0, 0)).2 - (f.sp.getD i (0, 0)).1) ++ forms (rem f.sp m i) = forms (ackH f) from by
          have h1 := HZ.out
          rw [rem_step him2 HM.out, forms_cons, forms_cons] at h1
          simpa using h1)
        have g0 := HGAP.out i (by rw [HM.out]; omega)
        have a1 := HALL.out (i + 1) (by rw [HM.out]; omega)
        obtain ⟨b'', off'', hbb2, hb'', k0, _⟩ := spans_in HSS.out (j := i + 1) (by rw [HM.out]; omega)
        simp only [Option.some.injEq, Addr.mk.injEq, and_true] at hbb2
        obtain ⟨rfl, rfl⟩ := hbb2
        rw [← qw.cell (by exact hb)] at k0
        have lt0 : decide ((i : Int) < (m : Int)) = true := by simp; omega
        have lt1 : (i : Int) < (m : Int) := by omega
        have hw5 : IntKind.i64.wrap ((i : Int) + 1) = ((i + 1 : Nat) : Int) := by rw [IntKind.wrap_i64]; omega
        have hi1 : ((i + 1 : Nat) : Int) < (m : Int) + 1 := by omega
        have L6 := hid (form_len8 ((f.sp.getD (i + 1) (0, 0)).1 - (f.sp.getD i (0, 0)).2 - 2))
        have PB := hid (fun (u : World) => rput_k ((f.sp.getD (i + 1) (0, 0)).1 - (f.sp.getD i (0, 0)).2 - 2) u (by omega) (by omega))
        generalize f.sp.getD (i + 1) (0, 0) = T1 at *
        generalize hT0 : f.sp.getD i (0, 0) = T0 at *
        have HT0 := hid hT0
        clear hT0
        obtain ⟨p1, u1⟩ := T1
        obtain ⟨p0, u0⟩ := T0
        dsimp only at d0 d1 a0 a1 g0 k0 L5 L6 PA PB REL
        have v3 : IntKind.i64.wrap (u0 - p0) = u0 - p0 := by rw [IntKind.wrap_i64]; omega
        have v1 : IntKind.i64.wrap (p1 - u0) = p1 - u0 := by rw [IntKind.wrap_i64]; omega
        have v2 : IntKind.i64.wrap (p1 - u0 - 1) = p1 - u0 - 1 := by rw [IntKind.wrap_i64]; omega
        have v4 : IntKind.i64.wrap (p1 - u0 - 1 - 1) = p1 - u0 - 2 := by rw [IntKind.wrap_i64]; omega
        rw [hji]
        clear hI hzl hji him HZ g0
        go_upto_region 9 with fail
        go_cut [6] from 34 to 73 (fun mv wc => mv = .int .i64 (p1 - u0 - 1) ∧ Q wr wc)
        case first =>
          go_quiet (fail)
          go_wp2_with fail
          go_meet
          case rel => exact ⟨rfl, by repeat (first | exact Q.refl _ | apply Q.drewN | apply Q.drew)⟩
        case rest =>
          obtain ⟨rfl, hqc⟩ := hcut
          have QC := hid hqc
          clear hqc d0 d1 c8 k0
          go_wp2_with fail
          refine (PB.out _).mono ?_
          rintro e w8 ⟨p, rfl, q8, r8, n8⟩
          obtain ⟨⟨xa2, xn2, xc2⟩, w9, hr9, I9⟩ := (HI.out.qr (QC.out.trans q8)).app r8.seg r8.len (by have := L6.out; have := HZL.out; omega)
          have E9 := hid I9
          have c8 := (Box.q HB0.out I9.q).c8
          obtain ⟨b3, off3, hbb3, hb3, d0, d1⟩ := spans_in HSS.out (j := i) (by rw [HM.out]; omega)
          simp only [Option.some.injEq, Addr.mk.injEq, and_true] at hbb3
          obtain ⟨rfl, rfl⟩ := hbb3
          have qw9 := Q0.out.trans I9.q
          rw [← qw9.cell (by exact hb)] at d0 d1
          have hbr9 : b < w9.heap.size := Nat.lt_of_lt_of_le hb qw9.size
          rw [HT0.out] at d0 d1
          clear q8 r8 n8 I9 qw9
          go_wp2_with (at_builtin; refine Lib.wpList_append_run _ rfl _ _ _ _ rfl _ _ rfl rfl _ _ hr9 ?_)
          clear hr9
          have APP := hid (show ∀ (u : World) (p : Sv), Q w9 u → Row u p (form (u0 - p0)) → ∃ (x' : Sv) (w' : World), (Builtin.append_ #[22, 22] 22 #[.slice xa2 xn2 xc2, .slice p.a p.n p.c]).run Try.prog u = .ok (.slice x'.a x'.n x'.c) w' ∧ EI w0 w' x' ((zs ++ form (p1 - u0 - 2)) ++ form (u0 - p0)) from fun u p q hr => (E9.out.qr q).app hr.seg hr.len (by have := L5.out; have := L6.out; have := HZL.out; first | omega | (simp only [List.length_append]; omega)))
          go_wp2_with fail
          go_region_law (first
            | (refine step_call36 rfl _ _ rfl (by first | (simp [Act.eval]; done) | (simp [Act.eval, Act.put]; done)) (PA.out _) ?_; rintro e w6 ⟨p, rfl, q6, r6, n6⟩; refine ⟨_, rfl, ?_⟩; obtain ⟨x6, w7, hr6, I6⟩ := APP.out _ p (Q.trans (by repeat (first | (with_reducible assumption) | (with_reducible exact Q.refl _) | (with_reducible apply Q.drew) | (with_reducible apply Q.drewN))) q6) r6; have I6h := hid I6; clear I6 q6 r6 n6)
            | (refine step_append rfl _ _ _ _ rfl (by first | (simp [Act.eval]; done) | (simp [Act.eval, Act.put]; done)) (by first | (simp [Act.eval]; done) | (simp [Act.eval, Act.put]; done)) hr6 ?_))
          all_goals
            go_wp2
            go_roundw
            case rel => exact ⟨i, x6, _, by omega, rfl, rfl, I6h.out, REL.out⟩
            case measure => simp [intOf]; try omega
end Go.Proofs.Ytdoodbaogmdloaa
