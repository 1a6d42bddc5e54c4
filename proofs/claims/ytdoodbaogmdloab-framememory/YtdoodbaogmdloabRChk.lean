/-
  What the document's own Check does: a contract that the statements' walks use.
-/
import Derived.Test.YtdoodbaogmdloabRChkM
import Derived.Test.YtdoodbaogmdloabEnc
import Derived.Deep.Cut
import Derived.Deep.CutRange
namespace Go.Proofs.Ytdoodbaogmdloab
open Go.RowKit
set_option linter.unusedVariables false
set_option maxRecDepth 20000

theorem itL_len (k : Int) : (itL k).length ≤ 1000 := by
  cases h : isK k
  · have hn : ¬ (0 ≤ k ∧ k ≤ 8 ∨ 16 ≤ k ∧ k ≤ 30) := by unfold isK at h; simpa using h
    rw [show itL k = [] from by unfold itL; repeat rw [if_neg (by omega)]]
    decide
  · rcases isK_cases h with rfl | rfl | rfl | rfl | rfl | rfl | rfl | rfl | rfl | rfl | rfl | rfl | rfl | rfl | rfl | rfl | rfl | rfl | rfl | rfl | rfl | rfl | rfl | rfl
    all_goals decide

set_option maxHeartbeats 16000000 in
theorem rcheck_any (f : Fr) (d c s : Sv) (w : World) (h : Holds w f d c s) : Calls Try.prog 23 #[fv f d c s] w fun e w' => e = .returned (.int .i64 (chk f)) ∧ Q w w' := by
  have HC := hid (rchk_eq f)
  have HLN := hid (itL_len f.kind)
  have hdl := h.dl
  have HDL := hid h.dl
  have HCL := hid h.cl
  have HH := hid h
  clear h
  cases hk : isK f.kind
  · have HR := hid (show chk f = 50 from by rw [← HC.out]; unfold rchk; rw [if_pos hk])
    go_enter Try.func23, Try.ntmps23
    go_wp2_with fail
    refine (ritems_any f.kind _).mono ?_
    rintro e w1 ⟨rfl, hw1⟩
    rw [hk]
    subst hw1
    go_wp2
    go_ret
    exact ⟨ret_int HR.out.symm, (Q.refl w).alloc _⟩
  by_cases hbig : 16384 < d.n
  · have HR := hid (show chk f = 52 from by rw [← HC.out]; unfold rchk; rw [if_neg (by rw [hk]; simp), if_pos (by omega)])
    have hbi : (16384 : Int) < (d.n : Int) := by omega
    go_enter Try.func23, Try.ntmps23
    go_wp2_with fail
    refine (ritems_any f.kind _).mono ?_
    rintro e w1 ⟨rfl, hw1⟩
    rw [hk]
    subst hw1
    go_wp2
    go_ret
    exact ⟨ret_int HR.out.symm, (Q.refl w).alloc _⟩
  have hbi : ¬ (16384 : Int) < (d.n : Int) := by omega
  have HR := hid (show chk f = if rt1 f = true then 51 else if rt2 f = true then 51 else if rt3 f = true then 51 else 0 from by rw [← HC.out]; unfold rchk; rw [if_neg (by rw [hk]; simp), if_neg (by omega)])
  go_enter Try.func23, Try.ntmps23
  go_wp2_with fail
  generalize hw0 : World.alloc w _ = w0
  have Q0 := hid (show Q w w0 from by rw [← hw0]; exact (Q.refl w).alloc _)
  have hb0 : Box w0 44 w.heap.size f d c s := by rw [← hw0]; exact heap_alloc_new w _
  have HB0 := hid hb0
  clear hw0
  refine (ritems_any f.kind _).mono ?_
  rintro e w1 ⟨rfl, hw1⟩
  rw [hk]
  subst hw1
  obtain ⟨e0, e1, e2, e3, e4, e5, e6, e7, e8, e9, e10, e11, e12⟩ := Box.all hb0
  go_upto_region 6 with fail
  go_cut [55] from 18 (fun v wc => v = .bool (rt1 f) ∧ w0 = wc)
  case first =>
    go_wp2_with fail
    refine (rhas_any (itL f.kind) 105 _ HLN.out).mono ?_
    rintro e w2 ⟨rfl, hw2⟩
    subst hw2
    cases h0 : hasB (itL f.kind) 105
    · have H0 := hid h0
      clear h0
      go_wp2_with fail
      refine (rhas_any (itL f.kind) 97 _ HLN.out).mono ?_
      rintro e w2 ⟨rfl, hw2⟩
      subst hw2
      cases h1 : hasB (itL f.kind) 97
      · have H1 := hid h1
        clear h1
        go_wp2_with fail
        refine (rhas_any (itL f.kind) 110 _ HLN.out).mono ?_
        rintro e w2 ⟨rfl, hw2⟩
        subst hw2
        cases h2 : hasB (itL f.kind) 110
        · have H2 := hid h2
          clear h2
          go_wp2_with fail
          refine (rhas_any (itL f.kind) 99 _ HLN.out).mono ?_
          rintro e w2 ⟨rfl, hw2⟩
          subst hw2
          cases h3 : hasB (itL f.kind) 99
          · have H3 := hid h3
            clear h3
            go_wp2_with fail
            go_meet
            case rel => exact ⟨by unfold rt1; simp [H0.out, H1.out, H2.out, H3.out], rfl⟩
          · have H3 := hid h3
            clear h3
            go_wp2_with fail
            refine (rnum_any f.code _).mono ?_
            rintro e w2 ⟨rfl, hw2⟩
            subst hw2
            cases n3 : isN f.code
            · have N3 := hid n3
              clear n3
              go_wp2_with fail
              go_meet
              case rel => exact ⟨by unfold rt1; simp [H0.out, H1.out, H2.out, H3.out, N3.out], rfl⟩
            · have N3 := hid n3
              clear n3
              go_wp2_with fail
              go_meet
              case rel => exact ⟨by unfold rt1; simp [H0.out, H1.out, H2.out, H3.out, N3.out], rfl⟩
        · have H2 := hid h2
          clear h2
          go_wp2_with fail
          refine (rnum_any f.num _).mono ?_
          rintro e w2 ⟨rfl, hw2⟩
          subst hw2
          cases n2 : isN f.num
          · have N2 := hid n2
            clear n2
            go_wp2_with fail
            go_meet
            case rel => exact ⟨by unfold rt1; simp [H0.out, H1.out, H2.out, N2.out], rfl⟩
          · have N2 := hid n2
            clear n2
            go_wp2_with fail
            refine (rhas_any (itL f.kind) 99 _ HLN.out).mono ?_
            rintro e w2 ⟨rfl, hw2⟩
            subst hw2
            cases h3 : hasB (itL f.kind) 99
            · have H3 := hid h3
              clear h3
              go_wp2_with fail
              go_meet
              case rel => exact ⟨by unfold rt1; simp [H0.out, H1.out, H2.out, N2.out, H3.out], rfl⟩
            · have H3 := hid h3
              clear h3
              go_wp2_with fail
              refine (rnum_any f.code _).mono ?_
              rintro e w2 ⟨rfl, hw2⟩
              subst hw2
              cases n3 : isN f.code
              · have N3 := hid n3
                clear n3
                go_wp2_with fail
                go_meet
                case rel => exact ⟨by unfold rt1; simp [H0.out, H1.out, H2.out, N2.out, H3.out, N3.out], rfl⟩
              · have N3 := hid n3
                clear n3
                go_wp2_with fail
                go_meet
                case rel => exact ⟨by unfold rt1; simp [H0.out, H1.out, H2.out, N2.out, H3.out, N3.out], rfl⟩
      · have H1 := hid h1
        clear h1
        go_wp2_with fail
        refine (rnum_any f.pl _).mono ?_
        rintro e w2 ⟨rfl, hw2⟩
        subst hw2
        cases n1 : isN f.pl
        · have N1 := hid n1
          clear n1
          go_wp2_with fail
          go_meet
          case rel => exact ⟨by unfold rt1; simp [H0.out, H1.out, N1.out], rfl⟩
        · have N1 := hid n1
          clear n1
          go_wp2_with fail
          refine (rhas_any (itL f.kind) 110 _ HLN.out).mono ?_
          rintro e w2 ⟨rfl, hw2⟩
          subst hw2
          cases h2 : hasB (itL f.kind) 110
          · have H2 := hid h2
            clear h2
            go_wp2_with fail
            refine (rhas_any (itL f.kind) 99 _ HLN.out).mono ?_
            rintro e w2 ⟨rfl, hw2⟩
            subst hw2
            cases h3 : hasB (itL f.kind) 99
            · have H3 := hid h3
              clear h3
              go_wp2_with fail
              go_meet
              case rel => exact ⟨by unfold rt1; simp [H0.out, H1.out, N1.out, H2.out, H3.out], rfl⟩
            · have H3 := hid h3
              clear h3
              go_wp2_with fail
              refine (rnum_any f.code _).mono ?_
              rintro e w2 ⟨rfl, hw2⟩
              subst hw2
              cases n3 : isN f.code
              · have N3 := hid n3
                clear n3
                go_wp2_with fail
                go_meet
                case rel => exact ⟨by unfold rt1; simp [H0.out, H1.out, N1.out, H2.out, H3.out, N3.out], rfl⟩
              · have N3 := hid n3
                clear n3
                go_wp2_with fail
                go_meet
                case rel => exact ⟨by unfold rt1; simp [H0.out, H1.out, N1.out, H2.out, H3.out, N3.out], rfl⟩
          · have H2 := hid h2
            clear h2
            go_wp2_with fail
            refine (rnum_any f.num _).mono ?_
            rintro e w2 ⟨rfl, hw2⟩
            subst hw2
            cases n2 : isN f.num
            · have N2 := hid n2
              clear n2
              go_wp2_with fail
              go_meet
              case rel => exact ⟨by unfold rt1; simp [H0.out, H1.out, N1.out, H2.out, N2.out], rfl⟩
            · have N2 := hid n2
              clear n2
              go_wp2_with fail
              refine (rhas_any (itL f.kind) 99 _ HLN.out).mono ?_
              rintro e w2 ⟨rfl, hw2⟩
              subst hw2
              cases h3 : hasB (itL f.kind) 99
              · have H3 := hid h3
                clear h3
                go_wp2_with fail
                go_meet
                case rel => exact ⟨by unfold rt1; simp [H0.out, H1.out, N1.out, H2.out, N2.out, H3.out], rfl⟩
              · have H3 := hid h3
                clear h3
                go_wp2_with fail
                refine (rnum_any f.code _).mono ?_
                rintro e w2 ⟨rfl, hw2⟩
                subst hw2
                cases n3 : isN f.code
                · have N3 := hid n3
                  clear n3
                  go_wp2_with fail
                  go_meet
                  case rel => exact ⟨by unfold rt1; simp [H0.out, H1.out, N1.out, H2.out, N2.out, H3.out, N3.out], rfl⟩
                · have N3 := hid n3
                  clear n3
                  go_wp2_with fail
                  go_meet
                  case rel => exact ⟨by unfold rt1; simp [H0.out, H1.out, N1.out, H2.out, N2.out, H3.out, N3.out], rfl⟩
    · have H0 := hid h0
      clear h0
      go_wp2_with fail
      refine (rnum_any f.id _).mono ?_
      rintro e w2 ⟨rfl, hw2⟩
      subst hw2
      cases n0 : isN f.id
      · have N0 := hid n0
        clear n0
        go_wp2_with fail
        go_meet
        case rel => exact ⟨by unfold rt1; simp [H0.out, N0.out], rfl⟩
      · have N0 := hid n0
        clear n0
        go_wp2_with fail
        refine (rhas_any (itL f.kind) 97 _ HLN.out).mono ?_
        rintro e w2 ⟨rfl, hw2⟩
        subst hw2
        cases h1 : hasB (itL f.kind) 97
        · have H1 := hid h1
          clear h1
          go_wp2_with fail
          refine (rhas_any (itL f.kind) 110 _ HLN.out).mono ?_
          rintro e w2 ⟨rfl, hw2⟩
          subst hw2
          cases h2 : hasB (itL f.kind) 110
          · have H2 := hid h2
            clear h2
            go_wp2_with fail
            refine (rhas_any (itL f.kind) 99 _ HLN.out).mono ?_
            rintro e w2 ⟨rfl, hw2⟩
            subst hw2
            cases h3 : hasB (itL f.kind) 99
            · have H3 := hid h3
              clear h3
              go_wp2_with fail
              go_meet
              case rel => exact ⟨by unfold rt1; simp [H0.out, N0.out, H1.out, H2.out, H3.out], rfl⟩
            · have H3 := hid h3
              clear h3
              go_wp2_with fail
              refine (rnum_any f.code _).mono ?_
              rintro e w2 ⟨rfl, hw2⟩
              subst hw2
              cases n3 : isN f.code
              · have N3 := hid n3
                clear n3
                go_wp2_with fail
                go_meet
                case rel => exact ⟨by unfold rt1; simp [H0.out, N0.out, H1.out, H2.out, H3.out, N3.out], rfl⟩
              · have N3 := hid n3
                clear n3
                go_wp2_with fail
                go_meet
                case rel => exact ⟨by unfold rt1; simp [H0.out, N0.out, H1.out, H2.out, H3.out, N3.out], rfl⟩
          · have H2 := hid h2
            clear h2
            go_wp2_with fail
            refine (rnum_any f.num _).mono ?_
            rintro e w2 ⟨rfl, hw2⟩
            subst hw2
            cases n2 : isN f.num
            · have N2 := hid n2
              clear n2
              go_wp2_with fail
              go_meet
              case rel => exact ⟨by unfold rt1; simp [H0.out, N0.out, H1.out, H2.out, N2.out], rfl⟩
            · have N2 := hid n2
              clear n2
              go_wp2_with fail
              refine (rhas_any (itL f.kind) 99 _ HLN.out).mono ?_
              rintro e w2 ⟨rfl, hw2⟩
              subst hw2
              cases h3 : hasB (itL f.kind) 99
              · have H3 := hid h3
                clear h3
                go_wp2_with fail
                go_meet
                case rel => exact ⟨by unfold rt1; simp [H0.out, N0.out, H1.out, H2.out, N2.out, H3.out], rfl⟩
              · have H3 := hid h3
                clear h3
                go_wp2_with fail
                refine (rnum_any f.code _).mono ?_
                rintro e w2 ⟨rfl, hw2⟩
                subst hw2
                cases n3 : isN f.code
                · have N3 := hid n3
                  clear n3
                  go_wp2_with fail
                  go_meet
                  case rel => exact ⟨by unfold rt1; simp [H0.out, N0.out, H1.out, H2.out, N2.out, H3.out, N3.out], rfl⟩
                · have N3 := hid n3
                  clear n3
                  go_wp2_with fail
                  go_meet
                  case rel => exact ⟨by unfold rt1; simp [H0.out, N0.out, H1.out, H2.out, N2.out, H3.out, N3.out], rfl⟩
        · have H1 := hid h1
          clear h1
          go_wp2_with fail
          refine (rnum_any f.pl _).mono ?_
          rintro e w2 ⟨rfl, hw2⟩
          subst hw2
          cases n1 : isN f.pl
          · have N1 := hid n1
            clear n1
            go_wp2_with fail
            go_meet
            case rel => exact ⟨by unfold rt1; simp [H0.out, N0.out, H1.out, N1.out], rfl⟩
          · have N1 := hid n1
            clear n1
            go_wp2_with fail
            refine (rhas_any (itL f.kind) 110 _ HLN.out).mono ?_
            rintro e w2 ⟨rfl, hw2⟩
            subst hw2
            cases h2 : hasB (itL f.kind) 110
            · have H2 := hid h2
              clear h2
              go_wp2_with fail
              refine (rhas_any (itL f.kind) 99 _ HLN.out).mono ?_
              rintro e w2 ⟨rfl, hw2⟩
              subst hw2
              cases h3 : hasB (itL f.kind) 99
              · have H3 := hid h3
                clear h3
                go_wp2_with fail
                go_meet
                case rel => exact ⟨by unfold rt1; simp [H0.out, N0.out, H1.out, N1.out, H2.out, H3.out], rfl⟩
              · have H3 := hid h3
                clear h3
                go_wp2_with fail
                refine (rnum_any f.code _).mono ?_
                rintro e w2 ⟨rfl, hw2⟩
                subst hw2
                cases n3 : isN f.code
                · have N3 := hid n3
                  clear n3
                  go_wp2_with fail
                  go_meet
                  case rel => exact ⟨by unfold rt1; simp [H0.out, N0.out, H1.out, N1.out, H2.out, H3.out, N3.out], rfl⟩
                · have N3 := hid n3
                  clear n3
                  go_wp2_with fail
                  go_meet
                  case rel => exact ⟨by unfold rt1; simp [H0.out, N0.out, H1.out, N1.out, H2.out, H3.out, N3.out], rfl⟩
            · have H2 := hid h2
              clear h2
              go_wp2_with fail
              refine (rnum_any f.num _).mono ?_
              rintro e w2 ⟨rfl, hw2⟩
              subst hw2
              cases n2 : isN f.num
              · have N2 := hid n2
                clear n2
                go_wp2_with fail
                go_meet
                case rel => exact ⟨by unfold rt1; simp [H0.out, N0.out, H1.out, N1.out, H2.out, N2.out], rfl⟩
              · have N2 := hid n2
                clear n2
                go_wp2_with fail
                refine (rhas_any (itL f.kind) 99 _ HLN.out).mono ?_
                rintro e w2 ⟨rfl, hw2⟩
                subst hw2
                cases h3 : hasB (itL f.kind) 99
                · have H3 := hid h3
                  clear h3
                  go_wp2_with fail
                  go_meet
                  case rel => exact ⟨by unfold rt1; simp [H0.out, N0.out, H1.out, N1.out, H2.out, N2.out, H3.out], rfl⟩
                · have H3 := hid h3
                  clear h3
                  go_wp2_with fail
                  refine (rnum_any f.code _).mono ?_
                  rintro e w2 ⟨rfl, hw2⟩
                  subst hw2
                  cases n3 : isN f.code
                  · have N3 := hid n3
                    clear n3
                    go_wp2_with fail
                    go_meet
                    case rel => exact ⟨by unfold rt1; simp [H0.out, N0.out, H1.out, N1.out, H2.out, N2.out, H3.out, N3.out], rfl⟩
                  · have N3 := hid n3
                    clear n3
                    go_wp2_with fail
                    go_meet
                    case rel => exact ⟨by unfold rt1; simp [H0.out, N0.out, H1.out, N1.out, H2.out, N2.out, H3.out, N3.out], rfl⟩
  case rest =>
    obtain ⟨rfl, hw⟩ := hcut
    subst hw
    cases r1 : rt1 f
    · have H1 := hid (show chk f = if rt2 f = true then 51 else if rt3 f = true then 51 else 0 from by rw [HR.out, r1]; rfl)
      clear r1
      go_upto_region 8 with fail
      go_cut [94] from 56 (fun v wc => v = .bool (rt2 f) ∧ Q w0 wc)
      case first =>
        go_wp2_with fail
        refine (rhas_any (itL f.kind) 115 _ HLN.out).mono ?_
        rintro e w2 ⟨rfl, hw2⟩
        subst hw2
        cases h4 : hasB (itL f.kind) 115
        · have H4 := hid h4
          clear h4
          go_wp2_with fail
          refine (rhas_any (itL f.kind) 101 _ HLN.out).mono ?_
          rintro e w2 ⟨rfl, hw2⟩
          subst hw2
          cases h5 : hasB (itL f.kind) 101
          · have H5 := hid h5
            clear h5
            go_wp2_with fail
            go_meet
            case rel => exact ⟨by unfold rt2; simp [H4.out, H5.out], Q.refl _⟩
          · have H5 := hid h5
            clear h5
            go_wp2_with fail
            refine (rnum_any f.e0 _).mono ?_
            rintro e w2 ⟨rfl, hw2⟩
            subst hw2
            cases n10 : isN f.e0
            · have N10 := hid n10
              clear n10
              go_wp2_with fail
              go_meet
              case rel => exact ⟨by unfold rt2; simp [H4.out, H5.out, N10.out], Q.refl _⟩
            · have N10 := hid n10
              clear n10
              go_wp2_with fail
              refine (rnum_any f.e1 _).mono ?_
              rintro e w2 ⟨rfl, hw2⟩
              subst hw2
              cases n11 : isN f.e1
              · have N11 := hid n11
                clear n11
                go_wp2_with fail
                go_meet
                case rel => exact ⟨by unfold rt2; simp [H4.out, H5.out, N10.out, N11.out], Q.refl _⟩
              · have N11 := hid n11
                clear n11
                go_wp2_with fail
                refine (rnum_any f.e2 _).mono ?_
                rintro e w2 ⟨rfl, hw2⟩
                subst hw2
                cases n12 : isN f.e2
                · have N12 := hid n12
                  clear n12
                  go_wp2_with fail
                  go_meet
                  case rel => exact ⟨by unfold rt2; simp [H4.out, H5.out, N10.out, N11.out, N12.out], Q.refl _⟩
                · have N12 := hid n12
                  clear n12
                  go_wp2_with fail
                  go_meet
                  case rel => exact ⟨by unfold rt2; simp [H4.out, H5.out, N10.out, N11.out, N12.out], Q.refl _⟩
        · have H4 := hid h4
          clear h4
          go_wp2_with fail
          refine (rspans_any s f.sp _ HH.out.sl (HH.out.ss.q Q0.out)).mono ?_
          rintro e wS ⟨rfl, qS⟩
          have QS := hid qS
          have hbS := (Below.block qS _ (lt_of_block HB0.out)).trans HB0.out
          obtain ⟨g0, g1, g2, g3, g4, g5, g6, g7, g8, g9, g10, g11, g12⟩ := Box.all hbS
          clear hbS qS e0 e1 e2 e3 e4 e5 e6 e7 e8 e9 e10 e11 e12
          cases h6 : spansB f.sp
          · have H6 := hid h6
            clear h6
            go_wp2_with fail
            go_meet
            case rel => exact ⟨by unfold rt2; simp [H4.out, H6.out], QS.out⟩
          · have H6 := hid h6
            clear h6
            go_wp2_with fail
            refine (rnum_any f.dl _).mono ?_
            rintro e w2 ⟨rfl, hw2⟩
            subst hw2
            cases n7 : isN f.dl
            · have N7 := hid n7
              clear n7
              go_wp2_with fail
              go_meet
              case rel => exact ⟨by unfold rt2; simp [H4.out, H6.out, N7.out], QS.out⟩
            · have N7 := hid n7
              clear n7
              go_wp2_with fail
              refine (rhas_any (itL f.kind) 101 _ HLN.out).mono ?_
              rintro e w2 ⟨rfl, hw2⟩
              subst hw2
              cases h5 : hasB (itL f.kind) 101
              · have H5 := hid h5
                clear h5
                go_wp2_with fail
                go_meet
                case rel => exact ⟨by unfold rt2; simp [H4.out, H6.out, N7.out, H5.out], QS.out⟩
              · have H5 := hid h5
                clear h5
                go_wp2_with fail
                refine (rnum_any f.e0 _).mono ?_
                rintro e w2 ⟨rfl, hw2⟩
                subst hw2
                cases n10 : isN f.e0
                · have N10 := hid n10
                  clear n10
                  go_wp2_with fail
                  go_meet
                  case rel => exact ⟨by unfold rt2; simp [H4.out, H6.out, N7.out, H5.out, N10.out], QS.out⟩
                · have N10 := hid n10
                  clear n10
                  go_wp2_with fail
                  refine (rnum_any f.e1 _).mono ?_
                  rintro e w2 ⟨rfl, hw2⟩
                  subst hw2
                  cases n11 : isN f.e1
                  · have N11 := hid n11
                    clear n11
                    go_wp2_with fail
                    go_meet
                    case rel => exact ⟨by unfold rt2; simp [H4.out, H6.out, N7.out, H5.out, N10.out, N11.out], QS.out⟩
                  · have N11 := hid n11
                    clear n11
                    go_wp2_with fail
                    refine (rnum_any f.e2 _).mono ?_
                    rintro e w2 ⟨rfl, hw2⟩
                    subst hw2
                    cases n12 : isN f.e2
                    · have N12 := hid n12
                      clear n12
                      go_wp2_with fail
                      go_meet
                      case rel => exact ⟨by unfold rt2; simp [H4.out, H6.out, N7.out, H5.out, N10.out, N11.out, N12.out], QS.out⟩
                    · have N12 := hid n12
                      clear n12
                      go_wp2_with fail
                      go_meet
                      case rel => exact ⟨by unfold rt2; simp [H4.out, H6.out, N7.out, H5.out, N10.out, N11.out, N12.out], QS.out⟩
      case rest =>
        obtain ⟨rfl, hq⟩ := hcut
        have QC := hid (Q0.out.trans hq)
        have hbS := (Below.block hq _ (lt_of_block HB0.out)).trans HB0.out
        obtain ⟨g0, g1, g2, g3, g4, g5, g6, g7, g8, g9, g10, g11, g12⟩ := Box.all hbS
        clear hbS hq e0 e1 e2 e3 e4 e5 e6 e7 e8 e9 e10 e11 e12
        cases r2 : rt2 f
        · have H3 := hid (show chk f = if rt3 f = true then 51 else 0 from by rw [H1.out, r2]; rfl)
          clear r2
          by_cases k0 : f.kind = 0
          · have hk0 := k0
            have b0 : (f.kind == 0) = true := by rw [hk0]; rfl
            have b6 : (f.kind == 6) = false := by rw [hk0]; rfl
            have b8 : (f.kind == 8) = false := by rw [hk0]; rfl
            have b7 : (f.kind == 7) = false := by rw [hk0]; rfl
            have b18 : (f.kind == 18) = false := by rw [hk0]; rfl
            have b19 : (f.kind == 19) = false := by rw [hk0]; rfl
            have b22 : (f.kind == 22) = false := by rw [hk0]; rfl
            have b23 : (f.kind == 23) = false := by rw [hk0]; rfl
            have b24 : (f.kind == 24) = false := by rw [hk0]; rfl
            have b26 : (f.kind == 26) = false := by rw [hk0]; rfl
            have b27 : (f.kind == 27) = false := by rw [hk0]; rfl
            have V3 := hid (show rt3 f = (decide (f.num < 1) || decide (16384 < f.num)) from by unfold rt3; rw [hk0]; rfl)
            have HK0 := hid hk0
            clear hk0
            by_cases p1 : f.num < 1
            · have d1 : decide (f.num < 1) = true := by simp [p1]
              have R3 := hid (show rt3 f = true from by rw [V3.out, d1]; rfl)
              clear p1
              go_wp2
              go_ret
              exact ⟨ret_int (by rw [H3.out, R3.out]; rfl), QC.out⟩
            · have d1 : decide (f.num < 1) = false := by simp; omega
              by_cases p2 : 16384 < f.num
              · have d2 : decide (16384 < f.num) = true := by simp [p2]
                have R3 := hid (show rt3 f = true from by rw [V3.out, d1, d2]; rfl)
                clear p1 p2
                go_wp2
                go_ret
                exact ⟨ret_int (by rw [H3.out, R3.out]; rfl), QC.out⟩
              · have d2 : decide (16384 < f.num) = false := by simp; omega
                have R3 := hid (show rt3 f = false from by rw [V3.out, d1, d2]; rfl)
                clear p1 p2
                go_wp2
                go_ret
                exact ⟨ret_int (by rw [H3.out, R3.out]; rfl), QC.out⟩
          by_cases k6 : f.kind = 6
          · have hk0 := k6
            have b0 : (f.kind == 0) = false := by rw [hk0]; rfl
            have b6 : (f.kind == 6) = true := by rw [hk0]; rfl
            have b8 : (f.kind == 8) = false := by rw [hk0]; rfl
            have b7 : (f.kind == 7) = false := by rw [hk0]; rfl
            have b18 : (f.kind == 18) = false := by rw [hk0]; rfl
            have b19 : (f.kind == 19) = false := by rw [hk0]; rfl
            have b22 : (f.kind == 22) = false := by rw [hk0]; rfl
            have b23 : (f.kind == 23) = false := by rw [hk0]; rfl
            have b24 : (f.kind == 24) = false := by rw [hk0]; rfl
            have b26 : (f.kind == 26) = false := by rw [hk0]; rfl
            have b27 : (f.kind == 27) = false := by rw [hk0]; rfl
            have V3 := hid (show rt3 f = (decide (4611686018427387903 - (f.data.length : Int) < f.pl)) from by unfold rt3; rw [hk0]; rfl)
            have HK0 := hid hk0
            clear hk0
            have hwd : IntKind.i64.wrap (4611686018427387903 - (d.n : Int)) = 4611686018427387903 - (d.n : Int) := by rw [IntKind.wrap_i64]; omega
            by_cases p1 : 4611686018427387903 - (d.n : Int) < f.pl
            · have d1 : decide (4611686018427387903 - (d.n : Int) < f.pl) = true := by simp [p1]
              have R3 := hid (show rt3 f = true from by rw [V3.out]; rw [HDL.out]; exact d1)
              clear p1
              go_wp2
              go_ret
              exact ⟨ret_int (by rw [H3.out, R3.out]; rfl), QC.out⟩
            · have d1 : decide (4611686018427387903 - (d.n : Int) < f.pl) = false := by simp [p1]
              have R3 := hid (show rt3 f = false from by rw [V3.out]; rw [HDL.out]; exact d1)
              clear p1
              go_wp2
              go_ret
              exact ⟨ret_int (by rw [H3.out, R3.out]; rfl), QC.out⟩
          by_cases k8 : f.kind = 8
          · have hk0 := k8
            have b0 : (f.kind == 0) = false := by rw [hk0]; rfl
            have b6 : (f.kind == 6) = false := by rw [hk0]; rfl
            have b8 : (f.kind == 8) = true := by rw [hk0]; rfl
            have b7 : (f.kind == 7) = false := by rw [hk0]; rfl
            have b18 : (f.kind == 18) = false := by rw [hk0]; rfl
            have b19 : (f.kind == 19) = false := by rw [hk0]; rfl
            have b22 : (f.kind == 22) = false := by rw [hk0]; rfl
            have b23 : (f.kind == 23) = false := by rw [hk0]; rfl
            have b24 : (f.kind == 24) = false := by rw [hk0]; rfl
            have b26 : (f.kind == 26) = false := by rw [hk0]; rfl
            have b27 : (f.kind == 27) = false := by rw [hk0]; rfl
            have V3 := hid (show rt3 f = (decide (4611686018427387903 - (f.data.length : Int) < f.pl)) from by unfold rt3; rw [hk0]; rfl)
            have HK0 := hid hk0
            clear hk0
            have hwd : IntKind.i64.wrap (4611686018427387903 - (d.n : Int)) = 4611686018427387903 - (d.n : Int) := by rw [IntKind.wrap_i64]; omega
            by_cases p1 : 4611686018427387903 - (d.n : Int) < f.pl
            · have d1 : decide (4611686018427387903 - (d.n : Int) < f.pl) = true := by simp [p1]
              have R3 := hid (show rt3 f = true from by rw [V3.out]; rw [HDL.out]; exact d1)
              clear p1
              go_wp2
              go_ret
              exact ⟨ret_int (by rw [H3.out, R3.out]; rfl), QC.out⟩
            · have d1 : decide (4611686018427387903 - (d.n : Int) < f.pl) = false := by simp [p1]
              have R3 := hid (show rt3 f = false from by rw [V3.out]; rw [HDL.out]; exact d1)
              clear p1
              go_wp2
              go_ret
              exact ⟨ret_int (by rw [H3.out, R3.out]; rfl), QC.out⟩
          by_cases k7 : f.kind = 7
          · have hk0 := k7
            have b0 : (f.kind == 0) = false := by rw [hk0]; rfl
            have b6 : (f.kind == 6) = false := by rw [hk0]; rfl
            have b8 : (f.kind == 8) = false := by rw [hk0]; rfl
            have b7 : (f.kind == 7) = true := by rw [hk0]; rfl
            have b18 : (f.kind == 18) = false := by rw [hk0]; rfl
            have b19 : (f.kind == 19) = false := by rw [hk0]; rfl
            have b22 : (f.kind == 22) = false := by rw [hk0]; rfl
            have b23 : (f.kind == 23) = false := by rw [hk0]; rfl
            have b24 : (f.kind == 24) = false := by rw [hk0]; rfl
            have b26 : (f.kind == 26) = false := by rw [hk0]; rfl
            have b27 : (f.kind == 27) = false := by rw [hk0]; rfl
            have V3 := hid (show rt3 f = (decide (f.data.length = 0)) from by unfold rt3; rw [hk0]; rfl)
            have HK0 := hid hk0
            clear hk0
            by_cases p1 : d.n = 0
            · have d1 : decide (d.n = 0) = true := by simp [p1]
              have R3 := hid (show rt3 f = true from by rw [V3.out]; rw [HDL.out]; exact d1)
              have d2 : ((d.n : Int) == 0) = true := by simp [p1]
              clear p1
              go_wp2
              go_ret
              exact ⟨ret_int (by rw [H3.out, R3.out]; rfl), QC.out⟩
            · have d1 : decide (d.n = 0) = false := by simp [p1]
              have R3 := hid (show rt3 f = false from by rw [V3.out]; rw [HDL.out]; exact d1)
              have d2 : ((d.n : Int) == 0) = false := by simp [p1]
              clear p1
              go_wp2
              go_ret
              exact ⟨ret_int (by rw [H3.out, R3.out]; rfl), QC.out⟩
          by_cases k18 : f.kind = 18
          · have hk0 := k18
            have b0 : (f.kind == 0) = false := by rw [hk0]; rfl
            have b6 : (f.kind == 6) = false := by rw [hk0]; rfl
            have b8 : (f.kind == 8) = false := by rw [hk0]; rfl
            have b7 : (f.kind == 7) = false := by rw [hk0]; rfl
            have b18 : (f.kind == 18) = true := by rw [hk0]; rfl
            have b19 : (f.kind == 19) = false := by rw [hk0]; rfl
            have b22 : (f.kind == 22) = false := by rw [hk0]; rfl
            have b23 : (f.kind == 23) = false := by rw [hk0]; rfl
            have b24 : (f.kind == 24) = false := by rw [hk0]; rfl
            have b26 : (f.kind == 26) = false := by rw [hk0]; rfl
            have b27 : (f.kind == 27) = false := by rw [hk0]; rfl
            have V3 := hid (show rt3 f = (decide (1152921504606846976 < f.num)) from by unfold rt3; rw [hk0]; rfl)
            have HK0 := hid hk0
            clear hk0
            by_cases p1 : 1152921504606846976 < f.num
            · have d1 : decide (1152921504606846976 < f.num) = true := by simp [p1]
              have R3 := hid (show rt3 f = true from by rw [V3.out]; exact d1)
              clear p1
              go_wp2
              go_ret
              exact ⟨ret_int (by rw [H3.out, R3.out]; rfl), QC.out⟩
            · have d1 : decide (1152921504606846976 < f.num) = false := by simp [p1]
              have R3 := hid (show rt3 f = false from by rw [V3.out]; exact d1)
              clear p1
              go_wp2
              go_ret
              exact ⟨ret_int (by rw [H3.out, R3.out]; rfl), QC.out⟩
          by_cases k19 : f.kind = 19
          · have hk0 := k19
            have b0 : (f.kind == 0) = false := by rw [hk0]; rfl
            have b6 : (f.kind == 6) = false := by rw [hk0]; rfl
            have b8 : (f.kind == 8) = false := by rw [hk0]; rfl
            have b7 : (f.kind == 7) = false := by rw [hk0]; rfl
            have b18 : (f.kind == 18) = false := by rw [hk0]; rfl
            have b19 : (f.kind == 19) = true := by rw [hk0]; rfl
            have b22 : (f.kind == 22) = false := by rw [hk0]; rfl
            have b23 : (f.kind == 23) = false := by rw [hk0]; rfl
            have b24 : (f.kind == 24) = false := by rw [hk0]; rfl
            have b26 : (f.kind == 26) = false := by rw [hk0]; rfl
            have b27 : (f.kind == 27) = false := by rw [hk0]; rfl
            have V3 := hid (show rt3 f = (decide (1152921504606846976 < f.num)) from by unfold rt3; rw [hk0]; rfl)
            have HK0 := hid hk0
            clear hk0
            by_cases p1 : 1152921504606846976 < f.num
            · have d1 : decide (1152921504606846976 < f.num) = true := by simp [p1]
              have R3 := hid (show rt3 f = true from by rw [V3.out]; exact d1)
              clear p1
              go_wp2
              go_ret
              exact ⟨ret_int (by rw [H3.out, R3.out]; rfl), QC.out⟩
            · have d1 : decide (1152921504606846976 < f.num) = false := by simp [p1]
              have R3 := hid (show rt3 f = false from by rw [V3.out]; exact d1)
              clear p1
              go_wp2
              go_ret
              exact ⟨ret_int (by rw [H3.out, R3.out]; rfl), QC.out⟩
          by_cases k22 : f.kind = 22
          · have hk0 := k22
            have b0 : (f.kind == 0) = false := by rw [hk0]; rfl
            have b6 : (f.kind == 6) = false := by rw [hk0]; rfl
            have b8 : (f.kind == 8) = false := by rw [hk0]; rfl
            have b7 : (f.kind == 7) = false := by rw [hk0]; rfl
            have b18 : (f.kind == 18) = false := by rw [hk0]; rfl
            have b19 : (f.kind == 19) = false := by rw [hk0]; rfl
            have b22 : (f.kind == 22) = true := by rw [hk0]; rfl
            have b23 : (f.kind == 23) = false := by rw [hk0]; rfl
            have b24 : (f.kind == 24) = false := by rw [hk0]; rfl
            have b26 : (f.kind == 26) = false := by rw [hk0]; rfl
            have b27 : (f.kind == 27) = false := by rw [hk0]; rfl
            have V3 := hid (show rt3 f = (decide (1152921504606846976 < f.num)) from by unfold rt3; rw [hk0]; rfl)
            have HK0 := hid hk0
            clear hk0
            by_cases p1 : 1152921504606846976 < f.num
            · have d1 : decide (1152921504606846976 < f.num) = true := by simp [p1]
              have R3 := hid (show rt3 f = true from by rw [V3.out]; exact d1)
              clear p1
              go_wp2
              go_ret
              exact ⟨ret_int (by rw [H3.out, R3.out]; rfl), QC.out⟩
            · have d1 : decide (1152921504606846976 < f.num) = false := by simp [p1]
              have R3 := hid (show rt3 f = false from by rw [V3.out]; exact d1)
              clear p1
              go_wp2
              go_ret
              exact ⟨ret_int (by rw [H3.out, R3.out]; rfl), QC.out⟩
          by_cases k23 : f.kind = 23
          · have hk0 := k23
            have b0 : (f.kind == 0) = false := by rw [hk0]; rfl
            have b6 : (f.kind == 6) = false := by rw [hk0]; rfl
            have b8 : (f.kind == 8) = false := by rw [hk0]; rfl
            have b7 : (f.kind == 7) = false := by rw [hk0]; rfl
            have b18 : (f.kind == 18) = false := by rw [hk0]; rfl
            have b19 : (f.kind == 19) = false := by rw [hk0]; rfl
            have b22 : (f.kind == 22) = false := by rw [hk0]; rfl
            have b23 : (f.kind == 23) = true := by rw [hk0]; rfl
            have b24 : (f.kind == 24) = false := by rw [hk0]; rfl
            have b26 : (f.kind == 26) = false := by rw [hk0]; rfl
            have b27 : (f.kind == 27) = false := by rw [hk0]; rfl
            have V3 := hid (show rt3 f = (decide (1152921504606846976 < f.num)) from by unfold rt3; rw [hk0]; rfl)
            have HK0 := hid hk0
            clear hk0
            by_cases p1 : 1152921504606846976 < f.num
            · have d1 : decide (1152921504606846976 < f.num) = true := by simp [p1]
              have R3 := hid (show rt3 f = true from by rw [V3.out]; exact d1)
              clear p1
              go_wp2
              go_ret
              exact ⟨ret_int (by rw [H3.out, R3.out]; rfl), QC.out⟩
            · have d1 : decide (1152921504606846976 < f.num) = false := by simp [p1]
              have R3 := hid (show rt3 f = false from by rw [V3.out]; exact d1)
              clear p1
              go_wp2
              go_ret
              exact ⟨ret_int (by rw [H3.out, R3.out]; rfl), QC.out⟩
          by_cases k24 : f.kind = 24
          · have hk0 := k24
            have b0 : (f.kind == 0) = false := by rw [hk0]; rfl
            have b6 : (f.kind == 6) = false := by rw [hk0]; rfl
            have b8 : (f.kind == 8) = false := by rw [hk0]; rfl
            have b7 : (f.kind == 7) = false := by rw [hk0]; rfl
            have b18 : (f.kind == 18) = false := by rw [hk0]; rfl
            have b19 : (f.kind == 19) = false := by rw [hk0]; rfl
            have b22 : (f.kind == 22) = false := by rw [hk0]; rfl
            have b23 : (f.kind == 23) = false := by rw [hk0]; rfl
            have b24 : (f.kind == 24) = true := by rw [hk0]; rfl
            have b26 : (f.kind == 26) = false := by rw [hk0]; rfl
            have b27 : (f.kind == 27) = false := by rw [hk0]; rfl
            have V3 := hid (show rt3 f = (decide (f.num < f.pl) || decide (f.cid.length < 1) || decide (20 < f.cid.length) || decide (f.data.length ≠ 16)) from by unfold rt3; rw [hk0]; rfl)
            have HK0 := hid hk0
            clear hk0
            by_cases p1 : f.num < f.pl
            · have d1 : decide (f.num < f.pl) = true := by simp [p1]
              have R3 := hid (show rt3 f = true from by rw [V3.out, d1]; rfl)
              clear p1
              go_wp2
              go_ret
              exact ⟨ret_int (by rw [H3.out, R3.out]; rfl), QC.out⟩
            · have d1 : decide (f.num < f.pl) = false := by simp; omega
              by_cases p2 : c.n < 1
              · have d2 : decide ((c.n : Int) < 1) = true := by simp; omega
                have R3 := hid (show rt3 f = true from by rw [V3.out, HCL.out, d1, decide_eq_true p2]; rfl)
                clear p1 p2
                go_wp2
                go_ret
                exact ⟨ret_int (by rw [H3.out, R3.out]; rfl), QC.out⟩
              · have d2 : decide ((c.n : Int) < 1) = false := by simp; omega
                by_cases p3 : 20 < c.n
                · have d3 : decide ((20 : Int) < (c.n : Int)) = true := by simp; omega
                  have R3 := hid (show rt3 f = true from by rw [V3.out, HCL.out, d1, decide_eq_false p2, decide_eq_true p3]; rfl)
                  clear p1 p2 p3
                  go_wp2
                  go_ret
                  exact ⟨ret_int (by rw [H3.out, R3.out]; rfl), QC.out⟩
                · have d3 : decide ((20 : Int) < (c.n : Int)) = false := by simp; omega
                  by_cases p4 : d.n ≠ 16
                  · have d4 : ((d.n : Int) != 16) = true := by simp; omega
                    have R3 := hid (show rt3 f = true from by rw [V3.out, HCL.out, HDL.out, d1, decide_eq_false p2, decide_eq_false p3, decide_eq_true p4]; rfl)
                    clear p1 p2 p3 p4
                    go_wp2
                    go_ret
                    exact ⟨ret_int (by rw [H3.out, R3.out]; rfl), QC.out⟩
                  · have d4 : ((d.n : Int) != 16) = false := by simp; omega
                    have R3 := hid (show rt3 f = false from by rw [V3.out, HCL.out, HDL.out, d1, decide_eq_false p2, decide_eq_false p3, decide_eq_false p4]; rfl)
                    clear p1 p2 p3 p4
                    go_wp2
                    go_ret
                    exact ⟨ret_int (by rw [H3.out, R3.out]; rfl), QC.out⟩
          by_cases k26 : f.kind = 26
          · have hk0 := k26
            have b0 : (f.kind == 0) = false := by rw [hk0]; rfl
            have b6 : (f.kind == 6) = false := by rw [hk0]; rfl
            have b8 : (f.kind == 8) = false := by rw [hk0]; rfl
            have b7 : (f.kind == 7) = false := by rw [hk0]; rfl
            have b18 : (f.kind == 18) = false := by rw [hk0]; rfl
            have b19 : (f.kind == 19) = false := by rw [hk0]; rfl
            have b22 : (f.kind == 22) = false := by rw [hk0]; rfl
            have b23 : (f.kind == 23) = false := by rw [hk0]; rfl
            have b24 : (f.kind == 24) = false := by rw [hk0]; rfl
            have b26 : (f.kind == 26) = true := by rw [hk0]; rfl
            have b27 : (f.kind == 27) = false := by rw [hk0]; rfl
            have V3 := hid (show rt3 f = (decide (f.data.length ≠ 8)) from by unfold rt3; rw [hk0]; rfl)
            have HK0 := hid hk0
            clear hk0
            by_cases p1 : d.n ≠ 8
            · have d1 : decide (d.n ≠ 8) = true := by simp [p1]
              have R3 := hid (show rt3 f = true from by rw [V3.out]; rw [HDL.out]; exact d1)
              have d2 : ((d.n : Int) != 8) = true := by simp; omega
              clear p1
              go_wp2
              go_ret
              exact ⟨ret_int (by rw [H3.out, R3.out]; rfl), QC.out⟩
            · have d1 : decide (d.n ≠ 8) = false := by simp [p1]
              have R3 := hid (show rt3 f = false from by rw [V3.out]; rw [HDL.out]; exact d1)
              have d2 : ((d.n : Int) != 8) = false := by simp; omega
              clear p1
              go_wp2
              go_ret
              exact ⟨ret_int (by rw [H3.out, R3.out]; rfl), QC.out⟩
          by_cases k27 : f.kind = 27
          · have hk0 := k27
            have b0 : (f.kind == 0) = false := by rw [hk0]; rfl
            have b6 : (f.kind == 6) = false := by rw [hk0]; rfl
            have b8 : (f.kind == 8) = false := by rw [hk0]; rfl
            have b7 : (f.kind == 7) = false := by rw [hk0]; rfl
            have b18 : (f.kind == 18) = false := by rw [hk0]; rfl
            have b19 : (f.kind == 19) = false := by rw [hk0]; rfl
            have b22 : (f.kind == 22) = false := by rw [hk0]; rfl
            have b23 : (f.kind == 23) = false := by rw [hk0]; rfl
            have b24 : (f.kind == 24) = false := by rw [hk0]; rfl
            have b26 : (f.kind == 26) = false := by rw [hk0]; rfl
            have b27 : (f.kind == 27) = true := by rw [hk0]; rfl
            have V3 := hid (show rt3 f = (decide (f.data.length ≠ 8)) from by unfold rt3; rw [hk0]; rfl)
            have HK0 := hid hk0
            clear hk0
            by_cases p1 : d.n ≠ 8
            · have d1 : decide (d.n ≠ 8) = true := by simp [p1]
              have R3 := hid (show rt3 f = true from by rw [V3.out]; rw [HDL.out]; exact d1)
              have d2 : ((d.n : Int) != 8) = true := by simp; omega
              clear p1
              go_wp2
              go_ret
              exact ⟨ret_int (by rw [H3.out, R3.out]; rfl), QC.out⟩
            · have d1 : decide (d.n ≠ 8) = false := by simp [p1]
              have R3 := hid (show rt3 f = false from by rw [V3.out]; rw [HDL.out]; exact d1)
              have d2 : ((d.n : Int) != 8) = false := by simp; omega
              clear p1
              go_wp2
              go_ret
              exact ⟨ret_int (by rw [H3.out, R3.out]; rfl), QC.out⟩
          have b0 : (f.kind == 0) = false := by simpa using k0
          have b6 : (f.kind == 6) = false := by simpa using k6
          have b8 : (f.kind == 8) = false := by simpa using k8
          have b7 : (f.kind == 7) = false := by simpa using k7
          have b18 : (f.kind == 18) = false := by simpa using k18
          have b19 : (f.kind == 19) = false := by simpa using k19
          have b22 : (f.kind == 22) = false := by simpa using k22
          have b23 : (f.kind == 23) = false := by simpa using k23
          have b24 : (f.kind == 24) = false := by simpa using k24
          have b26 : (f.kind == 26) = false := by simpa using k26
          have b27 : (f.kind == 27) = false := by simpa using k27
          have R3 := hid (show rt3 f = false from by unfold rt3; rw [if_neg k0, if_neg (by omega), if_neg k7, if_neg (by omega), if_neg k24, if_neg (by omega)])
          clear k0 k6 k8 k7 k18 k19 k22 k23 k24 k26 k27
          go_wp2
          go_ret
          exact ⟨ret_int (by rw [H3.out, R3.out]; rfl), QC.out⟩
        · have H2 := hid (show chk f = 51 from by rw [H1.out, r2]; rfl)
          clear r2
          go_wp2
          go_ret
          exact ⟨ret_int H2.out.symm, QC.out⟩
    · have H2 := hid (show chk f = 51 from by rw [HR.out, r1]; rfl)
      clear r1
      go_wp2
      go_ret
      exact ⟨ret_int H2.out.symm, Q0.out⟩
end Go.Proofs.Ytdoodbaogmdloab
