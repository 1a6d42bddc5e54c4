/-
  An id tells the worker and the serial number that it was made of; every eight bytes are an id of what they tell.
-/
import Derived.Test.YtnnjogfpapndaaaRows
import Derived.Test.YtnnjogfpapndaaaRMf
import Derived.Test.YtnnjogfpapndaaaOpenI
import Derived.Test.YtnnjogfpapndaaaSame
import Derived.WalkKit
import Derived.ProofKit
import Derived.OpenShut
import Derived.ChangeOld
import Derived.Below
import Derived.SizedLaws
namespace Go.Proofs.Ytnnjogfpapndaaa.routeApart
open Go.ChangeShapes Go.WideShapes Go.ChangeAt Go.RowKit
set_option linter.unusedVariables false
set_option maxRecDepth 20000

theorem same_rows {w : World} {x y : Sv} {zs : List Int} (hx : In w x zs) (hy : In w y zs) (hb : x.n ≤ 140737488355328) :
    Calls Try.prog 16 #[.slice x.a x.n x.c, .slice y.a y.n y.c] w fun e w' => e = .returned (.bool true) ∧ Q w w' := by
  refine (same_any x.a y.a x.n y.n x.c y.c zs zs w hx.l hy.l (by omega) (by have := hx.l; have := hy.l; omega) hx.s hy.s).mono ?_
  rintro e w' ⟨rfl, h⟩
  exact ⟨by simp, h⟩
theorem mkL_by (ks : List Int) (wo se : Int) : By (mkL ks wo se) := by
  unfold mkL
  split
  · next h => obtain ⟨h0, h1⟩ := wiB_iff.1 h.2.1; exact xr_id_by ks h0 (by omega)
  · exact by_nil
theorem mkL_len (ks : List Int) (wo se : Int) : (mkL ks wo se).length ≤ 8 := by
  unfold mkL
  split
  · rw [xr_len, veL_len, idL, List.length_cons, be_length]; omega
  · simp
theorem rsL_len (ks zs : List Int) : (rsL ks zs).length ≤ 16 := by
  unfold rsL
  split
  · rw [dg_len]; omega
  · simp
set_option maxHeartbeats 8000000 in
theorem walk (k d : Sv) (wo se : Int) (ks zs : List Int) (w : World) (hk : In w k ks) (hd : In w d zs) (bk : k.n ≤ 140737488355328) (bd : d.n ≤ 140737488355328) :
    Calls Try.prog 4 #[.agg (idscells k d wo se)] w fun r w' => r = .returned (.bool true) ∧ Below w.heap.size w w' := by
  obtain ⟨ka, kn, kc⟩ := k
  obtain ⟨da, dn, dc⟩ := d
  have HK := hid hk
  have HD := hid hd
  have LK := hid (show ks.length = kn from hk.l)
  have LD := hid (show zs.length = dn from hd.l)
  clear hk hd
  dsimp only at *
  by_cases h16 : kn = 16
  rotate_left
  · have hn16 : ((kn : Int) != 16) = true := by simp; omega
    clear h16
    go_enter Try.func4, Try.ntmps4
    go_wp2_with fail
    generalize hw0 : World.alloc w _ = v0
    have Q0 := hid (show Q w v0 from by rw [← hw0]; exact (Q.refl w).alloc _)
    have c0 : v0.cell? ⟨w.heap.size, 0, none⟩ = some (.slice ka kn kc) := by rw [← hw0, cell_lit]; rfl
    have c1 : v0.cell? ⟨w.heap.size, 1, none⟩ = some (.slice da dn dc) := by rw [← hw0, cell_lit]; rfl
    have c2 : v0.cell? ⟨w.heap.size, 2, none⟩ = some (.int .i64 wo) := by rw [← hw0, cell_lit]; rfl
    have c3 : v0.cell? ⟨w.heap.size, 3, none⟩ = some (.int .i64 se) := by rw [← hw0, cell_lit]; rfl
    clear hw0
    go_quiet (fail)
    clear c0 c1 c2 c3
    generalize hu0 : World.drewN v0 _ = u0
    have U0 := hid (show Q w u0 from by rw [← hu0]; exact Q0.out.drewN _)
    clear hu0 Q0
    go_wp2_with fail
    refine (awake_any u0).mono ?_
    rintro e ux ⟨rfl, q⟩
    have UX := hid (U0.out.trans q)
    clear q
    go_wp2
    go_ret
    exact ⟨by first | rfl | simp, UX.out⟩
  subst h16
  go_enter Try.func4, Try.ntmps4
  go_wp2_with fail
  generalize hw0 : World.alloc w _ = v0
  have Q0 := hid (show Q w v0 from by rw [← hw0]; exact (Q.refl w).alloc _)
  have c0 : v0.cell? ⟨w.heap.size, 0, none⟩ = some (.slice ka 16 kc) := by rw [← hw0, cell_lit]; rfl
  have c1 : v0.cell? ⟨w.heap.size, 1, none⟩ = some (.slice da dn dc) := by rw [← hw0, cell_lit]; rfl
  have c2 : v0.cell? ⟨w.heap.size, 2, none⟩ = some (.int .i64 wo) := by rw [← hw0, cell_lit]; rfl
  have c3 : v0.cell? ⟨w.heap.size, 3, none⟩ = some (.int .i64 se) := by rw [← hw0, cell_lit]; rfl
  clear hw0
  go_quiet (fail)
  clear c0 c1 c2 c3
  generalize hu0 : World.drewN v0 _ = u0
  have U0 := hid (show Q w u0 from by rw [← hu0]; exact Q0.out.drewN _)
  clear hu0 Q0
  go_wp2_with fail
  refine (rcopy_any ka 16 kc ks u0 LK.out (by omega) (HK.out.s.q U0.out)).mono ?_
  rintro e u1 ⟨g1, rfl, q, o, l⟩
  have U1 := hid (U0.out.trans q)
  have I1 := hid (show In u1 ⟨some ⟨g1, 0, none⟩, 16, 16⟩ ks from ⟨o.seg, LK.out, HK.out.z⟩)
  clear q o l
  go_wp2_with fail
  refine (make_any ⟨some ⟨g1, 0, none⟩, 16, 16⟩ ks wo se u1 I1.out).mono ?_
  rintro e u2 ⟨⟨xa, xn, xc⟩, rfl, q, r, n⟩
  have U2 := hid (U1.out.trans q)
  dsimp only
  by_cases hws : wiB wo 255 = true ∧ wiB se 72057594037927935 = true
  · have hE : mkE 16 wo se = 0 := by unfold mkE; rw [if_pos rfl, if_pos hws]
    have hL : mkL ks wo se = xr (idL wo se) (veL ks) := by unfold mkL; rw [if_pos ⟨LK.out, hws⟩]
    obtain ⟨w0, w1⟩ := wiB_iff.1 hws.1
    obtain ⟨s0, s1⟩ := wiB_iff.1 hws.2
    rw [hE]
    rw [hL] at r
    have HRM := hid (read_make ks w0 (by omega) s0 (by omega))
    have X2 := hid (row_in r (xr_id_by ks (s := se) w0 (by omega)))
    have hx : xn = 8 := by have := X2.out.l; rw [xr_len, veL_len, idL, List.length_cons, be_length] at this; dsimp only at this; omega
    subst hx
    clear q r n hE hL hws I1 U1 w0 w1 s0 s1
    go_wp2_with fail
    refine (rcopy_any ka 16 kc ks u2 LK.out (by omega) (HK.out.s.q U2.out)).mono ?_
    rintro e u3 ⟨g3, rfl, q, o, l⟩
    have U3 := hid (U2.out.trans q)
    have I3 := hid (show In u3 ⟨some ⟨g3, 0, none⟩, 16, 16⟩ ks from ⟨o.seg, LK.out, HK.out.z⟩)
    have X3 := hid (X2.out.q q)
    clear q o l X2 U2
    go_wp2_with fail
    refine (read_any ⟨some ⟨g3, 0, none⟩, 16, 16⟩ ⟨xa, 8, xc⟩ ks _ u3 I3.out X3.out).mono ?_
    rintro e u4 ⟨rfl, q⟩
    have U4 := hid (U3.out.trans q)
    dsimp only
    rw [show rdWo (xr (idL wo se) (veL ks)) ks = wo from by unfold rdWo; rw [if_pos ⟨LK.out, X3.out.l⟩]; exact HRM.out.1, show rdSe (xr (idL wo se) (veL ks)) ks = se from by unfold rdSe; rw [if_pos ⟨LK.out, X3.out.l⟩]; exact HRM.out.2, show rdE 16 8 = 0 from rfl]
    have e1 : (wo != wo) = false := by simp
    have e2 : (se != se) = false := by simp
    clear q I3 X3 U3 HRM
    by_cases h8 : dn = 8
    rotate_left
    · have hn8 : ((dn : Int) != 8) = true := by simp; omega
      clear h8
      go_wp2_with fail
      refine (awake_any u4).mono ?_
      rintro e ux ⟨rfl, q⟩
      have UX := hid (U4.out.trans q)
      clear q
      go_wp2
      go_ret
      exact ⟨by first | rfl | simp, UX.out⟩
    subst h8
    go_wp2_with fail
    refine (rcopy_any ka 16 kc ks u4 LK.out (by omega) (HK.out.s.q U4.out)).mono ?_
    rintro e u5 ⟨g5, rfl, q, o, l⟩
    have U5 := hid (U4.out.trans q)
    have I5 := hid (show In u5 ⟨some ⟨g5, 0, none⟩, 16, 16⟩ ks from ⟨o.seg, LK.out, HK.out.z⟩)
    clear q o l
    go_wp2_with fail
    refine (rcopy_any da 8 dc zs u5 LD.out (by omega) (HD.out.s.q U5.out)).mono ?_
    rintro e u6 ⟨g6, rfl, q, o, l⟩
    have U6 := hid (U5.out.trans q)
    have J6 := hid (show In u6 ⟨some ⟨g6, 0, none⟩, 8, 8⟩ zs from ⟨o.seg, LD.out, HD.out.z⟩)
    have I6 := hid (I5.out.q q)
    clear q o l I5 U5
    go_wp2_with fail
    refine (read_any ⟨some ⟨g5, 0, none⟩, 16, 16⟩ ⟨some ⟨g6, 0, none⟩, 8, 8⟩ ks zs u6 I6.out J6.out).mono ?_
    rintro e u7 ⟨rfl, q⟩
    have U7 := hid (U6.out.trans q)
    dsimp only
    rw [show rdWo zs ks = rdW zs ks from by unfold rdWo; rw [if_pos ⟨LK.out, LD.out⟩], show rdSe zs ks = rdS zs ks from by unfold rdSe; rw [if_pos ⟨LK.out, LD.out⟩], show rdE 16 8 = 0 from rfl]
    have HMR := hid (make_read ks HD.out.z LD.out)
    have HRB := hid (read_num (ks := ks) HD.out.z LD.out).2.2.2
    have HME := hid (show mkE 16 (rdW zs ks) (rdS zs ks) = 0 ∧ mkL ks (rdW zs ks) (rdS zs ks) = zs from by
      have h := HRB.out
      have h1 : wiB (rdW zs ks) 255 = true := wiB_iff.2 ⟨h.1, by omega⟩
      have h2 : wiB (rdS zs ks) 72057594037927935 = true := wiB_iff.2 ⟨h.2.2.1, by omega⟩
      constructor
      · unfold mkE; rw [if_pos rfl, if_pos ⟨h1, h2⟩]
      · unfold mkL; rw [if_pos ⟨LK.out, h1, h2⟩]; exact HMR.out)
    clear q I6 J6 U6
    go_wp2_with fail
    refine (rcopy_any ka 16 kc ks u7 LK.out (by omega) (HK.out.s.q U7.out)).mono ?_
    rintro e u8 ⟨g8, rfl, q, o, l⟩
    have U8 := hid (U7.out.trans q)
    have I8 := hid (show In u8 ⟨some ⟨g8, 0, none⟩, 16, 16⟩ ks from ⟨o.seg, LK.out, HK.out.z⟩)
    clear q o l U7
    go_wp2_with fail
    refine (make_any ⟨some ⟨g8, 0, none⟩, 16, 16⟩ ks (rdW zs ks) (rdS zs ks) u8 I8.out).mono ?_
    dsimp only
    rw [HME.out.1, HME.out.2]
    rintro e u9 ⟨⟨ba, bn, bc⟩, rfl, q, r, n⟩
    have U9 := hid (U8.out.trans q)
    have SM := hid (same_rows (x := ⟨ba, bn, bc⟩) (y := ⟨da, 8, dc⟩) (row_in r HD.out.z) (HD.out.q U9.out) (by have h1 := Row.len r; have h2 := LD.out; dsimp only at h1 ⊢; omega))
    clear q r n U8 I8 HME HRB HMR
    generalize rdW zs ks = v1 at *
    generalize rdS zs ks = v2 at *
    go_wp2_with fail
    refine SM.out.mono ?_
    rintro e uy ⟨rfl, q⟩
    have UY := hid (U9.out.trans q)
    clear q SM
    go_wp2_with fail
    refine (awake_any uy).mono ?_
    rintro e ux ⟨rfl, q⟩
    have UX := hid (UY.out.trans q)
    clear q
    go_wp2
    go_ret
    exact ⟨by first | rfl | simp, UX.out⟩
  · have hE : mkE 16 wo se = 10 := by unfold mkE; rw [if_pos rfl, if_neg hws]
    rw [hE]
    have hw : ¬ ((0 ≤ wo ∧ wo ≤ 255) ∧ (0 ≤ se ∧ se ≤ 72057594037927935)) := by rw [wiB_iff, wiB_iff] at hws; exact hws
    clear q r n hE hws I1 U1
    by_cases h1 : 0 ≤ wo
    rotate_left
    · clear hw
      by_cases h8 : dn = 8
      rotate_left
      · have hn8 : ((dn : Int) != 8) = true := by simp; omega
        clear h8
        go_wp2_with fail
        refine (awake_any u2).mono ?_
        rintro e ux ⟨rfl, q⟩
        have UX := hid (U2.out.trans q)
        clear q
        go_wp2
        go_ret
        exact ⟨by first | rfl | simp, UX.out⟩
      subst h8
      go_wp2_with fail
      refine (rcopy_any ka 16 kc ks u2 LK.out (by omega) (HK.out.s.q U2.out)).mono ?_
      rintro e u5 ⟨g5, rfl, q, o, l⟩
      have U5 := hid (U2.out.trans q)
      have I5 := hid (show In u5 ⟨some ⟨g5, 0, none⟩, 16, 16⟩ ks from ⟨o.seg, LK.out, HK.out.z⟩)
      clear q o l
      go_wp2_with fail
      refine (rcopy_any da 8 dc zs u5 LD.out (by omega) (HD.out.s.q U5.out)).mono ?_
      rintro e u6 ⟨g6, rfl, q, o, l⟩
      have U6 := hid (U5.out.trans q)
      have J6 := hid (show In u6 ⟨some ⟨g6, 0, none⟩, 8, 8⟩ zs from ⟨o.seg, LD.out, HD.out.z⟩)
      have I6 := hid (I5.out.q q)
      clear q o l I5 U5
      go_wp2_with fail
      refine (read_any ⟨some ⟨g5, 0, none⟩, 16, 16⟩ ⟨some ⟨g6, 0, none⟩, 8, 8⟩ ks zs u6 I6.out J6.out).mono ?_
      rintro e u7 ⟨rfl, q⟩
      have U7 := hid (U6.out.trans q)
      dsimp only
      rw [show rdWo zs ks = rdW zs ks from by unfold rdWo; rw [if_pos ⟨LK.out, LD.out⟩], show rdSe zs ks = rdS zs ks from by unfold rdSe; rw [if_pos ⟨LK.out, LD.out⟩], show rdE 16 8 = 0 from rfl]
      have HMR := hid (make_read ks HD.out.z LD.out)
      have HRB := hid (read_num (ks := ks) HD.out.z LD.out).2.2.2
      have HME := hid (show mkE 16 (rdW zs ks) (rdS zs ks) = 0 ∧ mkL ks (rdW zs ks) (rdS zs ks) = zs from by
        have h := HRB.out
        have h1 : wiB (rdW zs ks) 255 = true := wiB_iff.2 ⟨h.1, by omega⟩
        have h2 : wiB (rdS zs ks) 72057594037927935 = true := wiB_iff.2 ⟨h.2.2.1, by omega⟩
        constructor
        · unfold mkE; rw [if_pos rfl, if_pos ⟨h1, h2⟩]
        · unfold mkL; rw [if_pos ⟨LK.out, h1, h2⟩]; exact HMR.out)
      clear q I6 J6 U6
      go_wp2_with fail
      refine (rcopy_any ka 16 kc ks u7 LK.out (by omega) (HK.out.s.q U7.out)).mono ?_
      rintro e u8 ⟨g8, rfl, q, o, l⟩
      have U8 := hid (U7.out.trans q)
      have I8 := hid (show In u8 ⟨some ⟨g8, 0, none⟩, 16, 16⟩ ks from ⟨o.seg, LK.out, HK.out.z⟩)
      clear q o l U7
      go_wp2_with fail
      refine (make_any ⟨some ⟨g8, 0, none⟩, 16, 16⟩ ks (rdW zs ks) (rdS zs ks) u8 I8.out).mono ?_
      dsimp only
      rw [HME.out.1, HME.out.2]
      rintro e u9 ⟨⟨ba, bn, bc⟩, rfl, q, r, n⟩
      have U9 := hid (U8.out.trans q)
      have SM := hid (same_rows (x := ⟨ba, bn, bc⟩) (y := ⟨da, 8, dc⟩) (row_in r HD.out.z) (HD.out.q U9.out) (by have h1 := Row.len r; have h2 := LD.out; dsimp only at h1 ⊢; omega))
      clear q r n U8 I8 HME HRB HMR
      generalize rdW zs ks = v1 at *
      generalize rdS zs ks = v2 at *
      go_wp2_with fail
      refine SM.out.mono ?_
      rintro e uy ⟨rfl, q⟩
      have UY := hid (U9.out.trans q)
      clear q SM
      go_wp2_with fail
      refine (awake_any uy).mono ?_
      rintro e ux ⟨rfl, q⟩
      have UX := hid (UY.out.trans q)
      clear q
      go_wp2
      go_ret
      exact ⟨by first | rfl | simp, UX.out⟩
    by_cases h2 : wo < 256
    rotate_left
    · clear hw
      by_cases h8 : dn = 8
      rotate_left
      · have hn8 : ((dn : Int) != 8) = true := by simp; omega
        clear h8
        go_wp2_with fail
        refine (awake_any u2).mono ?_
        rintro e ux ⟨rfl, q⟩
        have UX := hid (U2.out.trans q)
        clear q
        go_wp2
        go_ret
        exact ⟨by first | rfl | simp, UX.out⟩
      subst h8
      go_wp2_with fail
      refine (rcopy_any ka 16 kc ks u2 LK.out (by omega) (HK.out.s.q U2.out)).mono ?_
      rintro e u5 ⟨g5, rfl, q, o, l⟩
      have U5 := hid (U2.out.trans q)
      have I5 := hid (show In u5 ⟨some ⟨g5, 0, none⟩, 16, 16⟩ ks from ⟨o.seg, LK.out, HK.out.z⟩)
      clear q o l
      go_wp2_with fail
      refine (rcopy_any da 8 dc zs u5 LD.out (by omega) (HD.out.s.q U5.out)).mono ?_
      rintro e u6 ⟨g6, rfl, q, o, l⟩
      have U6 := hid (U5.out.trans q)
      have J6 := hid (show In u6 ⟨some ⟨g6, 0, none⟩, 8, 8⟩ zs from ⟨o.seg, LD.out, HD.out.z⟩)
      have I6 := hid (I5.out.q q)
      clear q o l I5 U5
      go_wp2_with fail
      refine (read_any ⟨some ⟨g5, 0, none⟩, 16, 16⟩ ⟨some ⟨g6, 0, none⟩, 8, 8⟩ ks zs u6 I6.out J6.out).mono ?_
      rintro e u7 ⟨rfl, q⟩
      have U7 := hid (U6.out.trans q)
      dsimp only
      rw [show rdWo zs ks = rdW zs ks from by unfold rdWo; rw [if_pos ⟨LK.out, LD.out⟩], show rdSe zs ks = rdS zs ks from by unfold rdSe; rw [if_pos ⟨LK.out, LD.out⟩], show rdE 16 8 = 0 from rfl]
      have HMR := hid (make_read ks HD.out.z LD.out)
      have HRB := hid (read_num (ks := ks) HD.out.z LD.out).2.2.2
      have HME := hid (show mkE 16 (rdW zs ks) (rdS zs ks) = 0 ∧ mkL ks (rdW zs ks) (rdS zs ks) = zs from by
        have h := HRB.out
        have h1 : wiB (rdW zs ks) 255 = true := wiB_iff.2 ⟨h.1, by omega⟩
        have h2 : wiB (rdS zs ks) 72057594037927935 = true := wiB_iff.2 ⟨h.2.2.1, by omega⟩
        constructor
        · unfold mkE; rw [if_pos rfl, if_pos ⟨h1, h2⟩]
        · unfold mkL; rw [if_pos ⟨LK.out, h1, h2⟩]; exact HMR.out)
      clear q I6 J6 U6
      go_wp2_with fail
      refine (rcopy_any ka 16 kc ks u7 LK.out (by omega) (HK.out.s.q U7.out)).mono ?_
      rintro e u8 ⟨g8, rfl, q, o, l⟩
      have U8 := hid (U7.out.trans q)
      have I8 := hid (show In u8 ⟨some ⟨g8, 0, none⟩, 16, 16⟩ ks from ⟨o.seg, LK.out, HK.out.z⟩)
      clear q o l U7
      go_wp2_with fail
      refine (make_any ⟨some ⟨g8, 0, none⟩, 16, 16⟩ ks (rdW zs ks) (rdS zs ks) u8 I8.out).mono ?_
      dsimp only
      rw [HME.out.1, HME.out.2]
      rintro e u9 ⟨⟨ba, bn, bc⟩, rfl, q, r, n⟩
      have U9 := hid (U8.out.trans q)
      have SM := hid (same_rows (x := ⟨ba, bn, bc⟩) (y := ⟨da, 8, dc⟩) (row_in r HD.out.z) (HD.out.q U9.out) (by have h1 := Row.len r; have h2 := LD.out; dsimp only at h1 ⊢; omega))
      clear q r n U8 I8 HME HRB HMR
      generalize rdW zs ks = v1 at *
      generalize rdS zs ks = v2 at *
      go_wp2_with fail
      refine SM.out.mono ?_
      rintro e uy ⟨rfl, q⟩
      have UY := hid (U9.out.trans q)
      clear q SM
      go_wp2_with fail
      refine (awake_any uy).mono ?_
      rintro e ux ⟨rfl, q⟩
      have UX := hid (UY.out.trans q)
      clear q
      go_wp2
      go_ret
      exact ⟨by first | rfl | simp, UX.out⟩
    by_cases h3 : 0 ≤ se
    rotate_left
    · clear hw
      by_cases h8 : dn = 8
      rotate_left
      · have hn8 : ((dn : Int) != 8) = true := by simp; omega
        clear h8
        go_wp2_with fail
        refine (awake_any u2).mono ?_
        rintro e ux ⟨rfl, q⟩
        have UX := hid (U2.out.trans q)
        clear q
        go_wp2
        go_ret
        exact ⟨by first | rfl | simp, UX.out⟩
      subst h8
      go_wp2_with fail
      refine (rcopy_any ka 16 kc ks u2 LK.out (by omega) (HK.out.s.q U2.out)).mono ?_
      rintro e u5 ⟨g5, rfl, q, o, l⟩
      have U5 := hid (U2.out.trans q)
      have I5 := hid (show In u5 ⟨some ⟨g5, 0, none⟩, 16, 16⟩ ks from ⟨o.seg, LK.out, HK.out.z⟩)
      clear q o l
      go_wp2_with fail
      refine (rcopy_any da 8 dc zs u5 LD.out (by omega) (HD.out.s.q U5.out)).mono ?_
      rintro e u6 ⟨g6, rfl, q, o, l⟩
      have U6 := hid (U5.out.trans q)
      have J6 := hid (show In u6 ⟨some ⟨g6, 0, none⟩, 8, 8⟩ zs from ⟨o.seg, LD.out, HD.out.z⟩)
      have I6 := hid (I5.out.q q)
      clear q o l I5 U5
      go_wp2_with fail
      refine (read_any ⟨some ⟨g5, 0, none⟩, 16, 16⟩ ⟨some ⟨g6, 0, none⟩, 8, 8⟩ ks zs u6 I6.out J6.out).mono ?_
      rintro e u7 ⟨rfl, q⟩
      have U7 := hid (U6.out.trans q)
      dsimp only
      rw [show rdWo zs ks = rdW zs ks from by unfold rdWo; rw [if_pos ⟨LK.out, LD.out⟩], show rdSe zs ks = rdS zs ks from by unfold rdSe; rw [if_pos ⟨LK.out, LD.out⟩], show rdE 16 8 = 0 from rfl]
      have HMR := hid (make_read ks HD.out.z LD.out)
      have HRB := hid (read_num (ks := ks) HD.out.z LD.out).2.2.2
      have HME := hid (show mkE 16 (rdW zs ks) (rdS zs ks) = 0 ∧ mkL ks (rdW zs ks) (rdS zs ks) = zs from by
        have h := HRB.out
        have h1 : wiB (rdW zs ks) 255 = true := wiB_iff.2 ⟨h.1, by omega⟩
        have h2 : wiB (rdS zs ks) 72057594037927935 = true := wiB_iff.2 ⟨h.2.2.1, by omega⟩
        constructor
        · unfold mkE; rw [if_pos rfl, if_pos ⟨h1, h2⟩]
        · unfold mkL; rw [if_pos ⟨LK.out, h1, h2⟩]; exact HMR.out)
      clear q I6 J6 U6
      go_wp2_with fail
      refine (rcopy_any ka 16 kc ks u7 LK.out (by omega) (HK.out.s.q U7.out)).mono ?_
      rintro e u8 ⟨g8, rfl, q, o, l⟩
      have U8 := hid (U7.out.trans q)
      have I8 := hid (show In u8 ⟨some ⟨g8, 0, none⟩, 16, 16⟩ ks from ⟨o.seg, LK.out, HK.out.z⟩)
      clear q o l U7
      go_wp2_with fail
      refine (make_any ⟨some ⟨g8, 0, none⟩, 16, 16⟩ ks (rdW zs ks) (rdS zs ks) u8 I8.out).mono ?_
      dsimp only
      rw [HME.out.1, HME.out.2]
      rintro e u9 ⟨⟨ba, bn, bc⟩, rfl, q, r, n⟩
      have U9 := hid (U8.out.trans q)
      have SM := hid (same_rows (x := ⟨ba, bn, bc⟩) (y := ⟨da, 8, dc⟩) (row_in r HD.out.z) (HD.out.q U9.out) (by have h1 := Row.len r; have h2 := LD.out; dsimp only at h1 ⊢; omega))
      clear q r n U8 I8 HME HRB HMR
      generalize rdW zs ks = v1 at *
      generalize rdS zs ks = v2 at *
      go_wp2_with fail
      refine SM.out.mono ?_
      rintro e uy ⟨rfl, q⟩
      have UY := hid (U9.out.trans q)
      clear q SM
      go_wp2_with fail
      refine (awake_any uy).mono ?_
      rintro e ux ⟨rfl, q⟩
      have UX := hid (UY.out.trans q)
      clear q
      go_wp2
      go_ret
      exact ⟨by first | rfl | simp, UX.out⟩
    have h4 : ¬ se < 72057594037927936 := by omega
    clear hw
    by_cases h8 : dn = 8
    rotate_left
    · have hn8 : ((dn : Int) != 8) = true := by simp; omega
      clear h8
      go_wp2_with fail
      refine (awake_any u2).mono ?_
      rintro e ux ⟨rfl, q⟩
      have UX := hid (U2.out.trans q)
      clear q
      go_wp2
      go_ret
      exact ⟨by first | rfl | simp, UX.out⟩
    subst h8
    go_wp2_with fail
    refine (rcopy_any ka 16 kc ks u2 LK.out (by omega) (HK.out.s.q U2.out)).mono ?_
    rintro e u5 ⟨g5, rfl, q, o, l⟩
    have U5 := hid (U2.out.trans q)
    have I5 := hid (show In u5 ⟨some ⟨g5, 0, none⟩, 16, 16⟩ ks from ⟨o.seg, LK.out, HK.out.z⟩)
    clear q o l
    go_wp2_with fail
    refine (rcopy_any da 8 dc zs u5 LD.out (by omega) (HD.out.s.q U5.out)).mono ?_
    rintro e u6 ⟨g6, rfl, q, o, l⟩
    have U6 := hid (U5.out.trans q)
    have J6 := hid (show In u6 ⟨some ⟨g6, 0, none⟩, 8, 8⟩ zs from ⟨o.seg, LD.out, HD.out.z⟩)
    have I6 := hid (I5.out.q q)
    clear q o l I5 U5
    go_wp2_with fail
    refine (read_any ⟨some ⟨g5, 0, none⟩, 16, 16⟩ ⟨some ⟨g6, 0, none⟩, 8, 8⟩ ks zs u6 I6.out J6.out).mono ?_
    rintro e u7 ⟨rfl, q⟩
    have U7 := hid (U6.out.trans q)
    dsimp only
    rw [show rdWo zs ks = rdW zs ks from by unfold rdWo; rw [if_pos ⟨LK.out, LD.out⟩], show rdSe zs ks = rdS zs ks from by unfold rdSe; rw [if_pos ⟨LK.out, LD.out⟩], show rdE 16 8 = 0 from rfl]
    have HMR := hid (make_read ks HD.out.z LD.out)
    have HRB := hid (read_num (ks := ks) HD.out.z LD.out).2.2.2
    have HME := hid (show mkE 16 (rdW zs ks) (rdS zs ks) = 0 ∧ mkL ks (rdW zs ks) (rdS zs ks) = zs from by
      have h := HRB.out
      have h1 : wiB (rdW zs ks) 255 = true := wiB_iff.2 ⟨h.1, by omega⟩
      have h2 : wiB (rdS zs ks) 72057594037927935 = true := wiB_iff.2 ⟨h.2.2.1, by omega⟩
      constructor
      · unfold mkE; rw [if_pos rfl, if_pos ⟨h1, h2⟩]
      · unfold mkL; rw [if_pos ⟨LK.out, h1, h2⟩]; exact HMR.out)
    clear q I6 J6 U6
    go_wp2_with fail
    refine (rcopy_any ka 16 kc ks u7 LK.out (by omega) (HK.out.s.q U7.out)).mono ?_
    rintro e u8 ⟨g8, rfl, q, o, l⟩
    have U8 := hid (U7.out.trans q)
    have I8 := hid (show In u8 ⟨some ⟨g8, 0, none⟩, 16, 16⟩ ks from ⟨o.seg, LK.out, HK.out.z⟩)
    clear q o l U7
    go_wp2_with fail
    refine (make_any ⟨some ⟨g8, 0, none⟩, 16, 16⟩ ks (rdW zs ks) (rdS zs ks) u8 I8.out).mono ?_
    dsimp only
    rw [HME.out.1, HME.out.2]
    rintro e u9 ⟨⟨ba, bn, bc⟩, rfl, q, r, n⟩
    have U9 := hid (U8.out.trans q)
    have SM := hid (same_rows (x := ⟨ba, bn, bc⟩) (y := ⟨da, 8, dc⟩) (row_in r HD.out.z) (HD.out.q U9.out) (by have h1 := Row.len r; have h2 := LD.out; dsimp only at h1 ⊢; omega))
    clear q r n U8 I8 HME HRB HMR
    generalize rdW zs ks = v1 at *
    generalize rdS zs ks = v2 at *
    go_wp2_with fail
    refine SM.out.mono ?_
    rintro e uy ⟨rfl, q⟩
    have UY := hid (U9.out.trans q)
    clear q SM
    go_wp2_with fail
    refine (awake_any uy).mono ?_
    rintro e ux ⟨rfl, q⟩
    have UX := hid (UY.out.trans q)
    clear q
    go_wp2
    go_ret
    exact ⟨by first | rfl | simp, UX.out⟩

set_option maxRecDepth 100000 in
theorem lifted (os : Os) (started : os.Started) (H : Type) (enc : TypeId × Value → H) :
    ReturnsInHanded {} Try.checked os 4 .any (Rows.routeApartSpec.pre6 enc Try.prog Try.f4 Rows.routeApartRow.domain false) (Rows.routeApartSpec.post enc Try.prog Try.f4 false true false false) := by
  refine returnsInHanded_of_change_sized (C := Try.checked) own_knob started (by kernel_rfl) Try.func4
    (ChangeSpec.witness6 (enc := enc) (C := Try.checked) false ⟨#[], #[.agg #[.slice none 0 0, .slice none 0 0, .int .i64 0, .int .i64 0]], []⟩ 8 (by kernel_rfl) (by kernel_rfl) (by kernel_rfl) (by kernel_rfl)) ?_
  intro W base args ds gs before hval0 hW hcnd hsz0 _
  have hval : ∀ (j : Nat) t v, Try.f4.params[j]? = some t → args[j]? = some v → Value.okWide Try.prog W .any base t v := hval0
  have hsz : (DataW.weightsEach Try.prog (Try.f4.params.toList ++ Rows.routeApartSpec.plain.varTypes Try.prog) (ds ++ gs)).all (· ≤ reachBytes) = true := hsz0
  have hW' := hW
  obtain ⟨p, q, hA0, hV, rfl, hfz, hnd⟩ := hW
  have hA : DataW.TrodAll enc Try.prog W 0 (fun _ => true) true Try.f4.params.toList args.toList ds p := hA0
  rw [Try.params4] at hA hval hsz
  obtain ⟨v0, vs0, d0, ds0, p0, q0, hargs, rfl, rfl, h0, r0⟩ := trodAll_cons hA
  obtain ⟨rfl, rfl, rfl⟩ := trodAll_nil r0
  obtain rfl : args = #[v0] := by cases args; simp_all
  obtain ⟨rfl, rfl⟩ := trodVars_none hV
  obtain ⟨cs0, rfl, hcs0⟩ := okWide_struct Try.underlying24 (hval 0 24 v0 rfl rfl)
  have k0 := h0
  have lt0 : ∀ x ∈ p0, x.block < W.heap.size := by obtain ⟨m, hm⟩ := k0; exact DataW.trod_lt m _ _ _ hm
  obtain ⟨s0, s1, n2, n3, z0, z1, rfl, hc0⟩ := ids_open h0 hcs0
  have ft0 := ids_fit hsz (j := 0) rfl rfl hc0
  clear hA0 hval0
  refine (walk s0 s1 n2 n3 z0 z1 W hc0.i0 hc0.i1 (by have := ft0.1; omega) (by have := ft0.2; omega)).mono fun e W' ⟨he, bel⟩ => ?_
  subst he
  exact ⟨_, rfl, _, _, _, [], _, [], hW', trodAll_mk1 (shut_bool Try.underlying4 _), (trodAll_cons_mk (Below.trod laid_out (by kernel_rfl) (of_decide_eq_true (by kernel_rfl)) k0 bel lt0) trodAll_mk0), rfl, bel.frame _, fun h => by cases h⟩

theorem over : Rows.routeApartRow.holds Try.pinned (OpenSpec.ofChange Rows.routeApartSpec) :=
  OpenClaim.holds_of_wide 4 Try.f4 rfl rfl rfl rfl rfl rfl rfl ⟨rfl, rfl, rfl, rfl, rfl⟩ rfl rfl rfl rfl rfl (by kernel_rfl) Try.func4 (by kernel_rfl)
    (of_decide_eq_true (by kernel_rfl)) (by unfold Func.isWrapper; first | (rw [if_pos (by decide +kernel)]; kernel_rfl) | (rw [if_neg (by decide +kernel)]; exact ⟨rfl, rfl⟩))
    (fun os started H enc _ => lifted os started H enc)

end Go.Proofs.Ytnnjogfpapndaaa.routeApart
namespace Go.Proofs.Ytnnjogfpapndaaa

/-- The statement. -/
theorem routeApart_holds : Rows.RouteApartSaid := routeApart.over
#print axioms routeApart_holds
end Go.Proofs.Ytnnjogfpapndaaa
