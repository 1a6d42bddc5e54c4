/-
  Make, Read and Reset answer as the document says for every secret, id, worker and serial number.
-/
import Derived.Test.YtnnjogfpapndaaaRows
import Derived.Test.YtnnjogfpapndaaaRMf
import Derived.Test.YtnnjogfpapndaaaOpenI
import Derived.Test.YtnnjogfpapndaaaSame
import Derived.WalkKit
import Derived.ProofKit
import Derived.OpenShut
import Derived.ChangeOld
import Derived.Below
import Derived.SizedLaws
namespace Go.Proofs.Ytnnjogfpapndaaa.routeIds
open Go.ChangeShapes Go.WideShapes Go.ChangeAt Go.RowKit
set_option linter.unusedVariables false
set_option maxRecDepth 20000

theorem same_rows {w : World} {x y : Sv} {zs : List Int} (hx : In w x zs) (hy : In w y zs) (hb : x.n ≤ 140737488355328) :
    Calls Try.prog 16 #[.slice x.a x.n x.c, .slice y.a y.n y.c] w fun e w' => e = .returned (.bool true) ∧ Q w w' := by
  refine (same_any x.a y.a x.n y.n x.c y.c zs zs w hx.l hy.l (by omega) (by have := hx.l; have := hy.l; omega) hx.s hy.s).mono ?_
  rintro e w' ⟨rfl, h⟩
  exact ⟨by simp, h⟩
theorem mkL_by (ks : List Int) (wo se : Int) : By (mkL ks wo se) := by
  unfold mkL
  split
  · next h => obtain ⟨h0, h1⟩ := wiB_iff.1 h.2.1; exact xr_id_by ks h0 (by omega)
  · exact by_nil
theorem mkL_len (ks : List Int) (wo se : Int) : (mkL ks wo se).length ≤ 8 := by
  unfold mkL
  split
  · rw [xr_len, veL_len, idL, List.length_cons, be_length]; omega
  · simp
theorem rsL_len (ks zs : List Int) : (rsL ks zs).length ≤ 16 := by
  unfold rsL
  split
  · rw [dg_len]; omega
  · simp
set_option maxHeartbeats 8000000 in
theorem walk (k d : Sv) (wo se : Int) (ks zs : List Int) (w : World) (hk : In w k ks) (hd : In w d zs) (bk : k.n ≤ 140737488355328) (bd : d.n ≤ 140737488355328) :
    Calls Try.prog 3 #[.agg (idscells k d wo se)] w fun r w' => r = .returned (.bool true) ∧ Below w.heap.size w w' := by
  obtain ⟨ka, kn, kc⟩ := k
  obtain ⟨da, dn, dc⟩ := d
  have HK := hid hk
  have HD := hid hd
  have LK := hid (show ks.length = kn from hk.l)
  have LD := hid (show zs.length = dn from hd.l)
  clear hk hd
  dsimp only at *
  go_enter Try.func3, Try.ntmps3
  go_wp2_with fail
  generalize hw0 : World.alloc w _ = v0
  have Q0 := hid (show Q w v0 from by rw [← hw0]; exact (Q.refl w).alloc _)
  have c0 : v0.cell? ⟨w.heap.size, 0, none⟩ = some (.slice ka kn kc) := by rw [← hw0, cell_lit]; rfl
  have c1 : v0.cell? ⟨w.heap.size, 1, none⟩ = some (.slice da dn dc) := by rw [← hw0, cell_lit]; rfl
  have c2 : v0.cell? ⟨w.heap.size, 2, none⟩ = some (.int .i64 wo) := by rw [← hw0, cell_lit]; rfl
  have c3 : v0.cell? ⟨w.heap.size, 3, none⟩ = some (.int .i64 se) := by rw [← hw0, cell_lit]; rfl
  clear hw0
  go_quiet (fail)
  clear c0 c1 c2 c3
  generalize hu0 : World.drewN v0 _ = u0
  have U0 := hid (show Q w u0 from by rw [← hu0]; exact Q0.out.drewN _)
  clear hu0 Q0
  go_wp2_with fail
  refine (rcopy_any ka kn kc ks u0 LK.out (by omega) (HK.out.s.q U0.out)).mono ?_
  rintro e u1 ⟨g1, rfl, q, o, l⟩
  have U1 := hid (U0.out.trans q)
  have I1 := hid (show In u1 ⟨some ⟨g1, 0, none⟩, kn, kn⟩ ks from ⟨o.seg, LK.out, HK.out.z⟩)
  clear q o l
  go_wp2_with fail
  refine (make_any ⟨some ⟨g1, 0, none⟩, kn, kn⟩ ks wo se u1 I1.out).mono ?_
  rintro e u2 ⟨⟨xa, xn, xc⟩, rfl, q, r, n⟩
  have U2 := hid (U1.out.trans q)
  have X2 := hid (row_in r (mkL_by ks wo se))
  dsimp only
  clear q r n I1 U1
  go_wp2_with fail
  refine (rmake_any ⟨ka, kn, kc⟩ ks wo se u2 (HK.out.q U2.out)).mono ?_
  rintro e u3 ⟨⟨ya, yn, yc⟩, rfl, q, r, n⟩
  have U3 := hid (U2.out.trans q)
  have X3 := hid (X2.out.q q)
  have Y3 := hid (row_in r (mkL_by ks wo se))
  dsimp only
  clear q r n X2 U2
  generalize hE1 : mkE kn wo se = E1 at *
  clear hE1
  go_wp2_with fail
  refine (rcopy_any ka kn kc ks u3 LK.out (by omega) (HK.out.s.q U3.out)).mono ?_
  rintro e u4 ⟨g4, rfl, q, o, l⟩
  have U4 := hid (U3.out.trans q)
  have I4 := hid (show In u4 ⟨some ⟨g4, 0, none⟩, kn, kn⟩ ks from ⟨o.seg, LK.out, HK.out.z⟩)
  have X4 := hid (X3.out.q q)
  have Y4 := hid (Y3.out.q q)
  clear q o l X3 Y3 U3
  go_wp2_with fail
  refine (rcopy_any da dn dc zs u4 LD.out (by omega) (HD.out.s.q U4.out)).mono ?_
  rintro e u5 ⟨g5, rfl, q, o, l⟩
  have U5 := hid (U4.out.trans q)
  have J5 := hid (show In u5 ⟨some ⟨g5, 0, none⟩, dn, dn⟩ zs from ⟨o.seg, LD.out, HD.out.z⟩)
  have X5 := hid (X4.out.q q)
  have Y5 := hid (Y4.out.q q)
  have I5 := hid (I4.out.q q)
  clear q o l X4 Y4 I4 U4
  go_wp2_with fail
  refine (read_any ⟨some ⟨g4, 0, none⟩, kn, kn⟩ ⟨some ⟨g5, 0, none⟩, dn, dn⟩ ks zs u5 I5.out J5.out).mono ?_
  rintro e u6 ⟨rfl, q⟩
  have U6 := hid (U5.out.trans q)
  have X6 := hid (X5.out.q q)
  have Y6 := hid (Y5.out.q q)
  dsimp only
  clear q X5 Y5 I5 J5 U5
  go_wp2_with fail
  refine (rread_any ⟨ka, kn, kc⟩ ⟨da, dn, dc⟩ ks zs u6 (HK.out.q U6.out) (HD.out.q U6.out)).mono ?_
  rintro e u7 ⟨rfl, q⟩
  have U7 := hid (U6.out.trans q)
  have X7 := hid (X6.out.q q)
  have Y7 := hid (Y6.out.q q)
  dsimp only
  clear q X6 Y6 U6
  generalize rdWo zs ks = R1 at *
  generalize rdSe zs ks = R2 at *
  generalize rdE kn dn = R3 at *
  go_wp2_with fail
  refine (rcopy_any ka kn kc ks u7 LK.out (by omega) (HK.out.s.q U7.out)).mono ?_
  rintro e u8 ⟨g8, rfl, q, o, l⟩
  have U8 := hid (U7.out.trans q)
  have I8 := hid (show In u8 ⟨some ⟨g8, 0, none⟩, kn, kn⟩ ks from ⟨o.seg, LK.out, HK.out.z⟩)
  have X8 := hid (X7.out.q q)
  have Y8 := hid (Y7.out.q q)
  clear q o l X7 Y7 U7
  go_wp2_with fail
  refine (rcopy_any da dn dc zs u8 LD.out (by omega) (HD.out.s.q U8.out)).mono ?_
  rintro e u9 ⟨g9, rfl, q, o, l⟩
  have U9 := hid (U8.out.trans q)
  have J9 := hid (show In u9 ⟨some ⟨g9, 0, none⟩, dn, dn⟩ zs from ⟨o.seg, LD.out, HD.out.z⟩)
  have X9 := hid (X8.out.q q)
  have Y9 := hid (Y8.out.q q)
  have I9 := hid (I8.out.q q)
  clear q o l X8 Y8 I8 U8
  go_wp2_with fail
  refine (reset_any ⟨some ⟨g8, 0, none⟩, kn, kn⟩ ⟨some ⟨g9, 0, none⟩, dn, dn⟩ ks zs u9 I9.out J9.out).mono ?_
  rintro e ua ⟨⟨ra, rn, rc⟩, rfl, q, r⟩
  have UA := hid (U9.out.trans q)
  have XA := hid (X9.out.q q)
  have YA := hid (Y9.out.q q)
  have RA := hid r
  dsimp only
  clear q r X9 Y9 I9 J9 U9
  go_wp2_with fail
  refine (rreset_any ⟨ka, kn, kc⟩ ⟨da, dn, dc⟩ ks zs ua (HK.out.q UA.out) (HD.out.q UA.out)).mono ?_
  rintro e ub ⟨⟨sa, sn, sc⟩, rfl, q, r⟩
  have UB := hid (UA.out.trans q)
  have XB := hid (XA.out.q q)
  have YB := hid (YA.out.q q)
  have RB := hid (RA.out.q q)
  have SB := hid r
  dsimp only
  clear q r XA YA RA UA
  generalize rsE kn dn = E2 at *
  go_wp2_with fail
  refine (awake_any ub).mono ?_
  rintro e uc ⟨rfl, q⟩
  have UC := hid (UB.out.trans q)
  have SM1 := hid (same_rows (x := ⟨xa, xn, xc⟩) (y := ⟨ya, yn, yc⟩) (XB.out.q q) (YB.out.q q) (by have h1 := XB.out.l; have h2 := mkL_len ks wo se; dsimp only at h1 ⊢; omega))
  have RC := hid (RB.out.q q)
  have SC := hid (SB.out.q q)
  clear q XB YB RB SB UB
  go_wp2_with fail
  refine SM1.out.mono ?_
  rintro e ud ⟨rfl, q⟩
  have UD := hid (UC.out.trans q)
  have SM2 := hid (same_rows (x := ⟨ra, rn, rc⟩) (y := ⟨sa, sn, sc⟩) (RC.out.q q) (SC.out.q q) (by have h1 := RC.out.l; have h2 := rsL_len ks zs; dsimp only at h1 ⊢; omega))
  have e1 : (E1 == E1) = true := by simp
  have e2 : (E2 == E2) = true := by simp
  have e3 : (R1 == R1) = true := by simp
  have e4 : (R2 == R2) = true := by simp
  have e5 : (R3 == R3) = true := by simp
  clear q RC SC UC SM1
  go_wp2_with fail
  refine SM2.out.mono ?_
  rintro e ue ⟨rfl, q⟩
  have UE := hid (UD.out.trans q)
  clear q SM2 UD
  go_wp2
  go_ret
  exact ⟨by first | rfl | simp, UE.out⟩

set_option maxRecDepth 100000 in
theorem lifted (os : Os) (started : os.Started) (H : Type) (enc : TypeId × Value → H) :
    ReturnsInHanded {} Try.checked os 3 .any (Rows.routeIdsSpec.pre6 enc Try.prog Try.f3 Rows.routeIdsRow.domain false) (Rows.routeIdsSpec.post enc Try.prog Try.f3 false true false false) := by
  refine returnsInHanded_of_change_sized (C := Try.checked) own_knob started (by kernel_rfl) Try.func3
    (ChangeSpec.witness6 (enc := enc) (C := Try.checked) false ⟨#[], #[.agg #[.slice none 0 0, .slice none 0 0, .int .i64 0, .int .i64 0]], []⟩ 8 (by kernel_rfl) (by kernel_rfl) (by kernel_rfl) (by kernel_rfl)) ?_
  intro W base args ds gs before hval0 hW hcnd hsz0 _
  have hval : ∀ (j : Nat) t v, Try.f3.params[j]? = some t → args[j]? = some v → Value.okWide Try.prog W .any base t v := hval0
  have hsz : (DataW.weightsEach Try.prog (Try.f3.params.toList ++ Rows.routeIdsSpec.plain.varTypes Try.prog) (ds ++ gs)).all (· ≤ reachBytes) = true := hsz0
  have hW' := hW
  obtain ⟨p, q, hA0, hV, rfl, hfz, hnd⟩ := hW
  have hA : DataW.TrodAll enc Try.prog W 0 (fun _ => true) true Try.f3.params.toList args.toList ds p := hA0
  rw [Try.params3] at hA hval hsz
  obtain ⟨v0, vs0, d0, ds0, p0, q0, hargs, rfl, rfl, h0, r0⟩ := trodAll_cons hA
  obtain ⟨rfl, rfl, rfl⟩ := trodAll_nil r0
  obtain rfl : args = #[v0] := by cases args; simp_all
  obtain ⟨rfl, rfl⟩ := trodVars_none hV
  obtain ⟨cs0, rfl, hcs0⟩ := okWide_struct Try.underlying24 (hval 0 24 v0 rfl rfl)
  have k0 := h0
  have lt0 : ∀ x ∈ p0, x.block < W.heap.size := by obtain ⟨m, hm⟩ := k0; exact DataW.trod_lt m _ _ _ hm
  obtain ⟨s0, s1, n2, n3, z0, z1, rfl, hc0⟩ := ids_open h0 hcs0
  have ft0 := ids_fit hsz (j := 0) rfl rfl hc0
  clear hA0 hval0
  refine (walk s0 s1 n2 n3 z0 z1 W hc0.i0 hc0.i1 (by have := ft0.1; omega) (by have := ft0.2; omega)).mono fun e W' ⟨he, bel⟩ => ?_
  subst he
  exact ⟨_, rfl, _, _, _, [], _, [], hW', trodAll_mk1 (shut_bool Try.underlying4 _), (trodAll_cons_mk (Below.trod laid_out (by kernel_rfl) (of_decide_eq_true (by kernel_rfl)) k0 bel lt0) trodAll_mk0), rfl, bel.frame _, fun h => by cases h⟩

theorem over : Rows.routeIdsRow.holds Try.pinned (OpenSpec.ofChange Rows.routeIdsSpec) :=
  OpenClaim.holds_of_wide 3 Try.f3 rfl rfl rfl rfl rfl rfl rfl ⟨rfl, rfl, rfl, rfl, rfl⟩ rfl rfl rfl rfl rfl (by kernel_rfl) Try.func3 (by kernel_rfl)
    (of_decide_eq_true (by kernel_rfl)) (by unfold Func.isWrapper; first | (rw [if_pos (by decide +kernel)]; kernel_rfl) | (rw [if_neg (by decide +kernel)]; exact ⟨rfl, rfl⟩))
    (fun os started H enc _ => lifted os started H enc)

end Go.Proofs.Ytnnjogfpapndaaa.routeIds
namespace Go.Proofs.Ytnnjogfpapndaaa

/-- The statement. -/
theorem routeIds_holds : Rows.RouteIdsSaid := routeIds.over
#print axioms routeIds_holds
end Go.Proofs.Ytnnjogfpapndaaa
