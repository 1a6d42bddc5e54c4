/-
  FrameEncodes holds for every frame: Check finds what is wrong in it, Encode writes it if it is right, both as the document says, and the frame stays as it was. No condition.
-/
import Derived.Test.YtdoodbaogmdloaaRows
import Derived.Test.YtdoodbaogmdloaaEncR
import Derived.Test.YtdoodbaogmdloaaRaTwo
import Derived.Test.YtdoodbaogmdloaaOpenF
import Derived.WalkKit
import Derived.ProofKit
import Derived.OpenShut
import Derived.ShutString
import Derived.ChangeOld
import Derived.Below
import Derived.SizedLaws
namespace Go.Proofs.Ytdoodbaogmdloaa.frameEncodes
open Go.ChangeShapes Go.WideShapes Go.ChangeAt Go.RowKit
open Go.ChangeMaps (open_string shut_string)
set_option linter.unusedVariables false

set_option maxRecDepth 20000

set_option maxHeartbeats 8000000 in
theorem walk (f : Fr) (d c s : Sv) (w : World) (h : Fit w f d c s) : Calls Try.prog 3 #[fv f d c s] w fun e w' => e = .returned (.bool true) ∧ Below w.heap.size w w' := by
  have HH := hid h
  clear h
  go_enter Try.func3, Try.ntmps3
  go_wp2_with fail
  generalize hw1 : World.alloc w _ = w1
  have Q1 := hid (show Q w w1 from by rw [← hw1]; exact (Q.refl w).alloc _)
  have B1 := hid (show Box w1 26 w.heap.size f d c s from by rw [← hw1]; exact heap_alloc_new w _)
  clear hw1
  refine (copied_any f d c s w1 (HH.out.q Q1.out)).mono ?_
  rintro e w2 ⟨d3, c3, s3, rfl, q2, hh⟩
  have Q2 := hid (Q1.out.trans q2)
  have B2 := hid (Box.q B1.out q2)
  have H3 := hid hh.holds
  clear q2 hh
  go_wp2_with fail
  generalize hw3 : World.alloc w2 _ = w3
  have q3 : Q w2 w3 := by rw [← hw3]; exact (Q.refl w2).alloc _
  have Q3 := hid (Q2.out.trans q3)
  have B3 := hid (show Box w3 26 w2.heap.size f d3 c3 s3 from by rw [← hw3]; exact heap_alloc_new w2 _)
  have BA := hid (Box.q B2.out q3)
  have H4 := hid (H3.out.q q3)
  have N3 := hid (show d3.n ≤ 140737488355328 ∧ c3.n ≤ 140737488355328 ∧ s3.n ≤ 8796093022208 from by
    have h1 := HH.out.h.dl; have h2 := HH.out.h.cl; have h3 := HH.out.h.sl
    have k1 := H3.out.dl; have k2 := H3.out.cl; have k3 := H3.out.sl
    have m1 := HH.out.nd; have m2 := HH.out.nc; have m3 := HH.out.ns
    omega)
  clear hw3 q3
  generalize w2.heap.size = g3 at *
  refine (check_any f d3 c3 s3 w3 H4.out N3.out.1 N3.out.2.1).mono ?_
  rintro e w4 ⟨rfl, q4⟩
  obtain ⟨a0, a1, a2, a3, a4, a5, a6, a7, a8, a9, a10, a11, a12⟩ := Box.all (Box.q B3.out q4)
  have Q4 := hid q4
  clear q4
  go_wp2_with fail
  refine (encode_any f d3 c3 s3 w4 (H4.out.q Q4.out) N3.out.1 N3.out.2.1).mono ?_
  rintro e w5 ⟨r, rfl, hM⟩
  have Q5 := hid (Q4.out.trans hM.1)
  have R5 := hid hM.2.1
  clear hM a0 a1 a2 a3 a4 a5 a6 a7 a8 a9 a10 a11 a12
  obtain ⟨a0, a1, a2, a3, a4, a5, a6, a7, a8, a9, a10, a11, a12⟩ := Box.all (Box.q BA.out Q5.out)
  go_wp2_with fail
  refine (of_any f d c s w5).mono ?_
  rintro e w6 ⟨rfl, q6⟩
  have Q6 := hid (Q5.out.trans q6)
  have R6 := hid (Sub.q R5.out q6)
  clear q6 a0 a1 a2 a3 a4 a5 a6 a7 a8 a9 a10 a11 a12
  go_wp2_with fail
  refine (rencode_any f d c s w6 ((HH.out.h.q Q3.out).q Q6.out)).mono ?_
  rintro e w7 ⟨t, rfl, hM⟩
  have Q7 := hid (Q6.out.trans hM.1)
  have R7 := hid (Sub.q R6.out hM.1)
  have T7 := hid hM.2.1
  clear hM
  have NR := hid (show r.n ≤ 9223372036854775807 ∧ t.n ≤ 9223372036854775807 from by
    constructor
    · rcases R7.out.2 with ⟨_, e, _⟩ | ⟨_, _, _, _, _, g1, g2, _⟩
      · omega
      · simp only [maxLen] at g1 g2; omega
    · rcases T7.out.2 with ⟨_, e, _⟩ | ⟨_, _, _, _, _, g1, g2, _⟩
      · omega
      · simp only [maxLen] at g1 g2; omega)
  generalize hE : chk f = E at *
  have HE := hid hE
  clear hE
  go_wp2_with fail
  generalize hRg : Code.region 5 _ true = Cc
  have eR : Cc = Code.region 5 (RofN Try.f3 5) true := hRg.symm.trans (by kernel_rfl)
  clear hRg
  subst eR
  refine rgE w.heap.size g3 E f d c s d3 c3 s3 r t w7 _ (Box.q BA.out Q7.out) (Box.q B3.out Q7.out) (fun u hu => (awake_any u).mono fun e u' h => ⟨h.1, Q.trans hu h.2⟩) (fun u hu => (of_any f d c s u).mono fun e u' h => ⟨h.1, Q.trans hu h.2⟩) (fun u hu => (of_any f d3 c3 s3 u).mono fun e u' h => ⟨h.1, Q.trans hu h.2⟩) (fun u hu => ?_) (fun u hu => ?_) (fun u hu => ?_) ?_
  · refine (rcheck_any f d c s u (((HH.out.h.q Q3.out).q Q7.out).q hu)).mono fun e u' h => ⟨?_, Q.trans hu h.2⟩
    rw [h.1, HE.out]
  · refine (same_any r.a t.a r.n t.n r.c t.c _ _ u (Row.len R7.out) (Row.len T7.out) NR.out.1 NR.out.2 (Seg.q (Row.seg R7.out) hu) (Seg.q (Row.seg T7.out) hu)).mono fun e u' h => ⟨?_, Q.trans hu h.2⟩
    rw [h.1]; simp
  · exact (sameF_any f d3 c3 s3 d c s u ((H4.out.q Q7.out).q hu) (((HH.out.h.q Q3.out).q Q7.out).q hu) N3.out.1 N3.out.2.1 N3.out.2.2).mono fun e u' h => ⟨h.1, Q.trans hu h.2⟩
  · intro W hW
    have QF := hid ((Q3.out.trans Q7.out).trans hW)
    clear hW
    go_wp2
    go_ret
    exact ⟨rfl, QF.out⟩

set_option maxRecDepth 100000 in
theorem lifted (os : Os) (started : os.Started) (H : Type) (enc : TypeId × Value → H) :
    ReturnsInHanded {} Try.checked os 3 .any (Rows.frameEncodesSpec.pre6 enc Try.prog Try.f3 Rows.frameEncodesRow.domain false) (Rows.frameEncodesSpec.post enc Try.prog Try.f3 false true false false) := by
  refine returnsInHanded_of_change_sized (C := Try.checked) own_knob started (by kernel_rfl) Try.func3
    (ChangeSpec.witness6 (enc := enc) (C := Try.checked) false ⟨#[], #[.agg (fcells zf nilS nilS nilS)], []⟩ 8 (by kernel_rfl) (by kernel_rfl) (by kernel_rfl) (by kernel_rfl)) ?_
  intro W base args ds gs before hval0 hW hcnd hsz0 _
  have hval : ∀ (j : Nat) t v, Try.f3.params[j]? = some t → args[j]? = some v → Value.okWide Try.prog W .any base t v := hval0
  have hsz : (DataW.weightsEach Try.prog (Try.f3.params.toList ++ Rows.frameEncodesSpec.plain.varTypes Try.prog) (ds ++ gs)).all (· ≤ reachBytes) = true := hsz0
  have hW' := hW
  obtain ⟨p, q, hA0, hV, rfl, hfz, hnd⟩ := hW
  have hA : DataW.TrodAll enc Try.prog W 0 (fun _ => true) true Try.f3.params.toList args.toList ds p := hA0
  rw [Try.params3] at hA hval hsz
  obtain ⟨v0, vs0, d0, ds0, p0, q0, hargs, rfl, rfl, h0, r0⟩ := trodAll_cons hA
  obtain ⟨rfl, rfl, rfl⟩ := trodAll_nil r0
  obtain rfl : args = #[v0] := by cases args; simp_all
  obtain ⟨rfl, rfl⟩ := trodVars_none hV
  obtain ⟨cs0, rfl, hcs0⟩ := okWide_struct Try.underlying26 (hval 0 26 v0 rfl rfl)
  have k0 := h0
  have lt0 : ∀ x ∈ p0, x.block < W.heap.size := by obtain ⟨m, hm⟩ := k0; exact DataW.trod_lt m _ _ _ hm
  obtain ⟨f0, x0, y0, z0, rfl, hc0⟩ := open_frame h0 hcs0
  have ft0 := came_fit hsz (j := 0) rfl rfl hc0
  clear hA0 hval0
  refine (walk f0 x0 y0 z0 W ft0).mono fun e W' ⟨he, bel⟩ => ?_
  subst he
  exact ⟨_, rfl, _, _, _, [], _, [], hW', trodAll_mk1 (shut_bool Try.underlying4 _), (trodAll_cons_mk (Below.trod laid_out (by kernel_rfl) (of_decide_eq_true (by kernel_rfl)) k0 bel lt0) trodAll_mk0), rfl, bel.frame _, fun h => by cases h⟩

theorem over : Rows.frameEncodesRow.holds Try.pinned (OpenSpec.ofChange Rows.frameEncodesSpec) :=
  OpenClaim.holds_of_wide 3 Try.f3 rfl rfl rfl rfl rfl rfl rfl ⟨rfl, rfl, rfl, rfl, rfl⟩ rfl rfl rfl rfl rfl (by kernel_rfl) Try.func3 (by kernel_rfl)
    (of_decide_eq_true (by kernel_rfl)) (by unfold Func.isWrapper; first | (rw [if_pos (by decide +kernel)]; kernel_rfl) | (rw [if_neg (by decide +kernel)]; exact ⟨rfl, rfl⟩))
    (fun os started H enc _ => lifted os started H enc)

end Go.Proofs.Ytdoodbaogmdloaa.frameEncodes
namespace Go.Proofs.Ytdoodbaogmdloaa

/-- The statement. -/
theorem frameEncodes_holds : Rows.FrameEncodesSaid := frameEncodes.over
#print axioms frameEncodes_holds
end Go.Proofs.Ytdoodbaogmdloaa
