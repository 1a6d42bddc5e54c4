/-
  FrameElicits holds for every frame: Elicits answers yes just for the kinds of the table that are neither padding, an ack nor a close; no condition.
-/
import Derived.Test.YtdoodbaogmdloaaRows
import Derived.Test.YtdoodbaogmdloaaAwake
import Derived.Test.YtdoodbaogmdloaaCopied
import Derived.Test.YtdoodbaogmdloaaRItems
import Derived.Test.YtdoodbaogmdloaaOpenF
import Derived.WalkKit
import Derived.ProofKit
import Derived.OpenShut
import Derived.ShutString
import Derived.ChangeOld
import Derived.Below
import Derived.SizedLaws
namespace Go.Proofs.Ytdoodbaogmdloaa.frameElicits
open Go.ChangeShapes Go.WideShapes Go.ChangeAt Go.RowKit
open Go.ChangeMaps (open_string shut_string)
set_option linter.unusedVariables false
set_option maxRecDepth 20000

set_option maxHeartbeats 4000000 in
theorem walk (f : Fr) (d c s : Sv) (w : World) (h : Fit w f d c s) : Calls Try.prog 8 #[fv f d c s] w fun e w' => e = .returned (.bool true) ∧ Below w.heap.size w w' := by
  have HH := hid h
  clear h
  have END := hid (show ∀ (u : World), Q w u → Box u 26 w.heap.size f d c s → True from fun _ _ _ => trivial)
  clear END
  by_cases hk : f.kind = 0 ∨ f.kind = 2 ∨ f.kind = 3 ∨ f.kind = 28 ∨ f.kind = 29
  · obtain ⟨k, hkk⟩ : ∃ k, f.kind = k := ⟨_, rfl⟩
    rw [hkk] at hk
    have HKK := hid hkk
    clear hkk
    rcases hk with rfl | rfl | rfl | rfl | rfl
    all_goals
      go_enter Try.func8, Try.ntmps8
      go_wp2_with fail
      rw [HKK.out]
      generalize hw1 : World.alloc w _ = w1
      have q1 : Q w w1 := by rw [← hw1]; exact (Q.refl w).alloc _
      have b1 : Box w1 26 w.heap.size f d c s := by rw [← hw1]; exact heap_alloc_new w _
      clear hw1
      refine (ritems_any _ w1).mono ?_
      rintro e w1' ⟨rfl, rfl⟩
      have Q1 := hid q1
      obtain ⟨a0, a1, a2, a3, a4, a5, a6, a7, a8, a9, a10, a11, a12⟩ := b1.all
      rw [HKK.out] at a0
      have hK : isK f.kind = true := by rw [HKK.out]; rfl
      rw [show isK _ = true from rfl]
      clear q1 b1 hK
      go_wp2_with fail
      have e9 := HKK.out
      generalize hv : Value.agg #[_, _, _, _, _, _, _, _, _, _, _, _, _] = vv
      have hvv : vv = fv f d c s := by rw [← hv]; simp only [fv, fcells, e9]
      subst hvv
      clear hv e9
      refine (copied_any f d c s w1 (HH.out.q Q1.out)).mono ?_
      rintro e w2 ⟨x, y, z, rfl, q2, hh⟩
      have Q2 := hid (Q1.out.trans q2)
      clear q2 hh
      go_wp2_with fail
      refine (elicits_any f x y z w2).mono ?_
      rintro e w3 ⟨rfl, q3⟩
      have HE : eliB f.kind = false := by rw [HKK.out]; rfl
      rw [HE]
      have Q3 := hid (Q2.out.trans q3)
      clear q3 HE
      go_wp2_with fail
      refine (awake_any _).mono ?_
      rintro e w4 ⟨rfl, q4⟩
      have Q4 := hid (Q3.out.trans q4)
      clear q4
      go_wp2
      go_ret
      exact ⟨by first | rfl | simp, Q4.out⟩
  · have HE := hid (show eliB f.kind = isK f.kind from by unfold eliB; simp [hk])
    have c0 : (f.kind != 0) = true := by simp; omega
    have c2 : (f.kind != 2) = true := by simp; omega
    have c3 : (f.kind != 3) = true := by simp; omega
    have c28 : (f.kind != 28) = true := by simp; omega
    have c29 : (f.kind != 29) = true := by simp; omega
    clear hk
    cases hK : isK f.kind
    all_goals
      have HKK := hid hK
      clear hK
      go_enter Try.func8, Try.ntmps8
      go_wp2_with fail
      generalize hw1 : World.alloc w _ = w1
      have q1 : Q w w1 := by rw [← hw1]; exact (Q.refl w).alloc _
      have b1 : Box w1 26 w.heap.size f d c s := by rw [← hw1]; exact heap_alloc_new w _
      clear hw1
      refine (ritems_any _ w1).mono ?_
      rintro e w1' ⟨rfl, rfl⟩
      rw [HKK.out]
      have Q1 := hid q1
      obtain ⟨a0, a1, a2, a3, a4, a5, a6, a7, a8, a9, a10, a11, a12⟩ := b1.all
      clear q1 b1
      go_wp2_with fail
      refine (copied_any f d c s w1 (HH.out.q Q1.out)).mono ?_
      rintro e w2 ⟨x, y, z, rfl, q2, hh⟩
      have Q2 := hid (Q1.out.trans q2)
      clear q2 hh
      go_wp2_with fail
      refine (elicits_any f x y z w2).mono ?_
      rintro e w3 ⟨rfl, q3⟩
      rw [HE.out, HKK.out]
      have Q3 := hid (Q2.out.trans q3)
      clear q3
      go_wp2_with fail
      refine (awake_any _).mono ?_
      rintro e w4 ⟨rfl, q4⟩
      have Q4 := hid (Q3.out.trans q4)
      clear q4
      go_wp2
      go_ret
      exact ⟨by first | rfl | simp, Q4.out⟩

set_option maxRecDepth 100000 in
theorem lifted (os : Os) (started : os.Started) (H : Type) (enc : TypeId × Value → H) :
    ReturnsInHanded {} Try.checked os 8 .any (Rows.frameElicitsSpec.pre6 enc Try.prog Try.f8 Rows.frameElicitsRow.domain false) (Rows.frameElicitsSpec.post enc Try.prog Try.f8 false true false false) := by
  refine returnsInHanded_of_change_sized (C := Try.checked) own_knob started (by kernel_rfl) Try.func8
    (ChangeSpec.witness6 (enc := enc) (C := Try.checked) false ⟨#[], #[.agg (fcells zf nilS nilS nilS)], []⟩ 8 (by kernel_rfl) (by kernel_rfl) (by kernel_rfl) (by kernel_rfl)) ?_
  intro W base args ds gs before hval0 hW hcnd hsz0 _
  have hval : ∀ (j : Nat) t v, Try.f8.params[j]? = some t → args[j]? = some v → Value.okWide Try.prog W .any base t v := hval0
  have hsz : (DataW.weightsEach Try.prog (Try.f8.params.toList ++ Rows.frameElicitsSpec.plain.varTypes Try.prog) (ds ++ gs)).all (· ≤ reachBytes) = true := hsz0
  have hW' := hW
  obtain ⟨p, q, hA0, hV, rfl, hfz, hnd⟩ := hW
  have hA : DataW.TrodAll enc Try.prog W 0 (fun _ => true) true Try.f8.params.toList args.toList ds p := hA0
  rw [Try.params8] at hA hval hsz
  obtain ⟨v0, vs0, d0, ds0, p0, q0, hargs, rfl, rfl, h0, r0⟩ := trodAll_cons hA
  obtain ⟨rfl, rfl, rfl⟩ := trodAll_nil r0
  obtain rfl : args = #[v0] := by cases args; simp_all
  obtain ⟨rfl, rfl⟩ := trodVars_none hV
  obtain ⟨cs0, rfl, hcs0⟩ := okWide_struct Try.underlying26 (hval 0 26 v0 rfl rfl)
  have k0 := h0
  have lt0 : ∀ x ∈ p0, x.block < W.heap.size := by obtain ⟨m, hm⟩ := k0; exact DataW.trod_lt m _ _ _ hm
  obtain ⟨f0, x0, y0, z0, rfl, hc0⟩ := open_frame h0 hcs0
  have ft0 := came_fit hsz (j := 0) rfl rfl hc0
  clear hA0 hval0
  refine (walk f0 x0 y0 z0 W ft0).mono fun e W' ⟨he, bel⟩ => ?_
  subst he
  exact ⟨_, rfl, _, _, _, [], _, [], hW', trodAll_mk1 (shut_bool Try.underlying4 _), (trodAll_cons_mk (Below.trod laid_out (by kernel_rfl) (of_decide_eq_true (by kernel_rfl)) k0 bel lt0) trodAll_mk0), rfl, bel.frame _, fun h => by cases h⟩

theorem over : Rows.frameElicitsRow.holds Try.pinned (OpenSpec.ofChange Rows.frameElicitsSpec) :=
  OpenClaim.holds_of_wide 8 Try.f8 rfl rfl rfl rfl rfl rfl rfl ⟨rfl, rfl, rfl, rfl, rfl⟩ rfl rfl rfl rfl rfl (by kernel_rfl) Try.func8 (by kernel_rfl)
    (of_decide_eq_true (by kernel_rfl)) (by unfold Func.isWrapper; first | (rw [if_pos (by decide +kernel)]; kernel_rfl) | (rw [if_neg (by decide +kernel)]; exact ⟨rfl, rfl⟩))
    (fun os started H enc _ => lifted os started H enc)

end Go.Proofs.Ytdoodbaogmdloaa.frameElicits
namespace Go.Proofs.Ytdoodbaogmdloaa

/-- The statement. -/
theorem frameElicits_holds : Rows.FrameElicitsSaid := frameElicits.over
#print axioms frameElicits_holds
end Go.Proofs.Ytdoodbaogmdloaa
