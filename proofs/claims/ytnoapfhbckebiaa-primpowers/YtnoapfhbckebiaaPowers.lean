/-
  Power is the power modulo 2^61 - 1 of any numbers, as the document says; Public and Agree are made of it.
-/
import Derived.Test.YtnoapfhbckebiaaRows
import Derived.Test.YtnoapfhbckebiaaAwake
import Derived.Test.YtnoapfhbckebiaaRPow
import Derived.Test.YtnoapfhbckebiaaOpen
import Derived.WalkKit
import Derived.ProofKit
import Derived.OpenShut
import Derived.ShutString
import Derived.ChangeOld
import Derived.Below
import Derived.SizedLaws
namespace Go.Proofs.Ytnoapfhbckebiaa.primPowers
open Go.ChangeShapes Go.WideShapes Go.ChangeAt Go.RowKit
open Go.ChangeMaps (open_string shut_string)
set_option linter.unusedVariables false

set_option maxRecDepth 20000 in
set_option maxHeartbeats 2000000 in
theorem walk (b e : Int) (w : World) (he : e ≤ 9223372036854775807) : Calls Try.prog 8 #[.int .i64 b, .int .i64 e] w fun r w' => r = .returned (.bool true) ∧ Below w.heap.size w w' := by
  have HE := hid he
  clear he
  go_enter Try.func8, Try.ntmps8
  go_wp2_with fail
  refine (awake_any w).mono ?_
  rintro r w1 ⟨rfl, hq⟩
  have HQ := hid hq
  clear hq
  go_wp2_with fail
  refine (power_any b e w1 HE.out).mono ?_
  rintro r w2 ⟨rfl, q2⟩
  have Q2 := hid (HQ.out.trans q2)
  clear q2
  generalize hz : pwr b e = z at *
  have HZ := hid hz
  clear hz
  go_wp2_with fail
  refine (rpower_any b e w2 HE.out).mono ?_
  rw [HZ.out]
  rintro r w3 ⟨rfl, rfl⟩
  go_wp2_with fail
  refine (public_any e w3 HE.out).mono ?_
  rintro r w4 ⟨rfl, q4⟩
  have Q4 := hid (Q2.out.trans q4)
  clear q4
  generalize hy : pwr 37 e = y at *
  have HY := hid hy
  clear hy
  go_wp2_with fail
  refine (rpower_any 37 e w4 HE.out).mono ?_
  rw [HY.out]
  rintro r w5 ⟨rfl, rfl⟩
  go_wp2_with fail
  refine (agree_any e b w5 HE.out).mono ?_
  rw [HZ.out]
  rintro r w6 ⟨rfl, q6⟩
  have Q6 := hid (Q4.out.trans q6)
  clear q6
  go_wp2_with fail
  refine (rpower_any b e w6 HE.out).mono ?_
  rw [HZ.out]
  rintro r w7 ⟨rfl, rfl⟩
  go_wp2
  go_ret
  exact ⟨by first | rfl | simp, Q6.out⟩

theorem wf_i64 {n : Int} (h : (Lit.int .i64 n).wf = true) : n ≤ 9223372036854775807 := by
  have : -9223372036854775808 ≤ n ∧ n ≤ 9223372036854775807 := by simpa [Lit.wf, IntKind.min, IntKind.max, IntKind.signed, IntKind.bits] using h
  omega

set_option maxRecDepth 100000 in
theorem lifted (os : Os) (started : os.Started) (H : Type) (enc : TypeId × Value → H) :
    ReturnsInHanded {} Try.checked os 8 .any (Rows.primPowersSpec.pre6 enc Try.prog Try.f8 Rows.primPowersRow.domain false) (Rows.primPowersSpec.post enc Try.prog Try.f8 false true false false) := by
  refine returnsInHanded_of_change_sized (C := Try.checked) own_knob started (by kernel_rfl) Try.func8
    (ChangeSpec.witness6 (enc := enc) (C := Try.checked) false ⟨#[], #[.int .i64 0, .int .i64 0], []⟩ 8 (by kernel_rfl) (by kernel_rfl) (by kernel_rfl) (by kernel_rfl)) ?_
  intro W base args ds gs before hval0 hW hcnd hsz0 _
  have hval : ∀ (j : Nat) t v, Try.f8.params[j]? = some t → args[j]? = some v → Value.okWide Try.prog W .any base t v := hval0
  have hsz : (DataW.weightsEach Try.prog (Try.f8.params.toList ++ Rows.primPowersSpec.plain.varTypes Try.prog) (ds ++ gs)).all (· ≤ reachBytes) = true := hsz0
  have hW' := hW
  obtain ⟨p, q, hA0, hV, rfl, hfz, hnd⟩ := hW
  have hA : DataW.TrodAll enc Try.prog W 0 (fun _ => true) true Try.f8.params.toList args.toList ds p := hA0
  rw [Try.params8] at hA hval hsz
  obtain ⟨v0, vs0, d0, ds0, p0, q0, hargs, rfl, rfl, h0, r0⟩ := trodAll_cons hA
  obtain ⟨v1, vs1, d1, ds1, p1, q1, rfl, rfl, rfl, h1, r1⟩ := trodAll_cons r0
  obtain ⟨rfl, rfl, rfl⟩ := trodAll_nil r1
  obtain rfl : args = #[v0, v1] := by cases args; simp_all
  obtain ⟨rfl, rfl⟩ := trodVars_none hV
  obtain ⟨a0, rfl, rfl, rfl, w0⟩ := open_int Try.underlying3 (hval 0 3 v0 rfl rfl) h0
  obtain ⟨a1, rfl, rfl, rfl, w1⟩ := open_int Try.underlying3 (hval 1 3 v1 rfl rfl) h1
  clear hA0 hval0
  refine (walk a0 a1 W (wf_i64 w1)).mono fun e W' ⟨he, bel⟩ => ?_
  subst he
  exact ⟨_, rfl, _, _, _, [], _, [], hW', trodAll_mk1 (shut_bool Try.underlying4 _), (trodAll_cons_mk (shut_int Try.underlying3 w0) (trodAll_cons_mk (shut_int Try.underlying3 w1) trodAll_mk0)), rfl, bel.frame _, fun h => by cases h⟩

theorem over : Rows.primPowersRow.holds Try.pinned (OpenSpec.ofChange Rows.primPowersSpec) :=
  OpenClaim.holds_of_wide 8 Try.f8 rfl rfl rfl rfl rfl rfl rfl ⟨rfl, rfl, rfl, rfl, rfl⟩ rfl rfl rfl rfl rfl (by kernel_rfl) Try.func8 (by kernel_rfl)
    (of_decide_eq_true (by kernel_rfl)) (by unfold Func.isWrapper; first | (rw [if_pos (by decide +kernel)]; kernel_rfl) | (rw [if_neg (by decide +kernel)]; exact ⟨rfl, rfl⟩))
    (fun os started H enc _ => lifted os started H enc)

end Go.Proofs.Ytnoapfhbckebiaa.primPowers
namespace Go.Proofs.Ytnoapfhbckebiaa

/-- The statement. -/
theorem primPowers_holds : Rows.PrimPowersSaid := primPowers.over
#print axioms primPowers_holds
end Go.Proofs.Ytnoapfhbckebiaa
