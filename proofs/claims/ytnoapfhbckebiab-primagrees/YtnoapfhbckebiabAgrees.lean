/-
  Two who tell each other their public numbers agree on one number.
-/
import Derived.Test.YtnoapfhbckebiabRows
import Derived.Test.YtnoapfhbckebiabAwake
import Derived.Test.YtnoapfhbckebiabOpen
import Derived.WalkKit
import Derived.ProofKit
import Derived.OpenShut
import Derived.ShutString
import Derived.ChangeOld
import Derived.Below
import Derived.SizedLaws
namespace Go.Proofs.Ytnoapfhbckebiab.primAgrees
open Go.ChangeShapes Go.WideShapes Go.ChangeAt Go.RowKit
open Go.ChangeMaps (open_string shut_string)
set_option linter.unusedVariables false

set_option maxRecDepth 20000 in
theorem pub_bad {a : Int} (h : a < 0) : pwr 37 a = 0 := pwr_bad (.inr (.inr h))
theorem pub_ok (a : Nat) : 0 < pwr 37 (a : Int) ∧ pwr 37 (a : Int) < 2305843009213693951 := by
  have h := pwr_nat 37 a (by omega)
  rw [show ((37 : Nat) : Int) = 37 from rfl] at h
  have h1 := pos37 a
  have h2 := Nat.mod_lt (37 ^ a) (show 2305843009213693951 > 0 by omega)
  rw [h]
  omega
theorem agree_ok (a b : Nat) : pwr (pwr 37 (b : Int)) (a : Int) = pwr (pwr 37 (a : Int)) (b : Int) := by
  have ha := pwr_nat 37 a (by omega)
  have hb := pwr_nat 37 b (by omega)
  rw [show ((37 : Nat) : Int) = 37 from rfl] at ha hb
  rw [ha, hb, pwr_nat _ a (Nat.mod_lt _ (by omega)), pwr_nat _ b (Nat.mod_lt _ (by omega)), agree_math]
theorem wf_i64 {n : Int} (h : (Lit.int .i64 n).wf = true) : n ≤ 9223372036854775807 := by
  have : -9223372036854775808 ≤ n ∧ n ≤ 9223372036854775807 := by simpa [Lit.wf, IntKind.min, IntKind.max, IntKind.signed, IntKind.bits] using h
  omega
set_option maxRecDepth 20000 in
set_option maxHeartbeats 4000000 in
theorem walk (a b : Int) (w : World) (ha : a ≤ 9223372036854775807) (hb : b ≤ 9223372036854775807) : Calls Try.prog 3 #[.int .i64 a, .int .i64 b] w fun r w' => r = .returned (.bool true) ∧ Below w.heap.size w w' := by
  have HA := hid ha
  have HB := hid hb
  clear ha hb
  by_cases h1 : a < 0
  · by_cases h2 : b < 0
    · have hyb : pwr 37 b = 0 := pub_bad h2
      have hxa : pwr 37 a = 0 := pub_bad h1
      go_enter Try.func3, Try.ntmps3
      go_wp2_with fail
      refine (public_any a w HA.out).mono ?_
      rintro r w1 ⟨rfl, q1⟩
      have Q1 := hid q1
      clear q1
      rw [hxa]
      go_wp2_with fail
      refine (public_any b w1 HB.out).mono ?_
      rintro r w2 ⟨rfl, q2⟩
      have Q2 := hid (Q1.out.trans q2)
      clear q2
      rw [hyb]
      go_wp2_with fail
      refine (awake_any w2).mono ?_
      rintro r w3 ⟨rfl, q3⟩
      have Q3 := hid (Q2.out.trans q3)
      clear q3
      go_wp2
      go_ret
      exact ⟨by first | rfl | simp, Q3.out⟩
    · have hxa : pwr 37 a = 0 := pub_bad h1
      go_enter Try.func3, Try.ntmps3
      go_wp2_with fail
      refine (public_any a w HA.out).mono ?_
      rintro r w1 ⟨rfl, q1⟩
      have Q1 := hid q1
      clear q1
      rw [hxa]
      go_wp2_with fail
      refine (public_any b w1 HB.out).mono ?_
      rintro r w2 ⟨rfl, q2⟩
      have Q2 := hid (Q1.out.trans q2)
      clear q2
      generalize hy : pwr 37 b = y at *
      have HY := hid hy
      clear hy
      go_wp2_with fail
      refine (awake_any w2).mono ?_
      rintro r w3 ⟨rfl, q3⟩
      have Q3 := hid (Q2.out.trans q3)
      clear q3
      go_wp2
      go_ret
      exact ⟨by first | rfl | simp, Q3.out⟩
  · by_cases h2 : b < 0
    · have hyb : pwr 37 b = 0 := pub_bad h2
      go_enter Try.func3, Try.ntmps3
      go_wp2_with fail
      refine (public_any a w HA.out).mono ?_
      rintro r w1 ⟨rfl, q1⟩
      have Q1 := hid q1
      clear q1
      generalize hx : pwr 37 a = x at *
      have HX := hid hx
      clear hx
      go_wp2_with fail
      refine (public_any b w1 HB.out).mono ?_
      rintro r w2 ⟨rfl, q2⟩
      have Q2 := hid (Q1.out.trans q2)
      clear q2
      rw [hyb]
      go_wp2_with fail
      refine (awake_any w2).mono ?_
      rintro r w3 ⟨rfl, q3⟩
      have Q3 := hid (Q2.out.trans q3)
      clear q3
      go_wp2
      go_ret
      exact ⟨by first | rfl | simp, Q3.out⟩
    · have hx1 : 0 < pwr 37 a ∧ pwr 37 a < 2305843009213693951 := by obtain ⟨n, rfl⟩ := Int.eq_ofNat_of_zero_le (show 0 ≤ a by omega); exact pub_ok n
      have hy1 : 0 < pwr 37 b ∧ pwr 37 b < 2305843009213693951 := by obtain ⟨n, rfl⟩ := Int.eq_ofNat_of_zero_le (show 0 ≤ b by omega); exact pub_ok n
      have hag : pwr (pwr 37 b) a = pwr (pwr 37 a) b := by
        obtain ⟨n, rfl⟩ := Int.eq_ofNat_of_zero_le (show 0 ≤ a by omega)
        obtain ⟨m, rfl⟩ := Int.eq_ofNat_of_zero_le (show 0 ≤ b by omega)
        exact agree_ok n m
      have HAG := hid hag
      clear hag
      go_enter Try.func3, Try.ntmps3
      go_wp2_with fail
      refine (public_any a w HA.out).mono ?_
      rintro r w1 ⟨rfl, q1⟩
      have Q1 := hid q1
      clear q1
      generalize hx : pwr 37 a = x at *
      have HX := hid hx
      clear hx
      go_wp2_with fail
      refine (public_any b w1 HB.out).mono ?_
      rintro r w2 ⟨rfl, q2⟩
      have Q2 := hid (Q1.out.trans q2)
      clear q2
      generalize hy : pwr 37 b = y at *
      have HY := hid hy
      clear hy
      obtain ⟨hx1, hx2⟩ := hx1
      obtain ⟨hy1, hy2⟩ := hy1
      go_wp2_with fail
      refine (agree_any a y w2 HA.out).mono ?_
      rintro r w3 ⟨rfl, q3⟩
      have Q3 := hid (Q2.out.trans q3)
      clear q3
      generalize hz : pwr y a = z at *
      have HZ := hid hz
      clear hz
      go_wp2_with fail
      refine (agree_any b x w3 HB.out).mono ?_
      rw [← HAG.out]
      rintro r w4 ⟨rfl, q4⟩
      have Q4 := hid (Q3.out.trans q4)
      clear q4
      go_wp2_with fail
      refine (awake_any w4).mono ?_
      rintro r w5 ⟨rfl, q5⟩
      have Q5 := hid (Q4.out.trans q5)
      clear q5
      go_wp2
      go_ret
      exact ⟨by first | rfl | simp, Q5.out⟩

set_option maxRecDepth 100000 in
theorem lifted (os : Os) (started : os.Started) (H : Type) (enc : TypeId × Value → H) :
    ReturnsInHanded {} Try.checked os 3 .any (Rows.primAgreesSpec.pre6 enc Try.prog Try.f3 Rows.primAgreesRow.domain false) (Rows.primAgreesSpec.post enc Try.prog Try.f3 false true false false) := by
  refine returnsInHanded_of_change_sized (C := Try.checked) own_knob started (by kernel_rfl) Try.func3
    (ChangeSpec.witness6 (enc := enc) (C := Try.checked) false ⟨#[], #[.int .i64 0, .int .i64 0], []⟩ 8 (by kernel_rfl) (by kernel_rfl) (by kernel_rfl) (by kernel_rfl)) ?_
  intro W base args ds gs before hval0 hW hcnd hsz0 _
  have hval : ∀ (j : Nat) t v, Try.f3.params[j]? = some t → args[j]? = some v → Value.okWide Try.prog W .any base t v := hval0
  have hsz : (DataW.weightsEach Try.prog (Try.f3.params.toList ++ Rows.primAgreesSpec.plain.varTypes Try.prog) (ds ++ gs)).all (· ≤ reachBytes) = true := hsz0
  have hW' := hW
  obtain ⟨p, q, hA0, hV, rfl, hfz, hnd⟩ := hW
  have hA : DataW.TrodAll enc Try.prog W 0 (fun _ => true) true Try.f3.params.toList args.toList ds p := hA0
  rw [Try.params3] at hA hval hsz
  obtain ⟨v0, vs0, d0, ds0, p0, q0, hargs, rfl, rfl, h0, r0⟩ := trodAll_cons hA
  obtain ⟨v1, vs1, d1, ds1, p1, q1, rfl, rfl, rfl, h1, r1⟩ := trodAll_cons r0
  obtain ⟨rfl, rfl, rfl⟩ := trodAll_nil r1
  obtain rfl : args = #[v0, v1] := by cases args; simp_all
  obtain ⟨rfl, rfl⟩ := trodVars_none hV
  obtain ⟨a0, rfl, rfl, rfl, w0⟩ := open_int Try.underlying3 (hval 0 3 v0 rfl rfl) h0
  obtain ⟨a1, rfl, rfl, rfl, w1⟩ := open_int Try.underlying3 (hval 1 3 v1 rfl rfl) h1
  clear hA0 hval0
  refine (walk a0 a1 W (wf_i64 w0) (wf_i64 w1)).mono fun e W' ⟨he, bel⟩ => ?_
  subst he
  exact ⟨_, rfl, _, _, _, [], _, [], hW', trodAll_mk1 (shut_bool Try.underlying4 _), (trodAll_cons_mk (shut_int Try.underlying3 w0) (trodAll_cons_mk (shut_int Try.underlying3 w1) trodAll_mk0)), rfl, bel.frame _, fun h => by cases h⟩

theorem over : Rows.primAgreesRow.holds Try.pinned (OpenSpec.ofChange Rows.primAgreesSpec) :=
  OpenClaim.holds_of_wide 3 Try.f3 rfl rfl rfl rfl rfl rfl rfl ⟨rfl, rfl, rfl, rfl, rfl⟩ rfl rfl rfl rfl rfl (by kernel_rfl) Try.func3 (by kernel_rfl)
    (of_decide_eq_true (by kernel_rfl)) (by unfold Func.isWrapper; first | (rw [if_pos (by decide +kernel)]; kernel_rfl) | (rw [if_neg (by decide +kernel)]; exact ⟨rfl, rfl⟩))
    (fun os started H enc _ => lifted os started H enc)

end Go.Proofs.Ytnoapfhbckebiab.primAgrees
namespace Go.Proofs.Ytnoapfhbckebiab

/-- The statement. -/
theorem primAgrees_holds : Rows.PrimAgreesSaid := primAgrees.over
#print axioms primAgrees_holds
end Go.Proofs.Ytnoapfhbckebiab
