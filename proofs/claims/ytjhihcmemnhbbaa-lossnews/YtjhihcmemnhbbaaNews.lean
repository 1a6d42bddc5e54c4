/-
  LossNews: a Loss is made just for a delay within its bounds, and begins with nothing out. No condition.
-/
import Derived.Test.YtjhihcmemnhbbaaRows
import Derived.Test.YtjhihcmemnhbbaaAwk
import Derived.Test.YtjhihcmemnhbbaaRim
import Derived.WalkKit
import Derived.ProofKit
import Derived.OpenShut
import Derived.ShutString
import Derived.ChangeOld
import Derived.Below
import Derived.SizedLaws
namespace Go.Proofs.Ytjhihcmemnhbbaa.lossNews
open Go.ChangeShapes Go.WideShapes Go.ChangeAt Go.RowKit
open Go.ChangeMaps (open_string shut_string)
set_option linter.unusedVariables false

set_option maxRecDepth 20000
theorem new_nx (n : Int) : nxP (newLo n) = -1 := by
  have e1 : ∀ k, ltA (newLo n) k = -1 := fun _ => rfl
  have e2 : ∀ k, prbT (newLo n) k = -1 := fun _ => rfl
  unfold nxP
  rw [e1, e1, e1, e2, e2, e2]
  decide
set_option maxHeartbeats 1000000 in
theorem walk (n : Int) (w : World) : Calls Try.prog 3 #[.int .i64 n] w fun e w' => e = .returned (.bool true) ∧ Below w.heap.size w w' := by
  have AW := hid (fun w1 => awake_any w1)
  by_cases hn : 0 ≤ n ∧ n ≤ 16383
  · have b1 : decide (n < 0) = false := by simp; omega
    have b2 : decide (16383 < n) = false := by simp; omega
    have A := hid (new_ok n w hn)
    have HO := hid (ok_new n hn.1 hn.2)
    have NX := hid (new_nx n)
    clear hn
    go_enter Try.func3, Try.ntmps3
    go_wp2_with fail
    refine A.out.mono ?_
    rintro e w1 ⟨rfl, hL, q1⟩
    have Q1 := hid q1
    have HL := hid hL
    have R := hid (rtt_any hL)
    rw [show (newLo n).lat = 0 from rfl, show (newLo n).lea = 0 from rfl, show (newLo n).smo = 333 from rfl, show (newLo n).var = 166 from rfl] at R
    clear q1 hL
    go_wp2_with fail
    refine R.out.mono ?_
    rintro e w2 ⟨rfl, m, rfl⟩
    have HL2 := hid (HL.out.q ((Q.refl w1).drewN m))
    have Q2 := hid (Q1.out.drewN m)
    generalize w1.drewN m = w2 at *
    have Tm := hid (timer_any HL2.out HO.out)
    rw [NX.out, show (((-1 : Int) != -1)) = false from rfl] at Tm
    go_wp2_with fail
    refine Tm.out.mono ?_
    rintro e w3 ⟨rfl, q3⟩
    have HL3 := hid (HL2.out.q q3)
    have Q3 := hid (Q2.out.trans q3)
    have U := hid (under_any HL3.out HO.out)
    rw [show undA (newLo n) = 0 from rfl] at U
    clear q3
    go_wp2_with fail
    refine U.out.mono ?_
    rintro e w4 ⟨rfl, q4⟩
    have HL4 := hid (HL3.out.q q4)
    have Q4 := hid (Q3.out.trans q4)
    have Wn := hid (window_any HL4.out)
    rw [show (newLo n).win = 12000 from rfl] at Wn
    clear q4
    go_wp2_with fail
    refine Wn.out.mono ?_
    rintro e w5 ⟨rfl, rfl⟩
    go_wp2_with fail
    refine (AW.out w4).mono ?_
    rintro e w5 ⟨rfl, q5⟩
    have Q5 := hid (Q4.out.trans q5)
    clear q5
    go_wp2
    go_ret
    exact ⟨rfl, Q5.out⟩
  · have A := hid (new_bad n w hn)
    by_cases h1 : n < 0
    · have b1 : decide (n < 0) = true := by simp [h1]
      clear hn
      go_enter Try.func3, Try.ntmps3
      go_wp2_with fail
      refine A.out.mono ?_
      rintro e w1 ⟨rfl, rfl⟩
      go_wp2_with fail
      refine (AW.out w).mono ?_
      rintro e w4 ⟨rfl, hq4⟩
      have HQ4 := hid hq4
      clear hq4
      go_wp2
      go_ret
      exact ⟨rfl, HQ4.out⟩
    · have b1 : decide (n < 0) = false := by simp [h1]
      have b2 : decide ((16383 : Int) < n) = true := by simp; omega
      clear hn
      go_enter Try.func3, Try.ntmps3
      go_wp2_with fail
      refine A.out.mono ?_
      rintro e w1 ⟨rfl, rfl⟩
      go_wp2_with fail
      refine (AW.out w).mono ?_
      rintro e w4 ⟨rfl, hq4⟩
      have HQ4 := hid hq4
      clear hq4
      go_wp2
      go_ret
      exact ⟨rfl, HQ4.out⟩

set_option maxRecDepth 100000 in
theorem lifted (os : Os) (started : os.Started) (H : Type) (enc : TypeId × Value → H) :
    ReturnsInHanded {} Try.checked os 3 .any (Rows.lossNewsSpec.pre6 enc Try.prog Try.f3 Rows.lossNewsRow.domain false) (Rows.lossNewsSpec.post enc Try.prog Try.f3 false true false false) := by
  refine returnsInHanded_of_change_sized (C := Try.checked) own_knob started (by kernel_rfl) Try.func3
    (ChangeSpec.witness6 (enc := enc) (C := Try.checked) false ⟨#[], #[.int .i64 0], []⟩ 8 (by kernel_rfl) (by kernel_rfl) (by kernel_rfl) (by kernel_rfl)) ?_
  intro W base args ds gs before hval0 hW hcnd hsz0 _
  have hval : ∀ (j : Nat) t v, Try.f3.params[j]? = some t → args[j]? = some v → Value.okWide Try.prog W .any base t v := hval0
  have hsz : (DataW.weightsEach Try.prog (Try.f3.params.toList ++ Rows.lossNewsSpec.plain.varTypes Try.prog) (ds ++ gs)).all (· ≤ reachBytes) = true := hsz0
  have hW' := hW
  obtain ⟨p, q, hA0, hV, rfl, hfz, hnd⟩ := hW
  have hA : DataW.TrodAll enc Try.prog W 0 (fun _ => true) true Try.f3.params.toList args.toList ds p := hA0
  rw [Try.params3] at hA hval hsz
  obtain ⟨v0, vs0, d0, ds0, p0, q0, hargs, rfl, rfl, h0, r0⟩ := trodAll_cons hA
  obtain ⟨rfl, rfl, rfl⟩ := trodAll_nil r0
  obtain rfl : args = #[v0] := by cases args; simp_all
  obtain ⟨rfl, rfl⟩ := trodVars_none hV
  obtain ⟨a0, rfl, rfl, rfl, w0⟩ := open_int Try.underlying3 (hval 0 3 v0 rfl rfl) h0
  clear hA0 hval0
  refine (walk a0 W).mono fun e W' ⟨he, bel⟩ => ?_
  subst he
  exact ⟨_, rfl, _, _, _, [], _, [], hW', trodAll_mk1 (shut_bool Try.underlying4 _), (trodAll_cons_mk (shut_int Try.underlying3 w0) trodAll_mk0), rfl, bel.frame _, fun h => by cases h⟩

theorem over : Rows.lossNewsRow.holds Try.pinned (OpenSpec.ofChange Rows.lossNewsSpec) :=
  OpenClaim.holds_of_wide 3 Try.f3 rfl rfl rfl rfl rfl rfl rfl ⟨rfl, rfl, rfl, rfl, rfl⟩ rfl rfl rfl rfl rfl (by kernel_rfl) Try.func3 (by kernel_rfl)
    (of_decide_eq_true (by kernel_rfl)) (by unfold Func.isWrapper; first | (rw [if_pos (by decide +kernel)]; kernel_rfl) | (rw [if_neg (by decide +kernel)]; exact ⟨rfl, rfl⟩))
    (fun os started H enc _ => lifted os started H enc)

end Go.Proofs.Ytjhihcmemnhbbaa.lossNews
namespace Go.Proofs.Ytjhihcmemnhbbaa

/-- The statement. -/
theorem lossNews_holds : Rows.LossNewsSaid := lossNews.over
#print axioms lossNews_holds
end Go.Proofs.Ytjhihcmemnhbbaa
