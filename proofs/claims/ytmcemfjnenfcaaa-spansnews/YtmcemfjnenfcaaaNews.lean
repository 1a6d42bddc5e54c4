/-
  Proved: for every int the law turnpikelaw02.SpansNews returns true, and its argument reads as it did. No condition.
-/
import Derived.Test.YtmcemfjnenfcaaaRows
import Derived.Test.YtmcemfjnenfcaaaAwake
import Derived.Test.YtmcemfjnenfcaaaRef
import Derived.Test.YtmcemfjnenfcaaaOpen
import Derived.WalkKit
import Derived.ProofKit
import Derived.OpenShut
import Derived.ShutString
import Derived.ChangeOld
import Derived.Below
import Derived.SizedLaws
namespace Go.Proofs.Ytmcemfjnenfcaaa.spansNews
open Go.ChangeShapes Go.WideShapes Go.ChangeAt Go.RowKit
open Go.ChangeMaps (open_string shut_string)
set_option linter.unusedVariables false


set_option maxHeartbeats 1000000 in
theorem walk (n : Int) (w : World) :
    Calls Try.prog 3 #[.int .i64 n] w fun e w' => e = .returned (.bool true) ∧ Below w.heap.size w w' := by
  by_cases hn : 1 ≤ n ∧ n ≤ 64
  · have HG := hid (show decide (1 ≤ n ∧ n ≤ 64) = true by simp [hn])
    obtain ⟨h0, h1⟩ := hn
    go_enter Try.func3, Try.ntmps3
    go_wp2_with fail
    refine (new_good n w h0 h1).mono ?_
    rintro e w1 ⟨rfl, hd1, hq1, hs1⟩
    have S1 := hid (st_new hd1)
    have Q1 := hid hq1
    clear hd1 hq1
    generalize w.heap.size = rb at *
    go_wp2_with fail
    refine (good_any n _).mono ?_
    rw [HG.out]
    rintro e w2 ⟨rfl, rfl⟩
    go_wp2_with fail
    refine (high_none rb n 0 none 0 w1 S1.out.hd).mono ?_
    rintro e w2 ⟨rfl, rfl⟩
    go_wp2_with fail
    refine (list_any 0 rb n 0 none 0 0 [] w1 S1.out.hd S1.out.own (by omega)).mono ?_
    rintro e w2 ⟨g2, a2, c2, rfl, ho2, hq2, ha2⟩
    have S2 := hid (S1.out.q hq2)
    have Q2 := hid (Q1.out.trans hq2)
    clear ho2 hq2 ha2
    go_wp2_with fail
    refine (floor_any rb n 0 none 0 0 w2 S2.out.hd).mono ?_
    rintro e w3 ⟨rfl, rfl⟩
    go_wp2_with fail
    refine (has_any rb n 0 none 0 0 [] w2 0 S2.out.hd S2.out.own.seg rfl (by omega)).mono ?_
    rintro e w3 ⟨rfl, hq3⟩
    have e5 : hadB 0 [] 0 = false := by decide
    rw [e5]
    have Q3 := hid (Q2.out.trans hq3)
    clear hq3 e5
    go_wp2_with fail
    refine (awake_any _).mono ?_
    rintro e w4 ⟨rfl, hq4⟩
    have Q4 := hid (Q3.out.trans hq4)
    clear hq4
    go_wp2
    go_ret
    exact ⟨rfl, Q4.out⟩
  · have HG := hid (show decide (1 ≤ n ∧ n ≤ 64) = false by simp; omega)
    go_enter Try.func3, Try.ntmps3
    go_wp2_with fail
    refine (new_bad n w hn).mono ?_
    rintro e w1 ⟨rfl, rfl⟩
    go_wp2_with fail
    refine (good_any n _).mono ?_
    rw [HG.out]
    rintro e w2 ⟨rfl, rfl⟩
    go_wp2_with fail
    refine (awake_any _).mono ?_
    rintro e w4 ⟨rfl, hq4⟩
    have Q4 := hid hq4
    clear hq4
    go_wp2
    go_ret
    exact ⟨rfl, Q4.out⟩

set_option maxRecDepth 100000 in
theorem lifted (os : Os) (started : os.Started) (H : Type) (enc : TypeId × Value → H) :
    ReturnsInHanded {} Try.checked os 3 .any (Rows.spansNewsSpec.pre6 enc Try.prog Try.f3 Rows.spansNewsRow.domain false) (Rows.spansNewsSpec.post enc Try.prog Try.f3 false true false false) := by
  refine returnsInHanded_of_change_sized (C := Try.checked) own_knob started (by kernel_rfl) Try.func3
    (ChangeSpec.witness6 (enc := enc) (C := Try.checked) false ⟨#[], #[.int .i64 0], []⟩ 8 (by kernel_rfl) (by kernel_rfl) (by kernel_rfl) (by kernel_rfl)) ?_
  intro W base args ds gs before hval0 hW hcnd hsz0 _
  have hval : ∀ (j : Nat) t v, Try.f3.params[j]? = some t → args[j]? = some v → Value.okWide Try.prog W .any base t v := hval0
  have hsz : (DataW.weightsEach Try.prog (Try.f3.params.toList ++ Rows.spansNewsSpec.plain.varTypes Try.prog) (ds ++ gs)).all (· ≤ reachBytes) = true := hsz0
  have hW' := hW
  obtain ⟨p, q, hA0, hV, rfl, hfz, hnd⟩ := hW
  have hA : DataW.TrodAll enc Try.prog W 0 (fun _ => true) true Try.f3.params.toList args.toList ds p := hA0
  rw [Try.params3] at hA hval hsz
  obtain ⟨v0, vs0, d0, ds0, p0, q0, hargs, rfl, rfl, h0, r0⟩ := trodAll_cons hA
  obtain ⟨rfl, rfl, rfl⟩ := trodAll_nil r0
  obtain rfl : args = #[v0] := by cases args; simp_all
  obtain ⟨rfl, rfl⟩ := trodVars_none hV
  obtain ⟨a0, rfl, rfl, rfl, w0⟩ := open_int Try.underlying3 (hval 0 3 v0 rfl rfl) h0
  clear hA0 hval0
  refine (walk a0 W).mono fun e W' ⟨he, bel⟩ => ?_
  subst he
  exact ⟨_, rfl, _, _, _, [], _, [], hW', trodAll_mk1 (shut_bool Try.underlying4 _), (trodAll_cons_mk (shut_int Try.underlying3 w0) trodAll_mk0), rfl, bel.frame _, fun h => by cases h⟩

theorem over : Rows.spansNewsRow.holds Try.pinned (OpenSpec.ofChange Rows.spansNewsSpec) :=
  OpenClaim.holds_of_wide 3 Try.f3 rfl rfl rfl rfl rfl rfl rfl ⟨rfl, rfl, rfl, rfl, rfl⟩ rfl rfl rfl rfl rfl (by kernel_rfl) Try.func3 (by kernel_rfl)
    (of_decide_eq_true (by kernel_rfl)) (by unfold Func.isWrapper; first | (rw [if_pos (by decide +kernel)]; kernel_rfl) | (rw [if_neg (by decide +kernel)]; exact ⟨rfl, rfl⟩))
    (fun os started H enc _ => lifted os started H enc)

end Go.Proofs.Ytmcemfjnenfcaaa.spansNews
namespace Go.Proofs.Ytmcemfjnenfcaaa

/-- The statement. -/
theorem spansNews_holds : Rows.SpansNewsSaid := spansNews.over
#print axioms spansNews_holds
end Go.Proofs.Ytmcemfjnenfcaaa
