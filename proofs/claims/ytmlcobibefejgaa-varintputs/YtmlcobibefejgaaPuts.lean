/-
  Proved: for every int the law turnpikelaw01.VarintPuts returns true, and its argument reads as it did. No condition.
-/
import Derived.Test.YtmlcobibefejgaaRows
import Derived.Test.YtmlcobibefejgaaAwake
import Derived.WalkKit
import Derived.ProofKit
import Derived.OpenShut
import Derived.ShutString
import Derived.ChangeOld
import Derived.Below
namespace Go.Proofs.Ytmlcobibefejgaa.varintPuts
open Go.ChangeShapes Go.WideShapes Go.ChangeAt Go.RowKit
open Go.ChangeMaps (open_string shut_string)
set_option linter.unusedVariables false

theorem own : ownKnob Try.prog.godebug = none := by kernel_rfl

set_option maxHeartbeats 400000 in
theorem walk (n : Int) (w0 : (Lit.int .i64 n).wf = true) (w : World) :
    Calls Try.prog 3 #[.int .i64 n] w fun e w' => e = .returned (.bool true) ∧ Below w.heap.size w w' := by
  by_cases hn : n < 0 ∨ 4611686018427387903 < n
  · have Hs := hid (sz_none hn)
    have Hn := hid hn
    clear hn
    go_enter Try.func3, Try.ntmps3
    go_wp2_with fail
    refine (put_no n _ Hn.out).mono ?_
    rintro e w1 ⟨rfl, rfl⟩
    go_wp2_with fail
    refine (rsize_any n _).mono ?_
    rw [Hs.out]
    rintro e w1 ⟨rfl, rfl⟩
    go_wp2_with fail
    refine (awake_any _).mono ?_
    rintro e w1 ⟨rfl, hq1⟩
    have H1 := hid hq1
    clear hq1
    go_wp2_with fail
    refine (size_any n _).mono ?_
    rw [Hs.out]
    rintro e w2 ⟨rfl, rfl⟩
    go_wp2_with fail
    refine (rput_no n _ Hn.out).mono ?_
    rintro e w2 ⟨g, rfl, hq2⟩
    have H2 := hid hq2
    clear hq2
    go_wp2_with fail
    refine (same_any none (some ⟨g, 0, none⟩) 0 0 0 0 [] [] _ rfl rfl (by decide) (by decide) (seg_nil _ _) (seg_nil _ _)).mono ?_
    rintro e w3 ⟨rfl, hq3⟩
    have H3 := hid hq3
    clear hq3
    go_wp2
    go_ret
    exact ⟨rfl, (H1.out.trans H2.out).trans H3.out⟩
  · obtain ⟨s, hs⟩ : ∃ s, sz n = s := ⟨_, rfl⟩
    have hs0 : s = 1 ∨ s = 2 ∨ s = 4 ∨ s = 8 := by rw [← hs]; exact sz_some (by omega) (by omega)
    have hlow : 0 < s := by omega
    have hhigh : s ≤ 9223372036854775807 := by omega
    have hfl : Hid ((form n).length = s) := hid ((form_length n).trans hs)
    have Hs := hid hs
    have h0 : 0 ≤ n := by omega
    have h1 : n ≤ 4611686018427387903 := by omega
    clear hs hs0 hn
    go_enter Try.func3, Try.ntmps3
    go_wp2_with fail
    refine (put_ok n _ s h0 h1 Hs).mono ?_
    rintro e w1 ⟨g, rfl, hq1, ho1⟩
    have H1 := hid hq1
    have O1 := hid ho1
    clear hq1 ho1
    go_wp2_with fail
    refine (rsize_any n _).mono ?_
    rw [Hs.out]
    rintro e w2 ⟨rfl, rfl⟩
    go_wp2_with fail
    refine (awake_any _).mono ?_
    rintro e w2 ⟨rfl, hq2⟩
    have H2 := hid hq2
    clear hq2
    go_wp2_with fail
    refine (size_any n _).mono ?_
    rw [Hs.out]
    rintro e w3 ⟨rfl, rfl⟩
    go_wp2_with fail
    refine (rput_ok n _ s h0 h1 Hs).mono ?_
    rintro e w3 ⟨g3, rfl, hq3, ho3⟩
    have H3 := hid hq3
    have O3 := hid ho3
    clear hq3 ho3
    go_wp2_with fail
    refine (same_any (some ⟨g, 0, none⟩) (some ⟨g3, 0, none⟩) s s s s (form n) (form n) _ hfl.out hfl.out hhigh hhigh ((O1.out.q H2.out).q H3.out).seg O3.out.seg).mono ?_
    rintro e w4 ⟨rfl, hq4⟩
    have H4 := hid hq4
    clear hq4
    simp only [decide_true]
    go_wp2
    go_ret
    exact ⟨rfl, ((H1.out.trans H2.out).trans H3.out).trans H4.out⟩

set_option maxRecDepth 100000 in
theorem lifted (os : Os) (started : os.Started) (H : Type) (enc : TypeId × Value → H) :
    ReturnsInHanded {} Try.checked os 3 .any (Rows.varintPutsSpec.pre6 enc Try.prog Try.f3 Rows.varintPutsRow.domain false) (Rows.varintPutsSpec.post enc Try.prog Try.f3 false true false false) := by
  refine returnsInHanded_of_change (C := Try.checked) own started (by kernel_rfl) Try.func3
    (ChangeSpec.witness6 (enc := enc) (C := Try.checked) false ⟨#[], #[.int .i64 0], []⟩ 8 (by kernel_rfl) (by kernel_rfl) (by kernel_rfl) (by kernel_rfl)) ?_
  intro W base args ds gs before hval0 hW hcnd _
  have hval : ∀ (j : Nat) t v, Try.f3.params[j]? = some t → args[j]? = some v → Value.okWide Try.prog W .any base t v := hval0
  have hW' := hW
  obtain ⟨p, q, hA0, hV, rfl, hfz, hnd⟩ := hW
  have hA : DataW.TrodAll enc Try.prog W 0 (fun _ => true) true Try.f3.params.toList args.toList ds p := hA0
  rw [Try.params3] at hA hval
  obtain ⟨v0, vs0, d0, ds0, p0, q0, hargs, rfl, rfl, h0, r0⟩ := trodAll_cons hA
  obtain ⟨rfl, rfl, rfl⟩ := trodAll_nil r0
  obtain rfl : args = #[v0] := by cases args; simp_all
  obtain ⟨rfl, rfl⟩ := trodVars_none hV
  obtain ⟨a0, rfl, rfl, rfl, w0⟩ := open_int Try.underlying3 (hval 0 3 v0 rfl rfl) h0
  clear hA0 hval0
  simp only [List.append_nil] at hW'
  refine (walk a0 w0 W).mono fun e W' ⟨he, bel⟩ => ?_
  subst he
  exact ⟨_, rfl, _, _, _, [], _, [], hW', trodAll_mk1 (shut_bool Try.underlying4 _), (trodAll_cons_mk (shut_int Try.underlying3 w0) trodAll_mk0), rfl, bel.frame _, fun h => by cases h⟩

theorem over : Rows.varintPutsRow.holds Try.pinned (OpenSpec.ofChange Rows.varintPutsSpec) :=
  OpenClaim.holds_of_wide 3 Try.f3 rfl rfl rfl rfl rfl rfl rfl ⟨rfl, rfl, rfl, rfl, rfl⟩ rfl rfl rfl rfl rfl (by kernel_rfl) Try.func3 (by kernel_rfl)
    (of_decide_eq_true (by kernel_rfl)) (by unfold Func.isWrapper; first | (rw [if_pos (by decide +kernel)]; kernel_rfl) | (rw [if_neg (by decide +kernel)]; exact ⟨rfl, rfl⟩))
    (fun os started H enc _ => lifted os started H enc)

end Go.Proofs.Ytmlcobibefejgaa.varintPuts
namespace Go.Proofs.Ytmlcobibefejgaa

/-- The statement. -/
theorem varintPuts_holds : Rows.VarintPutsSaid := varintPuts.over
#print axioms varintPuts_holds
end Go.Proofs.Ytmlcobibefejgaa
