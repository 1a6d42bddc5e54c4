/-
  Whatever number there is: Static tells the entry of the document's table, or that there is none.
-/
import Derived.Test.YtehejibllkmflaaRows
import Derived.Test.YtehejibllkmflaaRTb
import Derived.Test.YtehejibllkmflaaOpen
import Derived.WalkKit
import Derived.ProofKit
import Derived.OpenShut
import Derived.ShutString
import Derived.ChangeOld
import Derived.Below
import Derived.SizedLaws
namespace Go.Proofs.Ytehejibllkmflaa.qpackStatics
open Go.ChangeShapes Go.WideShapes Go.ChangeAt Go.RowKit
open Go.ChangeMaps (open_string shut_string)
set_option linter.unusedVariables false

set_option maxRecDepth 20000 in
set_option maxHeartbeats 4000000 in
theorem walk (n : Int) (w : World) :
    Calls Try.prog 3 #[.int .i64 n] w fun r w' => r = .returned (.bool true) ∧ Below w.heap.size w w' := by
  have HAW := hid awake_any
  have HS := hid (fun W => static_any n W)
  have HR := hid (fun W => rstatic_any n W)
  obtain ⟨x, y, b, hA⟩ : ∃ x y b, stAns n = .returned (.tuple #[.agg #[.string x, .string y], .bool b]) := by
    unfold stAns
    by_cases h : 0 ≤ n ∧ n < 40
    · rw [if_pos h]; exact ⟨_, _, _, rfl⟩
    · rw [if_neg h]; exact ⟨_, _, _, rfl⟩
  rw [hA] at HS HR
  clear hA
  go_enter Try.func3, Try.ntmps3
  go_wp2_with (first
    | (go_at_call 5; refine (HS.out _).mono ?_; rintro e w1 ⟨rfl, q1⟩; have Q1 := hid q1; clear q1; refine Hid.out ?_))
  refine hid ?_
  go_wp2_with fail
  have F1 := hid (heap_alloc_new w1 (.cells #[.string x, .string y] 23))
  have Q2 := hid (Q1.out.alloc (.cells #[.string x, .string y] 23))
  generalize hW : World.alloc w1 _ = W1 at *
  clear hW Q1
  generalize w1.heap.size = f1 at *
  refine (HR.out _).mono ?_
  rintro e w3 ⟨rfl, q3⟩
  have Q3 := hid (Q2.out.trans q3)
  have F3 := hid (blk_q q3 F1.out)
  clear q3 Q2 F1
  have c0 : (w3.alloc (.cells #[.string x, .string y] 23)).cell? ⟨f1, 0, none⟩ = some (.string x) := by rw [cell_of_row _ _ 0 _ 23 (0, 0) (blk_q ((Q.refl w3).alloc _) F3.out)]; rfl
  have c1 : (w3.alloc (.cells #[.string x, .string y] 23)).cell? ⟨f1, 1, none⟩ = some (.string y) := by rw [cell_of_row _ _ 1 _ 23 (0, 0) (blk_q ((Q.refl w3).alloc _) F3.out)]; rfl
  go_wp2_with (go_at_call 7; refine (HAW.out _).mono ?_; rintro e w4 ⟨rfl, q4⟩)
  go_ret
  exact ⟨rfl, (Q3.out.alloc _).trans q4⟩

set_option maxRecDepth 100000 in
theorem lifted (os : Os) (started : os.Started) (H : Type) (enc : TypeId × Value → H) :
    ReturnsInHanded {} Try.checked os 3 .any (Rows.qpackStaticsSpec.pre6 enc Try.prog Try.f3 Rows.qpackStaticsRow.domain false) (Rows.qpackStaticsSpec.post enc Try.prog Try.f3 false true false false) := by
  refine returnsInHanded_of_change_sized (C := Try.checked) own_knob started (by kernel_rfl) Try.func3
    (ChangeSpec.witness6 (enc := enc) (C := Try.checked) false ⟨#[], #[.int .i64 0], []⟩ 8 (by kernel_rfl) (by kernel_rfl) (by kernel_rfl) (by kernel_rfl)) ?_
  intro W base args ds gs before hval0 hW hcnd hsz0 _
  have hval : ∀ (j : Nat) t v, Try.f3.params[j]? = some t → args[j]? = some v → Value.okWide Try.prog W .any base t v := hval0
  have hsz : (DataW.weightsEach Try.prog (Try.f3.params.toList ++ Rows.qpackStaticsSpec.plain.varTypes Try.prog) (ds ++ gs)).all (· ≤ reachBytes) = true := hsz0
  have hW' := hW
  obtain ⟨p, q, hA0, hV, rfl, hfz, hnd⟩ := hW
  have hA : DataW.TrodAll enc Try.prog W 0 (fun _ => true) true Try.f3.params.toList args.toList ds p := hA0
  rw [Try.params3] at hA hval hsz
  obtain ⟨v0, vs0, d0, ds0, p0, q0, hargs, rfl, rfl, h0, r0⟩ := trodAll_cons hA
  obtain ⟨rfl, rfl, rfl⟩ := trodAll_nil r0
  obtain rfl : args = #[v0] := by cases args; simp_all
  obtain ⟨rfl, rfl⟩ := trodVars_none hV
  obtain ⟨a0, rfl, rfl, rfl, w0⟩ := open_int Try.underlying3 (hval 0 3 v0 rfl rfl) h0
  clear hA0 hval0
  refine (walk a0 W).mono fun e W' ⟨he, bel⟩ => ?_
  subst he
  exact ⟨_, rfl, _, _, _, [], _, [], hW', trodAll_mk1 (shut_bool Try.underlying4 _), (trodAll_cons_mk (shut_int Try.underlying3 w0) trodAll_mk0), rfl, bel.frame _, fun h => by cases h⟩

theorem over : Rows.qpackStaticsRow.holds Try.pinned (OpenSpec.ofChange Rows.qpackStaticsSpec) :=
  OpenClaim.holds_of_wide 3 Try.f3 rfl rfl rfl rfl rfl rfl rfl ⟨rfl, rfl, rfl, rfl, rfl⟩ rfl rfl rfl rfl rfl (by kernel_rfl) Try.func3 (by kernel_rfl)
    (of_decide_eq_true (by kernel_rfl)) (by unfold Func.isWrapper; first | (rw [if_pos (by decide +kernel)]; kernel_rfl) | (rw [if_neg (by decide +kernel)]; exact ⟨rfl, rfl⟩))
    (fun os started H enc _ => lifted os started H enc)

end Go.Proofs.Ytehejibllkmflaa.qpackStatics
namespace Go.Proofs.Ytehejibllkmflaa

/-- The statement. -/
theorem qpackStatics_holds : Rows.QpackStaticsSaid := qpackStatics.over
#print axioms qpackStatics_holds
end Go.Proofs.Ytehejibllkmflaa
