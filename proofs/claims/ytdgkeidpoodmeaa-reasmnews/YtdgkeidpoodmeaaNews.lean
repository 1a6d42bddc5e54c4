/-
  Proved: for every int the law turnpikelaw03.ReasmNews returns true, and its argument reads as it did. No condition.
-/
import Derived.Test.YtdgkeidpoodmeaaRows
import Derived.Test.YtdgkeidpoodmeaaAwake
import Derived.Test.YtdgkeidpoodmeaaRim
import Derived.WalkKit
import Derived.ProofKit
import Derived.OpenShut
import Derived.ShutString
import Derived.ChangeOld
import Derived.Below
import Derived.SizedLaws
namespace Go.Proofs.Ytdgkeidpoodmeaa.reasmNews
open Go.ChangeShapes Go.WideShapes Go.ChangeAt Go.RowKit
open Go.ChangeMaps (open_string shut_string)
set_option linter.unusedVariables false

set_option maxHeartbeats 2000000 in
theorem walk (n : Int) (w : World) :
    Calls Try.prog 3 #[.int .i64 n] w fun e w' => e = .returned (.bool true) ∧ Below w.heap.size w w' := by
  by_cases hn : 1 ≤ n ∧ n ≤ 65536
  · have HG := hid (show decide (1 ≤ n ∧ n ≤ 65536) = true by simp [hn])
    obtain ⟨h0, h1⟩ := hn
    have HO := hid (ok0 h0 h1)
    go_enter Try.func3, Try.ntmps3
    go_wp2_with fail
    refine (new_good n w h0 h1).mono ?_
    rintro e w1 ⟨rfl, hb1, hq1, hlt⟩
    have HB1 := hid hb1
    have HQ1 := hid hq1
    clear hb1 hq1
    go_wp2_with fail
    refine (good_any n w1).mono ?_
    rw [HG.out]
    rintro e w2 ⟨rfl, rfl⟩
    go_wp2_with fail
    refine (read_any w.heap.size n s0 none 0 0 5 w1 HB1.out HO.out).mono ?_
    have e0 : readM s0 5 = 0 := rfl
    have e1 : endOf (readSt s0 5) = false := rfl
    rw [e0, e1]
    rintro e w2 ⟨a2, n2, c2, D, rfl, hb2, hs2, hD, hk2, hbb⟩
    have e2 : readSt s0 5 = s0 := rfl
    rw [e2] at hb2
    have hd2 := hb2.hd
    have HD2 := hid (show Hd w2 w.heap.size n 0 0 0 false 0 0 a2 n2 c2 from hd2)
    have HQ2 := hid (show Q w w2 from ((Keep.ofQ (F := fun k => w.heap.size ≤ k) HQ1.out).trans' hk2 (fun i hi e => by
      rcases e with h | h
      · omega
      · cases h)).toQ (fun i hi h => by omega))
    clear hd2 hb2 hs2 hk2 hbb e0 e1 e2
    go_wp2_with fail
    refine (final_any w.heap.size n 0 0 0 false 0 0 a2 n2 c2 w2 HD2.out).mono ?_
    rintro e w3 ⟨rfl, k, rfl⟩
    have HD3 := hid (HD2.out.q ((Q.refl w2).drewN k))
    have HQ3 := hid (HQ2.out.drewN k)
    generalize w2.drewN k = w3 at *
    go_wp2_with fail
    refine (ready_any w.heap.size n 0 0 0 false 0 0 a2 n2 c2 w3 HD3.out).mono ?_
    rintro e w4 ⟨rfl, rfl⟩
    go_wp2_with fail
    refine (offset_any w.heap.size n 0 0 0 false 0 0 a2 n2 c2 w3 HD3.out).mono ?_
    rintro e w4 ⟨rfl, rfl⟩
    go_wp2_with fail
    refine (high_any w.heap.size n 0 0 0 false 0 0 a2 n2 c2 w3 HD3.out).mono ?_
    rintro e w4 ⟨rfl, rfl⟩
    go_wp2_with fail
    refine (held_any w.heap.size n 0 0 0 false 0 0 a2 n2 c2 w3 HD3.out).mono ?_
    rintro e w4 ⟨rfl, rfl⟩
    go_wp2_with fail
    refine (awake_any w3).mono ?_
    rintro e w4 ⟨rfl, hq4⟩
    have HQ4 := hid (HQ3.out.trans hq4)
    clear hq4
    go_wp2
    go_ret
    exact ⟨rfl, HQ4.out⟩
  · have HG := hid (show decide (1 ≤ n ∧ n ≤ 65536) = false by simp; omega)
    have HN := hid hn
    clear hn
    go_enter Try.func3, Try.ntmps3
    go_wp2_with fail
    refine (new_bad n w HN.out).mono ?_
    rintro e w1 ⟨rfl, rfl⟩
    go_wp2_with fail
    refine (good_any n w).mono ?_
    rw [HG.out]
    rintro e w2 ⟨rfl, rfl⟩
    go_wp2_with fail
    refine (awake_any w).mono ?_
    rintro e w4 ⟨rfl, hq4⟩
    have HQ4 := hid hq4
    clear hq4
    go_wp2
    go_ret
    exact ⟨rfl, HQ4.out⟩

set_option maxRecDepth 100000 in
theorem lifted (os : Os) (started : os.Started) (H : Type) (enc : TypeId × Value → H) :
    ReturnsInHanded {} Try.checked os 3 .any (Rows.reasmNewsSpec.pre6 enc Try.prog Try.f3 Rows.reasmNewsRow.domain false) (Rows.reasmNewsSpec.post enc Try.prog Try.f3 false true false false) := by
  refine returnsInHanded_of_change_sized (C := Try.checked) own_knob started (by kernel_rfl) Try.func3
    (ChangeSpec.witness6 (enc := enc) (C := Try.checked) false ⟨#[], #[.int .i64 0], []⟩ 8 (by kernel_rfl) (by kernel_rfl) (by kernel_rfl) (by kernel_rfl)) ?_
  intro W base args ds gs before hval0 hW hcnd hsz0 _
  have hval : ∀ (j : Nat) t v, Try.f3.params[j]? = some t → args[j]? = some v → Value.okWide Try.prog W .any base t v := hval0
  have hsz : (DataW.weightsEach Try.prog (Try.f3.params.toList ++ Rows.reasmNewsSpec.plain.varTypes Try.prog) (ds ++ gs)).all (· ≤ reachBytes) = true := hsz0
  have hW' := hW
  obtain ⟨p, q, hA0, hV, rfl, hfz, hnd⟩ := hW
  have hA : DataW.TrodAll enc Try.prog W 0 (fun _ => true) true Try.f3.params.toList args.toList ds p := hA0
  rw [Try.params3] at hA hval hsz
  obtain ⟨v0, vs0, d0, ds0, p0, q0, hargs, rfl, rfl, h0, r0⟩ := trodAll_cons hA
  obtain ⟨rfl, rfl, rfl⟩ := trodAll_nil r0
  obtain rfl : args = #[v0] := by cases args; simp_all
  obtain ⟨rfl, rfl⟩ := trodVars_none hV
  obtain ⟨a0, rfl, rfl, rfl, w0⟩ := open_int Try.underlying3 (hval 0 3 v0 rfl rfl) h0
  clear hA0 hval0
  refine (walk a0 W).mono fun e W' ⟨he, bel⟩ => ?_
  subst he
  exact ⟨_, rfl, _, _, _, [], _, [], hW', trodAll_mk1 (shut_bool Try.underlying4 _), (trodAll_cons_mk (shut_int Try.underlying3 w0) trodAll_mk0), rfl, bel.frame _, fun h => by cases h⟩

theorem over : Rows.reasmNewsRow.holds Try.pinned (OpenSpec.ofChange Rows.reasmNewsSpec) :=
  OpenClaim.holds_of_wide 3 Try.f3 rfl rfl rfl rfl rfl rfl rfl ⟨rfl, rfl, rfl, rfl, rfl⟩ rfl rfl rfl rfl rfl (by kernel_rfl) Try.func3 (by kernel_rfl)
    (of_decide_eq_true (by kernel_rfl)) (by unfold Func.isWrapper; first | (rw [if_pos (by decide +kernel)]; kernel_rfl) | (rw [if_neg (by decide +kernel)]; exact ⟨rfl, rfl⟩))
    (fun os started H enc _ => lifted os started H enc)

end Go.Proofs.Ytdgkeidpoodmeaa.reasmNews
namespace Go.Proofs.Ytdgkeidpoodmeaa

/-- The statement. -/
theorem reasmNews_holds : Rows.ReasmNewsSaid := reasmNews.over
#print axioms reasmNews_holds
end Go.Proofs.Ytdgkeidpoodmeaa
