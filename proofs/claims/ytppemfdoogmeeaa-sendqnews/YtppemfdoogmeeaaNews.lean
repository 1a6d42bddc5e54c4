/-
  Proved: for every int the law turnpikelaw04.SendqNews returns true, and its argument reads as it did. No condition.
-/
import Derived.Test.YtppemfdoogmeeaaRows
import Derived.Test.YtppemfdoogmeeaaAwake
import Derived.Test.YtppemfdoogmeeaaRim
import Derived.WalkKit
import Derived.ProofKit
import Derived.OpenShut
import Derived.ShutString
import Derived.ChangeOld
import Derived.Below
import Derived.SizedLaws
namespace Go.Proofs.Ytppemfdoogmeeaa.sendqNews
open Go.ChangeShapes Go.WideShapes Go.ChangeAt Go.RowKit
open Go.ChangeMaps (open_string shut_string)
set_option linter.unusedVariables false

set_option maxHeartbeats 2000000 in
theorem walk (n : Int) (w : World) :
    Calls Try.prog 3 #[.int .i64 n] w fun e w' => e = .returned (.bool true) ∧ Below w.heap.size w w' := by
  by_cases hn : 1 ≤ n ∧ n ≤ 65536
  · obtain ⟨h0, h1⟩ := hn
    have HO := hid (ok0 h0 h1)
    have b1 : decide (n < 1) = false := by simp; omega
    have b2 : decide ((65536 : Int) < n) = false := by simp; omega
    go_enter Try.func3, Try.ntmps3
    go_wp2_with fail
    refine (new_good n w h0 h1).mono ?_
    rintro e w1 ⟨rfl, hb1, hq1, hlt⟩
    have HB1 := hid hb1
    have HQ1 := hid hq1
    clear hb1 hq1
    go_wp2_with fail
    refine (next_any w.heap.size nilS nilS n s0 9 9 w1 HB1.out HO.out (by simp [s0])).mono ?_
    have e0 : nxP s0 9 9 = 0 := rfl
    have e1 : nxF s0 9 9 = false := rfl
    have e2 : nxO s0 9 9 = false := rfl
    have e3 : nxS s0 9 9 = s0 := rfl
    have e4 : nxD s0 9 9 = [] := rfl
    rintro e w2 ⟨D, rfl, hb2, hr2, hD, hk2⟩
    rw [e3] at hb2
    rw [e4] at hr2
    rw [e0, e1, e2]
    have hDn : D.n = 0 := by have := hr2.len; simpa using this.symm
    rw [hDn]
    have HB2 := hid hb2
    have HQ2 := hid (show Q w w2 from ((Keep.ofQ (F := fun k => w.heap.size ≤ k) HQ1.out).trans' hk2 (fun i hi e => by
      rcases e with h | h | h
      · omega
      · cases h
      · cases h)).toQ (fun i hi h => by omega))
    clear hb2 hr2 hk2 hD hDn e0 e1 e2 e3 e4
    go_wp2_with fail
    refine (room_any w.heap.size nilS nilS n s0 w2 HB2.out HO.out).mono ?_
    rintro e w3 ⟨rfl, k, rfl⟩
    have hrm : n - ((s0.ms.length : Int) - (bas s0 : Int)) = n := by simp [s0, bas, ld]
    rw [hrm]
    have HB3 := hid (HB2.out.q ((Q.refl w2).drewN k))
    have HQ3 := hid (HQ2.out.drewN k)
    generalize w2.drewN k = w3 at *
    go_wp2_with fail
    refine (written_any w.heap.size nilS nilS n s0 w3 HB3.out HO.out (by simp [s0])).mono ?_
    rintro e w4 ⟨rfl, k, rfl⟩
    have HB4 := hid (HB3.out.q ((Q.refl w3).drewN k))
    have HQ4 := hid (HQ3.out.drewN k)
    generalize w3.drewN k = w4 at *
    rw [show (s0.ms.length : Int) = 0 from rfl]
    go_wp2_with fail
    refine (sent_any w.heap.size nilS nilS n s0 w4 HB4.out).mono ?_
    rintro e w5 ⟨rfl, rfl⟩
    rw [show (s0.sent : Int) = 0 from rfl]
    go_wp2_with fail
    refine (base_any w.heap.size nilS nilS n s0 w4 HB4.out).mono ?_
    rintro e w5 ⟨rfl, rfl⟩
    rw [show (bas s0 : Int) = 0 from rfl]
    go_wp2_with fail
    refine (done_any w.heap.size nilS nilS n s0 w4 HB4.out HO.out).mono ?_
    rintro e w5 ⟨rfl, rfl⟩
    rw [show dnB s0 = false from rfl]
    go_wp2_with fail
    refine (awake_any w4).mono ?_
    rintro e w5 ⟨rfl, hq5⟩
    have HQ5 := hid (HQ4.out.trans hq5)
    clear hq5
    go_wp2
    go_ret
    exact ⟨rfl, HQ5.out⟩
  · have HN := hid hn
    by_cases h1 : n < 1
    · have b1 : decide (n < 1) = true := by simp [h1]
      clear hn
      go_enter Try.func3, Try.ntmps3
      go_wp2_with fail
      refine (new_bad n w HN.out).mono ?_
      rintro e w1 ⟨rfl, rfl⟩
      go_wp2_with fail
      refine (awake_any w).mono ?_
      rintro e w4 ⟨rfl, hq4⟩
      have HQ4 := hid hq4
      clear hq4
      go_wp2
      go_ret
      exact ⟨rfl, HQ4.out⟩
    · have b1 : decide (n < 1) = false := by simp [h1]
      have b2 : decide ((65536 : Int) < n) = true := by simp; omega
      have b3 : (65536 : Int) < n := by omega
      clear hn
      go_enter Try.func3, Try.ntmps3
      go_wp2_with fail
      refine (new_bad n w HN.out).mono ?_
      rintro e w1 ⟨rfl, rfl⟩
      go_wp2_with fail
      refine (awake_any w).mono ?_
      rintro e w4 ⟨rfl, hq4⟩
      have HQ4 := hid hq4
      clear hq4
      go_wp2
      go_ret
      exact ⟨rfl, HQ4.out⟩

set_option maxRecDepth 100000 in
theorem lifted (os : Os) (started : os.Started) (H : Type) (enc : TypeId × Value → H) :
    ReturnsInHanded {} Try.checked os 3 .any (Rows.sendqNewsSpec.pre6 enc Try.prog Try.f3 Rows.sendqNewsRow.domain false) (Rows.sendqNewsSpec.post enc Try.prog Try.f3 false true false false) := by
  refine returnsInHanded_of_change_sized (C := Try.checked) own_knob started (by kernel_rfl) Try.func3
    (ChangeSpec.witness6 (enc := enc) (C := Try.checked) false ⟨#[], #[.int .i64 0], []⟩ 8 (by kernel_rfl) (by kernel_rfl) (by kernel_rfl) (by kernel_rfl)) ?_
  intro W base args ds gs before hval0 hW hcnd hsz0 _
  have hval : ∀ (j : Nat) t v, Try.f3.params[j]? = some t → args[j]? = some v → Value.okWide Try.prog W .any base t v := hval0
  have hsz : (DataW.weightsEach Try.prog (Try.f3.params.toList ++ Rows.sendqNewsSpec.plain.varTypes Try.prog) (ds ++ gs)).all (· ≤ reachBytes) = true := hsz0
  have hW' := hW
  obtain ⟨p, q, hA0, hV, rfl, hfz, hnd⟩ := hW
  have hA : DataW.TrodAll enc Try.prog W 0 (fun _ => true) true Try.f3.params.toList args.toList ds p := hA0
  rw [Try.params3] at hA hval hsz
  obtain ⟨v0, vs0, d0, ds0, p0, q0, hargs, rfl, rfl, h0, r0⟩ := trodAll_cons hA
  obtain ⟨rfl, rfl, rfl⟩ := trodAll_nil r0
  obtain rfl : args = #[v0] := by cases args; simp_all
  obtain ⟨rfl, rfl⟩ := trodVars_none hV
  obtain ⟨a0, rfl, rfl, rfl, w0⟩ := open_int Try.underlying3 (hval 0 3 v0 rfl rfl) h0
  clear hA0 hval0
  refine (walk a0 W).mono fun e W' ⟨he, bel⟩ => ?_
  subst he
  exact ⟨_, rfl, _, _, _, [], _, [], hW', trodAll_mk1 (shut_bool Try.underlying4 _), (trodAll_cons_mk (shut_int Try.underlying3 w0) trodAll_mk0), rfl, bel.frame _, fun h => by cases h⟩

theorem over : Rows.sendqNewsRow.holds Try.pinned (OpenSpec.ofChange Rows.sendqNewsSpec) :=
  OpenClaim.holds_of_wide 3 Try.f3 rfl rfl rfl rfl rfl rfl rfl ⟨rfl, rfl, rfl, rfl, rfl⟩ rfl rfl rfl rfl rfl (by kernel_rfl) Try.func3 (by kernel_rfl)
    (of_decide_eq_true (by kernel_rfl)) (by unfold Func.isWrapper; first | (rw [if_pos (by decide +kernel)]; kernel_rfl) | (rw [if_neg (by decide +kernel)]; exact ⟨rfl, rfl⟩))
    (fun os started H enc _ => lifted os started H enc)

end Go.Proofs.Ytppemfdoogmeeaa.sendqNews
namespace Go.Proofs.Ytppemfdoogmeeaa

/-- The statement. -/
theorem sendqNews_holds : Rows.SendqNewsSaid := sendqNews.over
#print axioms sendqNews_holds
end Go.Proofs.Ytppemfdoogmeeaa
