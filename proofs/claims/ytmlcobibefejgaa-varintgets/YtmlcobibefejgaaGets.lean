/-
  Proved: for all bytes and every int the law turnpikelaw01.VarintGets returns true, and its arguments read as they did. No condition.
-/
import Derived.Test.YtmlcobibefejgaaRows
import Derived.Test.YtmlcobibefejgaaAwake
import Derived.Test.YtmlcobibefejgaaRefGet
import Derived.Test.YtmlcobibefejgaaCopy
import Derived.Test.YtmlcobibefejgaaOpen
import Derived.WalkKit
import Derived.ProofKit
import Derived.OpenShut
import Derived.ShutString
import Derived.ChangeOld
import Derived.Below
import Derived.SizedLaws
namespace Go.Proofs.Ytmlcobibefejgaa.varintGets
open Go.ChangeShapes Go.WideShapes Go.ChangeAt Go.RowKit
open Go.ChangeMaps (open_string shut_string)
set_option linter.unusedVariables false

set_option maxHeartbeats 400000 in
theorem walk (a : Option Addr) (n c : Nat) (zs : List Int) (p : Int) (w : World) (hl : zs.length = n) (hn : n ≤ 140737488351232) (hz : ∀ y ∈ zs, 0 ≤ y ∧ y < 256) (hs : Seg w a zs) :
    Calls Try.prog 4 #[.slice a n c, .int .i64 p] w fun e w' => e = .returned (.bool true) ∧ Below w.heap.size w w' := by
  have HL := hid hl
  have HZ := hid hz
  have HS := hid hs
  clear hl hz hs
  go_enter Try.func4, Try.ntmps4
  go_wp2_with fail
  refine (rcopy_any a n c zs _ HL.out (by omega) HS.out).mono ?_
  rintro e w1 ⟨g, rfl, hq1, ho1, _⟩
  have H1 := hid hq1
  have O1 := hid ho1
  clear hq1 ho1
  go_wp2_with fail
  refine (get_any (some ⟨g, 0, none⟩) n n zs p _ HL.out (by omega) HZ.out O1.out.seg).mono ?_
  rintro e w2 ⟨rfl, rfl⟩
  obtain ⟨t, ht⟩ : ∃ t, rd zs p = t := ⟨_, rfl⟩
  have HT := hid ht
  rw [ht]
  clear ht
  obtain ⟨t1, t2, t3⟩ := t
  simp only
  go_wp2_with fail
  refine (rget_any a n c zs p _ HL.out (by omega) HZ.out (HS.out.q H1.out)).mono ?_
  rw [HT.out]
  rintro e w2 ⟨rfl, rfl⟩
  go_wp2_with fail
  refine (awake_any _).mono ?_
  rintro e w2 ⟨rfl, hq2⟩
  have H2 := hid hq2
  clear hq2
  go_wp2_with fail
  refine (same_any (some ⟨g, 0, none⟩) a n n n c zs zs _ HL.out HL.out (by omega) (by omega) (O1.out.q H2.out).seg ((HS.out.q H1.out).q H2.out)).mono ?_
  rintro e w3 ⟨rfl, hq3⟩
  have H3 := hid hq3
  clear hq3
  simp only [decide_true]
  go_wp2
  go_ret
  exact ⟨rfl, (H1.out.trans H2.out).trans H3.out⟩

set_option maxRecDepth 100000 in
theorem lifted (os : Os) (started : os.Started) (H : Type) (enc : TypeId × Value → H) :
    ReturnsInHanded {} Try.checked os 4 .any (Rows.varintGetsSpec.pre6 enc Try.prog Try.f4 Rows.varintGetsRow.domain false) (Rows.varintGetsSpec.post enc Try.prog Try.f4 false true false false) := by
  refine returnsInHanded_of_change_sized (C := Try.checked) own_knob started (by kernel_rfl) Try.func4
    (ChangeSpec.witness6 (enc := enc) (C := Try.checked) false ⟨#[], #[.slice none 0 0, .int .i64 0], []⟩ 8 (by kernel_rfl) (by kernel_rfl) (by kernel_rfl) (by kernel_rfl)) ?_
  intro W base args ds gs before hval0 hW hcnd hsz0 _
  have hval : ∀ (j : Nat) t v, Try.f4.params[j]? = some t → args[j]? = some v → Value.okWide Try.prog W .any base t v := hval0
  have hsz : (DataW.weightsEach Try.prog (Try.f4.params.toList ++ Rows.varintGetsSpec.plain.varTypes Try.prog) (ds ++ gs)).all (· ≤ reachBytes) = true := hsz0
  have hW' := hW
  obtain ⟨p, q, hA0, hV, rfl, hfz, hnd⟩ := hW
  have hA : DataW.TrodAll enc Try.prog W 0 (fun _ => true) true Try.f4.params.toList args.toList ds p := hA0
  rw [Try.params4] at hA hval hsz
  obtain ⟨v0, vs0, d0, ds0, p0, q0, hargs, rfl, rfl, h0, r0⟩ := trodAll_cons hA
  obtain ⟨v1, vs1, d1, ds1, p1, q1, rfl, rfl, rfl, h1, r1⟩ := trodAll_cons r0
  obtain ⟨rfl, rfl, rfl⟩ := trodAll_nil r1
  obtain rfl : args = #[v0, v1] := by cases args; simp_all
  obtain ⟨rfl, rfl⟩ := trodVars_none hV
  obtain ⟨a0, len0, cap0, rfl⟩ := okWide_slice Try.underlying22 (hval 0 22 v0 rfl rfl)
  have k0 := h0
  have lt0 : ∀ x ∈ p0, x.block < W.heap.size := by obtain ⟨m, hm⟩ := k0; exact DataW.trod_lt m _ _ _ hm
  obtain ⟨z0, zl0, zs0, zb0, zc0, ze0, zd0⟩ := open_bytes h0
  have zn0 := len_le hsz (j := 0) rfl rfl zd0
  obtain ⟨a1, rfl, rfl, rfl, w1⟩ := open_int Try.underlying3 (hval 1 3 v1 rfl rfl) h1
  clear hA0 hval0
  refine (walk a0 len0 cap0 z0 a1 W zl0 zn0 zb0 zs0).mono fun e W' ⟨he, bel⟩ => ?_
  subst he
  exact ⟨_, rfl, _, _, _, [], _, [], hW', trodAll_mk1 (shut_bool Try.underlying4 _), (trodAll_cons_mk (Below.trod laid_out (by kernel_rfl) (of_decide_eq_true (by kernel_rfl)) k0 bel lt0) (trodAll_cons_mk (shut_int Try.underlying3 w1) trodAll_mk0)), rfl, bel.frame _, fun h => by cases h⟩

theorem over : Rows.varintGetsRow.holds Try.pinned (OpenSpec.ofChange Rows.varintGetsSpec) :=
  OpenClaim.holds_of_wide 4 Try.f4 rfl rfl rfl rfl rfl rfl rfl ⟨rfl, rfl, rfl, rfl, rfl⟩ rfl rfl rfl rfl rfl (by kernel_rfl) Try.func4 (by kernel_rfl)
    (of_decide_eq_true (by kernel_rfl)) (by unfold Func.isWrapper; first | (rw [if_pos (by decide +kernel)]; kernel_rfl) | (rw [if_neg (by decide +kernel)]; exact ⟨rfl, rfl⟩))
    (fun os started H enc _ => lifted os started H enc)

end Go.Proofs.Ytmlcobibefejgaa.varintGets
namespace Go.Proofs.Ytmlcobibefejgaa

/-- The statement. -/
theorem varintGets_holds : Rows.VarintGetsSaid := varintGets.over
#print axioms varintGets_holds
end Go.Proofs.Ytmlcobibefejgaa
