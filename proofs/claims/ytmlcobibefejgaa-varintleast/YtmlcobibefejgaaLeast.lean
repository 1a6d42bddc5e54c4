/-
  Proved: for all bytes the law turnpikelaw01.VarintLeast returns true, and its argument reads as it did. No condition.
-/
import Derived.Test.YtmlcobibefejgaaRows
import Derived.Test.YtmlcobibefejgaaAwake
import Derived.Test.YtmlcobibefejgaaMathTwo
import Derived.Test.YtmlcobibefejgaaCopy
import Derived.Test.YtmlcobibefejgaaOpen
import Derived.WalkKit
import Derived.ProofKit
import Derived.OpenShut
import Derived.ShutString
import Derived.ChangeOld
import Derived.Below
import Derived.SizedLaws
namespace Go.Proofs.Ytmlcobibefejgaa.varintLeast
open Go.ChangeShapes Go.WideShapes Go.ChangeAt Go.RowKit
open Go.ChangeMaps (open_string shut_string)
set_option linter.unusedVariables false

set_option maxHeartbeats 1000000 in
theorem walk_ok (b off n c s k : Nat) (m : Int) (zs : List Int) (w : World) (hl : zs.length = n) (hn : n ≤ 140737488351232) (hnc : n ≤ c) (hz : ∀ y ∈ zs, 0 ≤ y ∧ y < 256) (hs : Seg w (some ⟨b, off, none⟩) zs)
    (hrd : rd zs 0 = (m, (s : Int), 0)) (h1 : 1 ≤ s) (hsn : s ≤ n) (m0 : 0 ≤ m) (m1 : m ≤ 4611686018427387903) (hk : sz m = k) (hks : k ≤ s) (hsame : k = s → form m = zs.take s) :
    Calls Try.prog 6 #[.slice (some ⟨b, off, none⟩) n c] w fun e w' => e = .returned (.bool true) ∧ Below w.heap.size w w' := by
  have HL := hid hl
  have HZ := hid hz
  have HS := hid hs
  have HR := hid hrd
  have HK := hid hk
  have HF := hid hsame
  have hkm : 0 < k := by have := sz_some m0 m1; omega
  have hk8 : k ≤ 8 := by have := sz_le m; omega
  clear hl hz hs hrd hk hsame
  have t1 : decide ((s : Int) < 1) = false := by simp; omega
  have t2 : decide ((n : Int) < s) = false := by simp; omega
  have t3 : decide ((s : Int) < k) = false := by simp; omega
  have t4 : ((k : Int) != k) = false := by simp
  go_enter Try.func6, Try.ntmps6
  go_wp2_with fail
  refine (rcopy_any (some ⟨b, off, none⟩) n c zs _ HL.out (by omega) HS.out).mono ?_
  rintro e w1 ⟨g, rfl, hq1, ho1, _⟩
  have H1 := hid hq1
  have O1 := hid ho1
  clear hq1 ho1
  go_wp2_with fail
  refine (get_any (some ⟨g, 0, none⟩) n n zs 0 _ HL.out (by omega) HZ.out O1.out.seg).mono ?_
  rw [HR.out]
  rintro e w2 ⟨rfl, rfl⟩
  go_wp2_with fail
  refine (put_ok m _ k m0 m1 HK).mono ?_
  rintro e w2 ⟨g2, rfl, hq2, ho2⟩
  have H2 := hid hq2
  have O2 := hid ho2
  clear hq2 ho2
  go_wp2_with fail
  refine (size_any m _).mono ?_
  rw [HK.out]
  rintro e w3 ⟨rfl, rfl⟩
  by_cases hlt : k < s
  · have t5 : decide ((k : Int) < s) = true := by simp; omega
    go_wp2_with fail
    refine (awake_any _).mono ?_
    rintro e w3 ⟨rfl, hq3⟩
    have H3 := hid hq3
    clear hq3
    go_wp2
    go_ret
    exact ⟨rfl, (H1.out.trans H2.out).trans H3.out⟩
  · obtain rfl : s = k := by omega
    have t5 : decide ((s : Int) < s) = false := by simp
    have hsc : s ≤ c := by omega
    go_wp2_with fail
    refine (same_any (some ⟨g2, 0, none⟩) (some ⟨b, off, none⟩) s s s c (form m) (zs.take s) _ (by rw [form_length, HK.out]) (by simp; have := HL.out; omega) (by omega) (by omega) O2.out.seg (seg_take ((HS.out.q H1.out).q H2.out) s)).mono ?_
    rw [HF.out trivial]
    rintro e w3 ⟨rfl, hq3⟩
    have H3 := hid hq3
    clear hq3
    simp only [decide_true]
    go_wp2_with fail
    refine (awake_any _).mono ?_
    rintro e w4 ⟨rfl, hq4⟩
    have H4 := hid hq4
    clear hq4
    go_wp2
    go_ret
    exact ⟨rfl, ((H1.out.trans H2.out).trans H3.out).trans H4.out⟩

set_option maxHeartbeats 400000 in
theorem walk_no (a : Option Addr) (n c : Nat) (zs : List Int) (w : World) (hl : zs.length = n) (hn : n ≤ 140737488351232) (hz : ∀ y ∈ zs, 0 ≤ y ∧ y < 256) (hs : Seg w a zs)
    (hrd : rd zs 0 = (0, 0, 12)) :
    Calls Try.prog 6 #[.slice a n c] w fun e w' => e = .returned (.bool true) ∧ Below w.heap.size w w' := by
  have HL := hid hl
  have HZ := hid hz
  have HS := hid hs
  have HR := hid hrd
  clear hl hz hs hrd
  go_enter Try.func6, Try.ntmps6
  go_wp2_with fail
  refine (rcopy_any a n c zs _ HL.out (by omega) HS.out).mono ?_
  rintro e w1 ⟨g, rfl, hq1, ho1, _⟩
  have H1 := hid hq1
  have O1 := hid ho1
  clear hq1 ho1
  go_wp2_with fail
  refine (get_any (some ⟨g, 0, none⟩) n n zs 0 _ HL.out (by omega) HZ.out O1.out.seg).mono ?_
  rw [HR.out]
  rintro e w2 ⟨rfl, rfl⟩
  go_wp2_with fail
  refine (awake_any _).mono ?_
  rintro e w2 ⟨rfl, hq2⟩
  have H2 := hid hq2
  clear hq2
  go_wp2
  go_ret
  exact ⟨rfl, H1.out.trans H2.out⟩

theorem walk (a : Option Addr) (n c : Nat) (zs : List Int) (w : World) (hl : zs.length = n) (hn : n ≤ 140737488351232) (hnc : n ≤ c) (hz : ∀ y ∈ zs, 0 ≤ y ∧ y < 256) (hs : Seg w a zs) :
    Calls Try.prog 6 #[.slice a n c] w fun e w' => e = .returned (.bool true) ∧ Below w.heap.size w w' := by
  obtain ⟨t, ht⟩ : ∃ t, rd zs 0 = t := ⟨_, rfl⟩
  obtain ⟨m, e, f⟩ := t
  rw [rd_zero] at ht
  rcases rdAt_ok ht with ⟨rfl, x, r, rfl, hw, hm, he⟩ | ⟨rfl, rfl, rfl⟩
  · obtain ⟨b, off, rfl, _⟩ := hs (by simp)
    have L := least hz hw
    simp only at L
    rw [← hm] at L
    obtain ⟨m0, m1, hle, hf⟩ := L
    rw [← rd_zero, he, Int.zero_add] at ht
    exact walk_ok b off n c (width x) (sz m) m (x :: r) w hl hn hnc hz hs ht (by have := hz x (by simp); rcases width_cases this.1 this.2 with h | h | h | h <;> omega) (by omega) m0 m1 rfl hle hf
  · rw [← rd_zero] at ht
    exact walk_no a n c zs w hl hn hz hs ht

set_option maxRecDepth 100000 in
theorem lifted (os : Os) (started : os.Started) (H : Type) (enc : TypeId × Value → H) :
    ReturnsInHanded {} Try.checked os 6 .any (Rows.varintLeastSpec.pre6 enc Try.prog Try.f6 Rows.varintLeastRow.domain false) (Rows.varintLeastSpec.post enc Try.prog Try.f6 false true false false) := by
  refine returnsInHanded_of_change_sized (C := Try.checked) own_knob started (by kernel_rfl) Try.func6
    (ChangeSpec.witness6 (enc := enc) (C := Try.checked) false ⟨#[], #[.slice none 0 0], []⟩ 8 (by kernel_rfl) (by kernel_rfl) (by kernel_rfl) (by kernel_rfl)) ?_
  intro W base args ds gs before hval0 hW hcnd hsz0 _
  have hval : ∀ (j : Nat) t v, Try.f6.params[j]? = some t → args[j]? = some v → Value.okWide Try.prog W .any base t v := hval0
  have hsz : (DataW.weightsEach Try.prog (Try.f6.params.toList ++ Rows.varintLeastSpec.plain.varTypes Try.prog) (ds ++ gs)).all (· ≤ reachBytes) = true := hsz0
  have hW' := hW
  obtain ⟨p, q, hA0, hV, rfl, hfz, hnd⟩ := hW
  have hA : DataW.TrodAll enc Try.prog W 0 (fun _ => true) true Try.f6.params.toList args.toList ds p := hA0
  rw [Try.params6] at hA hval hsz
  obtain ⟨v0, vs0, d0, ds0, p0, q0, hargs, rfl, rfl, h0, r0⟩ := trodAll_cons hA
  obtain ⟨rfl, rfl, rfl⟩ := trodAll_nil r0
  obtain rfl : args = #[v0] := by cases args; simp_all
  obtain ⟨rfl, rfl⟩ := trodVars_none hV
  obtain ⟨a0, len0, cap0, rfl⟩ := okWide_slice Try.underlying22 (hval 0 22 v0 rfl rfl)
  have k0 := h0
  have lt0 : ∀ x ∈ p0, x.block < W.heap.size := by obtain ⟨m, hm⟩ := k0; exact DataW.trod_lt m _ _ _ hm
  obtain ⟨z0, zl0, zs0, zb0, zc0, ze0, zd0⟩ := open_bytes h0
  have zn0 := len_le hsz (j := 0) rfl rfl zd0
  clear hA0 hval0
  refine (walk a0 len0 cap0 z0 W zl0 zn0 zc0 zb0 zs0).mono fun e W' ⟨he, bel⟩ => ?_
  subst he
  exact ⟨_, rfl, _, _, _, [], _, [], hW', trodAll_mk1 (shut_bool Try.underlying4 _), (trodAll_cons_mk (Below.trod laid_out (by kernel_rfl) (of_decide_eq_true (by kernel_rfl)) k0 bel lt0) trodAll_mk0), rfl, bel.frame _, fun h => by cases h⟩

theorem over : Rows.varintLeastRow.holds Try.pinned (OpenSpec.ofChange Rows.varintLeastSpec) :=
  OpenClaim.holds_of_wide 6 Try.f6 rfl rfl rfl rfl rfl rfl rfl ⟨rfl, rfl, rfl, rfl, rfl⟩ rfl rfl rfl rfl rfl (by kernel_rfl) Try.func6 (by kernel_rfl)
    (of_decide_eq_true (by kernel_rfl)) (by unfold Func.isWrapper; first | (rw [if_pos (by decide +kernel)]; kernel_rfl) | (rw [if_neg (by decide +kernel)]; exact ⟨rfl, rfl⟩))
    (fun os started H enc _ => lifted os started H enc)

end Go.Proofs.Ytmlcobibefejgaa.varintLeast
namespace Go.Proofs.Ytmlcobibefejgaa

/-- The statement. -/
theorem varintLeast_holds : Rows.VarintLeastSaid := varintLeast.over
#print axioms varintLeast_holds
end Go.Proofs.Ytmlcobibefejgaa
