/-
  Proved: for all bytes and every int that are together of bulk at most 1048576 the law turnpikelaw01.VarintBack returns true, and its arguments read as they did. Condition: that bound of the second form.
-/
import Derived.Test.YtmlcobibefejgaaRows
import Derived.Test.YtmlcobibefejgaaAwake
import Derived.Test.YtmlcobibefejgaaMathTwo
import Derived.Test.YtmlcobibefejgaaJoin
import Derived.Test.YtmlcobibefejgaaOpen
import Derived.WalkKit
import Derived.ProofKit
import Derived.OpenShut
import Derived.ShutString
import Derived.ChangeOld
import Derived.Below
import Derived.SizedLaws
import Derived.JoinedCond
namespace Go.Proofs.Ytmlcobibefejgaa.varintBack
open Go.ChangeShapes Go.WideShapes Go.ChangeAt Go.RowKit
open Go.ChangeMaps (open_string shut_string)
set_option linter.unusedVariables false

set_option maxHeartbeats 1000000 in
theorem walk_no (a0 a2 : Option Addr) (n0 c0 n2 c2 : Nat) (n : Int) (w : World) (hn : n < 0 ∨ 4611686018427387903 < n) :
    Calls Try.prog 5 #[.slice a0 n0 c0, .int .i64 n, .slice a2 n2 c2] w fun e w' => e = .returned (.bool true) ∧ Below w.heap.size w w' := by
  have Hn := hid hn
  by_cases h0 : n < 0
  · clear hn
    go_enter Try.func5, Try.ntmps5
    go_wp2_with fail
    refine (put_no n _ Hn.out).mono ?_
    rintro e w1 ⟨rfl, rfl⟩
    go_wp2_with fail
    refine (awake_any _).mono ?_
    rintro e w1 ⟨rfl, hq1⟩
    have H1 := hid hq1
    clear hq1
    go_wp2
    go_ret
    exact ⟨rfl, H1.out⟩
  · have h1 : 4611686018427387903 < n := by omega
    clear hn
    go_enter Try.func5, Try.ntmps5
    go_wp2_with fail
    refine (put_no n _ Hn.out).mono ?_
    rintro e w1 ⟨rfl, rfl⟩
    go_wp2_with fail
    refine (awake_any _).mono ?_
    rintro e w1 ⟨rfl, hq1⟩
    have H1 := hid hq1
    clear hq1
    go_wp2
    go_ret
    exact ⟨rfl, H1.out⟩

set_option maxHeartbeats 1000000 in
theorem walk_ok (a0 a2 : Option Addr) (n0 c0 n2 c2 s : Nat) (n : Int) (z0 z2 : List Int) (w : World) (h0 : 0 ≤ n) (h1 : n ≤ 4611686018427387903) (hs : sz n = s)
    (l0 : z0.length = n0) (l2 : z2.length = n2) (m0 : n0 ≤ 1048576) (m2 : n2 ≤ 1048576) (b0 : ∀ y ∈ z0, 0 ≤ y ∧ y < 256) (b2 : ∀ y ∈ z2, 0 ≤ y ∧ y < 256)
    (e0 : a0 = none → n0 = 0 ∧ c0 = 0) (e2 : a2 = none → n2 = 0 ∧ c2 = 0) (s0 : Seg w a0 z0) (s2 : Seg w a2 z2) :
    Calls Try.prog 5 #[.slice a0 n0 c0, .int .i64 n, .slice a2 n2 c2] w fun e w' => e = .returned (.bool true) ∧ Below w.heap.size w w' := by
  have hs8 : s ≤ 8 := by have := sz_le n; omega
  have HS := hid hs
  have L0 := hid l0
  have L2 := hid l2
  have B0 := hid b0
  have B2 := hid b2
  have E0 := hid e0
  have E2 := hid e2
  have S0 := hid s0
  have S2 := hid s2
  have HR := hid (rd_form h0 h1 z0 z2)
  rw [hs, l0] at HR
  clear hs l0 l2 b0 b2 e0 e2 s0 s2
  go_enter Try.func5, Try.ntmps5
  go_wp2_with fail
  refine (put_ok n _ s h0 h1 HS).mono ?_
  rintro e w1 ⟨g, rfl, hq1, ho1⟩
  have H1 := hid hq1
  have O1 := hid ho1
  clear hq1 ho1
  obtain ⟨w2, hw2⟩ : ∃ w2, w2 = w1.alloc (.cells #[.slice a0 n0 c0, .slice (some ⟨g, 0, none⟩) s s, .slice a2 n2 c2] 22) := ⟨_, rfl⟩
  have HQ2 := hid (show Q w1 w2 from by rw [hw2]; exact (Q.refl _).alloc _)
  have C0 := hid (show w2.cell? ⟨w1.heap.size, 0, none⟩ = some (.slice a0 n0 c0) from by rw [hw2]; simp [go_sem])
  have C1 := hid (show w2.cell? ⟨w1.heap.size, 1, none⟩ = some (.slice (some ⟨g, 0, none⟩) s s) from by rw [hw2]; simp [go_sem])
  have C2 := hid (show w2.cell? ⟨w1.heap.size, 2, none⟩ = some (.slice a2 n2 c2) from by rw [hw2]; simp [go_sem])
  have W2 := hid hw2
  clear hw2
  go_wp2_with fail
  rw [← W2.out]
  refine (join_any w1.heap.size n0 s n2 c0 s c2 a0 (some ⟨g, 0, none⟩) a2 z0 (form n) z2 w2 C0.out C1.out C2.out L0.out (by rw [form_length]; exact HS.out) L2.out E0.out (fun h => by cases h) E2.out
    ((S0.out.q H1.out).q HQ2.out) (O1.out.q HQ2.out).seg ((S2.out.q H1.out).q HQ2.out) (by omega)).mono ?_
  rintro e w3 ⟨g3, k3, rfl, hq3, ho3⟩
  have H3 := hid hq3
  have O3 := hid ho3
  clear hq3 ho3
  go_wp2_with fail
  refine (get_any (some ⟨g3, 0, none⟩) (n0 + s + n2) k3 (z0 ++ form n ++ z2) n0 _ O3.out.len (by omega) ?_ O3.out.seg).mono ?_
  · intro y hy
    simp only [List.mem_append] at hy
    rcases hy with (hy | hy) | hy
    · exact B0.out y hy
    · exact form_bytes n y hy
    · exact B2.out y hy
  rw [HR.out]
  rintro e w4 ⟨rfl, rfl⟩
  go_wp2_with fail
  refine (awake_any _).mono ?_
  rintro e w4 ⟨rfl, hq4⟩
  have H4 := hid hq4
  clear hq4
  go_wp2
  go_ret
  exact ⟨rfl, ((H1.out.trans HQ2.out).trans H3.out).trans H4.out⟩

theorem walk (a0 a2 : Option Addr) (n0 c0 n2 c2 : Nat) (n : Int) (z0 z2 : List Int) (w : World)
    (l0 : z0.length = n0) (l2 : z2.length = n2) (m0 : n0 ≤ 1048576) (m2 : n2 ≤ 1048576) (b0 : ∀ y ∈ z0, 0 ≤ y ∧ y < 256) (b2 : ∀ y ∈ z2, 0 ≤ y ∧ y < 256)
    (e0 : a0 = none → n0 = 0 ∧ c0 = 0) (e2 : a2 = none → n2 = 0 ∧ c2 = 0) (s0 : Seg w a0 z0) (s2 : Seg w a2 z2) :
    Calls Try.prog 5 #[.slice a0 n0 c0, .int .i64 n, .slice a2 n2 c2] w fun e w' => e = .returned (.bool true) ∧ Below w.heap.size w w' := by
  by_cases hn : n < 0 ∨ 4611686018427387903 < n
  · exact walk_no a0 a2 n0 c0 n2 c2 n w hn
  · exact walk_ok a0 a2 n0 c0 n2 c2 (sz n) n z0 z2 w (by omega) (by omega) rfl l0 l2 m0 m2 b0 b2 e0 e2 s0 s2

theorem contract (H : Type) (enc : TypeId × Value → H) (W : World) (base : Nat) (args : Array Value) (ds gs : List (DataW H)) (before : List MemPlace)
    (hval : ∀ (j : Nat) t v, Try.f5.params[j]? = some t → args[j]? = some v → Value.okWide Try.prog W .any base t v)
    (hW : DataW.Whole enc Try.prog Try.f5.params.toList Rows.varintBackSpec.vars false W args.toList ds gs before) (hk : Rows.uptoSmall H (ds ++ gs) = true) :
    Calls Try.prog 5 args W fun e W' => ∃ v, e = .returned v ∧ Rows.varintBackSpec.post enc Try.prog Try.f5 false true false false W args v W' := by
  have hW' := hW
  obtain ⟨p, q, hA0, hV, rfl, hfz, hnd⟩ := hW
  have hA : DataW.TrodAll enc Try.prog W 0 (fun _ => true) true Try.f5.params.toList args.toList ds p := hA0
  rw [Try.params5] at hA hval
  obtain ⟨v0, vs0, d0, ds0, p0, q0, hargs, rfl, rfl, h0, r0⟩ := trodAll_cons hA
  obtain ⟨v1, vs1, d1, ds1, p1, q1, rfl, rfl, rfl, h1, r1⟩ := trodAll_cons r0
  obtain ⟨v2, vs2, d2, ds2, p2, q2, rfl, rfl, rfl, h2, r2⟩ := trodAll_cons r1
  obtain ⟨rfl, rfl, rfl⟩ := trodAll_nil r2
  obtain rfl : args = #[v0, v1, v2] := by cases args; simp_all
  obtain ⟨rfl, rfl⟩ := trodVars_none hV
  obtain ⟨a0, len0, cap0, rfl⟩ := okWide_slice Try.underlying22 (hval 0 22 v0 rfl rfl)
  have k0 := h0
  have lt0 : ∀ x ∈ p0, x.block < W.heap.size := by obtain ⟨m, hm⟩ := k0; exact DataW.trod_lt m _ _ _ hm
  obtain ⟨z0, zl0, zs0, zb0, zc0, ze0, zd0⟩ := open_bytes h0
  have zn0 := bulk_len hk (d := d0) (by simp) zd0
  obtain ⟨a1, rfl, rfl, rfl, w1⟩ := open_int Try.underlying3 (hval 1 3 v1 rfl rfl) h1
  obtain ⟨a2, len2, cap2, rfl⟩ := okWide_slice Try.underlying22 (hval 2 22 v2 rfl rfl)
  have k2 := h2
  have lt2 : ∀ x ∈ p2, x.block < W.heap.size := by obtain ⟨m, hm⟩ := k2; exact DataW.trod_lt m _ _ _ hm
  obtain ⟨z2, zl2, zs2, zb2, zc2, ze2, zd2⟩ := open_bytes h2
  have zn2 := bulk_len hk (d := d2) (by simp) zd2
  clear hA0
  refine (walk a0 a2 len0 cap0 len2 cap2 a1 z0 z2 W zl0 zl2 zn0 zn2 zb0 zb2 ze0 ze2 zs0 zs2).mono fun e W' ⟨he, bel⟩ => ?_
  subst he
  exact ⟨_, rfl, _, _, _, [], _, [], hW', trodAll_mk1 (shut_bool Try.underlying4 _), (trodAll_cons_mk (Below.trod laid_out (by kernel_rfl) (of_decide_eq_true (by kernel_rfl)) k0 bel lt0) (trodAll_cons_mk (shut_int Try.underlying3 w1) (trodAll_cons_mk (Below.trod laid_out (by kernel_rfl) (of_decide_eq_true (by kernel_rfl)) k2 bel lt2) trodAll_mk0))), rfl, bel.frame _, fun h => by cases h⟩

set_option maxRecDepth 100000 in
theorem lifted (os : Os) (started : os.Started) (H : Type) (enc : TypeId × Value → H) (F : Stop.Interp) :
    ReturnsInHanded {} Try.checked os 5 .any ((Rows.OpenSpec.upto Rows.varintBackSpec).pre6 enc Try.prog Try.f5 Rows.varintBackUptoRow.domain false) (((Rows.OpenSpec.upto Rows.varintBackSpec).at F).post enc Try.prog Try.f5 false true false false) := by
  refine returnsInHanded_of_cond (C := Try.checked) (s := Rows.OpenSpec.upto Rows.varintBackSpec) (k := Rows.uptoSmall) rfl own_knob started (by kernel_rfl) Try.func5
    (OpenSpec.witness (enc := enc) (C := Try.checked) (s := Rows.OpenSpec.upto Rows.varintBackSpec) (k := Rows.uptoSmall) rfl false ⟨#[], #[.slice none 0 0, .int .i64 0, .slice none 0 0], []⟩ 8 (by kernel_rfl) (by kernel_rfl) (by kernel_rfl)
      (x := ([.nil, .lit (.int .i64 0), .nil], [], [])) (by kernel_rfl) rfl (by kernel_rfl)) ?_
  intro W base args ds gs before hval hW _ hk _
  exact contract H enc W base args ds gs before hval hW hk

theorem over : Rows.varintBackUptoRow.holds Try.pinned (Rows.OpenSpec.upto Rows.varintBackSpec) :=
  OpenClaim.holds_of_cond 5 Try.f5 rfl rfl rfl rfl rfl rfl rfl ⟨rfl, rfl, rfl, rfl, rfl⟩ rfl rfl rfl rfl rfl (by kernel_rfl) Try.func5 (by kernel_rfl)
    (of_decide_eq_true (by kernel_rfl)) (by unfold Func.isWrapper; first | (rw [if_pos (by decide +kernel)]; kernel_rfl) | (rw [if_neg (by decide +kernel)]; exact ⟨rfl, rfl⟩))
    (fun os started H enc _ F => lifted os started H enc F)

end Go.Proofs.Ytmlcobibefejgaa.varintBack
namespace Go.Proofs.Ytmlcobibefejgaa

/-- The statement. -/
theorem varintBackUpto_holds : Rows.VarintBackUptoSaid := varintBack.over
#print axioms varintBackUpto_holds
end Go.Proofs.Ytmlcobibefejgaa
