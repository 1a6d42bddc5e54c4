/-
  Expand makes as many bytes as are asked for, as the document says, each length the beginning of any longer one, or refuses.
-/
import Derived.Test.YtnoapfhbckebiaaRows
import Derived.Test.YtnoapfhbckebiaaAwake
import Derived.Test.YtnoapfhbckebiaaExp
import Derived.Test.YtnoapfhbckebiaaRExp
import Derived.Test.YtnoapfhbckebiaaOpen
import Derived.WalkKit
import Derived.ProofKit
import Derived.OpenShut
import Derived.ShutString
import Derived.ChangeOld
import Derived.Below
import Derived.SizedLaws
namespace Go.Proofs.Ytnoapfhbckebiaa.primExpands
open Go.ChangeShapes Go.WideShapes Go.ChangeAt Go.RowKit
open Go.ChangeMaps (open_string shut_string)
set_option linter.unusedVariables false

set_option maxRecDepth 20000
theorem same_rows {w : World} {x y : Sv} {zs : List Int} (hx : In w x zs) (hy : In w y zs) (hb : x.n ≤ 140737488355328) :
    Calls Try.prog 12 #[.slice x.a x.n x.c, .slice y.a y.n y.c] w fun e w' => e = .returned (.bool true) ∧ Q w w' := by
  refine (same_any x.a y.a x.n y.n x.c y.c zs zs w hx.l hy.l (by omega) (by have := hx.l; have := hy.l; omega) hx.s hy.s).mono ?_
  rintro e w' ⟨rfl, h⟩
  exact ⟨by simp, h⟩
theorem ml_le {n : Nat} (h : n ≤ maxLen) : n ≤ 9223372036854775807 := by
  have e : maxLen = 9223372036854775807 := by decide
  omega
theorem expR_lt (ks ls : List Int) (n : Int) : ∀ y ∈ expR ks ls n, 0 ≤ y ∧ y < 256 := by
  unfold expR
  split
  · exact exL_lt _ _ _
  · intro y hy; cases hy
theorem expR_len (ks ls : List Int) (n : Int) (hk : ks.length ≤ 140737488355328) : (expR ks ls n).length ≤ 1024 := by
  unfold expR
  split
  · next h => have := exp_ok h; rw [exL_len]; omega
  · simp
set_option maxHeartbeats 4000000 in
theorem walk (a : Option Addr) (n c : Nat) (zs : List Int) (s : ByteArray) (m : Int) (w : World) (hl : zs.length = n) (hn : n ≤ 140737488355328) (hz : ∀ y ∈ zs, 0 ≤ y ∧ y < 256) (hseg : Seg w a zs) (hs : s.size ≤ 9223372036854775807) :
    Calls Try.prog 4 #[.slice a n c, .string s, .int .i64 m] w fun r w' => r = .returned (.bool true) ∧ Below w.heap.size w w' := by
  have HL := hid hl
  have HS := hid hseg
  have HZ := hid hz
  have HB := hid (expR_len zs (sb s) m (by omega))
  clear hl hseg hz
  go_enter Try.func4, Try.ntmps4
  go_wp2_with fail
  refine (rcopy_any a n c zs w HL.out hn HS.out).mono ?_
  rintro e w1 ⟨g, rfl, q1, o1, g1⟩
  have Q1 := hid q1
  have I1 := hid (show In w1 ⟨some ⟨g, 0, none⟩, n, n⟩ zs from ⟨o1.seg, HL.out, HZ.out⟩)
  clear q1 o1 g1
  go_wp2_with fail
  refine (expand_any ⟨some ⟨g, 0, none⟩, n, n⟩ zs s m w1 I1.out hn hs).mono ?_
  rintro e w2 ⟨⟨xa, xn, xc⟩, rfl, q2, r2⟩
  have Q2 := hid (Q1.out.trans q2)
  have R2 := hid (show Row w2 ⟨xa, xn, xc⟩ (expR zs (sb s) m) from r2)
  clear q2 r2 I1 Q1
  dsimp only
  generalize hE : expE n s.size m = E at *
  have HE := hid hE
  clear hE
  go_wp2_with fail
  refine (rexpand_any ⟨a, n, c⟩ zs s m w2 ⟨HS.out.q Q2.out, HL.out, HZ.out⟩ hn hs).mono ?_
  dsimp only
  rw [HE.out]
  rintro e w3 ⟨⟨ya, yn, yc⟩, rfl, q3, r3⟩
  have Q3 := hid (Q2.out.trans q3)
  have R3 := hid (show Row w3 ⟨ya, yn, yc⟩ (expR zs (sb s) m) from r3)
  have X3 := hid (show Row w3 ⟨xa, xn, xc⟩ (expR zs (sb s) m) from R2.out.q q3)
  clear q3 r3 Q2 R2
  go_wp2_with fail
  refine (same_rows (x := ⟨xa, xn, xc⟩) (y := ⟨ya, yn, yc⟩) (Row.in_ X3.out (expR_lt _ _ _)) (Row.in_ R3.out (expR_lt _ _ _)) (by have h1 : (expR zs (sb s) m).length = xn := Row.len X3.out; have := HB.out; show xn ≤ _; omega)).mono ?_
  rintro e w4 ⟨rfl, q4⟩
  have Q4 := hid (Q3.out.trans q4)
  have X4 := hid (show Row w4 ⟨xa, xn, xc⟩ (expR zs (sb s) m) from X3.out.q q4)
  clear q4 Q3 X3 R3
  by_cases hE0 : E = 0
  · subst hE0
    have hok := exp_ok HE.out
    by_cases hm : 1000 < m
    · go_wp2_with fail
      refine (awake_any w4).mono ?_
      rintro r w5 ⟨rfl, q5⟩
      have Q5 := hid (Q4.out.trans q5)
      clear q5
      go_wp2
      go_ret
      exact ⟨by first | rfl | simp, Q5.out⟩
    · have hm' : ¬ (1000 < m) := hm
      obtain ⟨m, rfl⟩ := Int.eq_ofNat_of_zero_le (show 0 ≤ m by omega)
      have HX := hid (show expR zs (sb s) m = exL zs (sb s) m from by unfold expR; rw [HL.out, sb_len, HE.out, if_pos rfl]; simp)
      have hE2 : expE n s.size ((m : Int) + 20) = 0 := by unfold expE; rw [if_neg (by omega), if_neg (by omega)]
      have HY := hid (show expR zs (sb s) ((m : Int) + 20) = exL zs (sb s) (m + 20) from by unfold expR; rw [HL.out, sb_len, hE2, if_pos rfl]; congr 1)
      have HE2 := hid hE2
      have hxm : xn = m := by
        have h1 : (expR zs (sb s) m).length = xn := Row.len X4.out
        rw [HX.out, exL_len] at h1; omega
      subst hxm
      obtain ⟨_, _, hm0, _⟩ := hok
      clear hE2
      go_wp2_with fail
      refine (rcopy_any a n c zs w4 HL.out hn (HS.out.q Q4.out)).mono ?_
      rintro e w5 ⟨g5, rfl, q5, o5, g5'⟩
      have Q5 := hid (Q4.out.trans q5)
      have X5 := hid (show Row w5 ⟨xa, xn, xc⟩ (expR zs (sb s) xn) from X4.out.q q5)
      have I5 := hid (show In w5 ⟨some ⟨g5, 0, none⟩, n, n⟩ zs from ⟨o5.seg, HL.out, HZ.out⟩)
      clear q5 o5 g5' Q4 X4
      go_wp2_with fail
      refine (expand_any ⟨some ⟨g5, 0, none⟩, n, n⟩ zs s ((xn : Int) + 20) w5 I5.out hn hs).mono ?_
      dsimp only
      rw [HE2.out, HY.out]
      rintro e w6 ⟨⟨la, ln, lc⟩, rfl, q6, r6⟩
      have hln : ln = xn + 20 := by have h1 := Row.len r6; rw [exL_len] at h1; dsimp only at h1; omega
      have hcap := Row.cap r6
      dsimp only at hcap
      subst hln
      have Q6 := hid (Q5.out.trans q6)
      have X6 := hid (show Row w6 ⟨xa, xn, xc⟩ (expR zs (sb s) xn) from X5.out.q q6)
      have L6 := hid (show Row w6 ⟨la, xn + 20, lc⟩ (exL zs (sb s) (xn + 20)) from r6)
      clear q6 r6 Q5 X5 I5
      have hc1 : (xn : Int) ≤ (lc : Int) := by omega
      have hsum : (((xn + 20 : Nat) : Int) == (xn : Int) + 20) = true := by simp
      have SM := hid (same_rows (w := w6) (x := ⟨la, xn, lc⟩) (y := ⟨xa, xn, xc⟩) (zs := exL zs (sb s) xn) (by
          have h := (Row.in_ L6.out (exL_lt _ _ _)).take xn lc (by show xn ≤ xn + 20; omega)
          rw [exL_take _ _ _ _ (by omega)] at h
          exact h) (by have h := Row.in_ X6.out (expR_lt _ _ _); rw [HX.out] at h; exact h) (by show xn ≤ _; omega))
      go_wp2_with fail
      refine SM.out.mono ?_
      rintro r w7 ⟨rfl, q7⟩
      have Q7 := hid (Q6.out.trans q7)
      clear q7 SM
      go_wp2_with fail
      refine (awake_any w7).mono ?_
      rintro r w8 ⟨rfl, q8⟩
      have Q8 := hid (Q7.out.trans q8)
      clear q8
      go_wp2
      go_ret
      exact ⟨by first | rfl | simp, Q8.out⟩
  · have hne : (E != 0) = true := by simp [hE0]
    have hne2 : (E != E) = false := by simp
    go_wp2_with fail
    refine (awake_any w4).mono ?_
    rintro r w5 ⟨rfl, q5⟩
    have Q5 := hid (Q4.out.trans q5)
    clear q5
    go_wp2
    go_ret
    exact ⟨by first | rfl | simp, Q5.out⟩

set_option maxRecDepth 100000 in
theorem lifted (os : Os) (started : os.Started) (H : Type) (enc : TypeId × Value → H) :
    ReturnsInHanded {} Try.checked os 4 .any (Rows.primExpandsSpec.pre6 enc Try.prog Try.f4 Rows.primExpandsRow.domain false) (Rows.primExpandsSpec.post enc Try.prog Try.f4 false true false false) := by
  refine returnsInHanded_of_change_sized (C := Try.checked) own_knob started (by kernel_rfl) Try.func4
    (ChangeSpec.witness6 (enc := enc) (C := Try.checked) false ⟨#[], #[.slice none 0 0, .string ⟨#[]⟩, .int .i64 0], []⟩ 8 (by kernel_rfl) (by kernel_rfl) (by kernel_rfl) (by kernel_rfl)) ?_
  intro W base args ds gs before hval0 hW hcnd hsz0 _
  have hval : ∀ (j : Nat) t v, Try.f4.params[j]? = some t → args[j]? = some v → Value.okWide Try.prog W .any base t v := hval0
  have hsz : (DataW.weightsEach Try.prog (Try.f4.params.toList ++ Rows.primExpandsSpec.plain.varTypes Try.prog) (ds ++ gs)).all (· ≤ reachBytes) = true := hsz0
  have hW' := hW
  obtain ⟨p, q, hA0, hV, rfl, hfz, hnd⟩ := hW
  have hA : DataW.TrodAll enc Try.prog W 0 (fun _ => true) true Try.f4.params.toList args.toList ds p := hA0
  rw [Try.params4] at hA hval hsz
  obtain ⟨v0, vs0, d0, ds0, p0, q0, hargs, rfl, rfl, h0, r0⟩ := trodAll_cons hA
  obtain ⟨v1, vs1, d1, ds1, p1, q1, rfl, rfl, rfl, h1, r1⟩ := trodAll_cons r0
  obtain ⟨v2, vs2, d2, ds2, p2, q2, rfl, rfl, rfl, h2, r2⟩ := trodAll_cons r1
  obtain ⟨rfl, rfl, rfl⟩ := trodAll_nil r2
  obtain rfl : args = #[v0, v1, v2] := by cases args; simp_all
  obtain ⟨rfl, rfl⟩ := trodVars_none hV
  obtain ⟨a0, len0, cap0, rfl⟩ := okWide_slice Try.underlying22 (hval 0 22 v0 rfl rfl)
  have k0 := h0
  have lt0 : ∀ x ∈ p0, x.block < W.heap.size := by obtain ⟨m, hm⟩ := k0; exact DataW.trod_lt m _ _ _ hm
  obtain ⟨z0, zl0, zs0, zb0, zc0, ze0, zd0⟩ := open_bytes h0
  have zn0 := len_le_bytes hsz (j := 0) rfl rfl zd0
  obtain ⟨a1, rfl, rfl, rfl, w1⟩ := open_string Try.underlying9 (hval 1 9 v1 rfl rfl) h1
  obtain ⟨a2, rfl, rfl, rfl, w2⟩ := open_int Try.underlying3 (hval 2 3 v2 rfl rfl) h2
  clear hA0 hval0
  refine (walk a0 len0 cap0 z0 a1 a2 W zl0 (by omega) zb0 zs0 (ml_le w1)).mono fun e W' ⟨he, bel⟩ => ?_
  subst he
  exact ⟨_, rfl, _, _, _, [], _, [], hW', trodAll_mk1 (shut_bool Try.underlying4 _), (trodAll_cons_mk (Below.trod laid_out (by kernel_rfl) (of_decide_eq_true (by kernel_rfl)) k0 bel lt0) (trodAll_cons_mk (shut_string Try.underlying9 w1) (trodAll_cons_mk (shut_int Try.underlying3 w2) trodAll_mk0))), rfl, bel.frame _, fun h => by cases h⟩

theorem over : Rows.primExpandsRow.holds Try.pinned (OpenSpec.ofChange Rows.primExpandsSpec) :=
  OpenClaim.holds_of_wide 4 Try.f4 rfl rfl rfl rfl rfl rfl rfl ⟨rfl, rfl, rfl, rfl, rfl⟩ rfl rfl rfl rfl rfl (by kernel_rfl) Try.func4 (by kernel_rfl)
    (of_decide_eq_true (by kernel_rfl)) (by unfold Func.isWrapper; first | (rw [if_pos (by decide +kernel)]; kernel_rfl) | (rw [if_neg (by decide +kernel)]; exact ⟨rfl, rfl⟩))
    (fun os started H enc _ => lifted os started H enc)

end Go.Proofs.Ytnoapfhbckebiaa.primExpands
namespace Go.Proofs.Ytnoapfhbckebiaa

/-- The statement. -/
theorem primExpands_holds : Rows.PrimExpandsSaid := primExpands.over
#print axioms primExpands_holds
end Go.Proofs.Ytnoapfhbckebiaa
