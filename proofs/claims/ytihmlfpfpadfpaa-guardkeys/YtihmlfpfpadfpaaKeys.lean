/-
  GuardKeys: the first secrets of a connection id, the keys of a secret and its next secret are the document's, or are refused. No condition beyond the form's own reach.
-/
import Derived.Test.YtihmlfpfpadfpaaRows
import Derived.Test.YtihmlfpfpadfpaaAwk
import Derived.Test.YtihmlfpfpadfpaaSec
import Derived.Test.YtihmlfpfpadfpaaKcp
import Derived.Test.YtihmlfpfpadfpaaOpen
import Derived.WalkKit
import Derived.ProofKit
import Derived.OpenShut
import Derived.ShutString
import Derived.ChangeOld
import Derived.Below
import Derived.SizedLaws
namespace Go.Proofs.Ytihmlfpfpadfpaa.guardKeys
open Go.ChangeShapes Go.WideShapes Go.ChangeAt Go.RowKit
open Go.ChangeMaps (open_string shut_string)
set_option linter.unusedVariables false

set_option maxRecDepth 20000
theorem if16_lt {ks zs : List Int} (h : By zs) : By (if16 ks zs) := by
  unfold if16
  split
  · exact h
  · intro y hy; cases hy
theorem if20_lt {ks zs : List Int} (h : By zs) : By (if20 ks zs) := by
  unfold if20
  split
  · exact h
  · intro y hy; cases hy
theorem row_small {w : World} {x : Sv} {zs : List Int} (h : Row w x zs) (hb : zs.length ≤ 16) : x.n ≤ 140737488355328 := by
  have := Row.len h; omega
theorem if16_len {ks zs : List Int} (h : zs.length ≤ 16) : (if16 ks zs).length ≤ 16 := by
  unfold if16; split
  · exact h
  · simp
theorem if20_len {ks zs : List Int} (h : zs.length ≤ 16) : (if20 ks zs).length ≤ 16 := by
  unfold if20; split
  · exact h
  · simp
theorem in_small {w : World} {x : Sv} {zs : List Int} (h : In w x zs) (hb : zs.length ≤ 16) : x.n ≤ 140737488355328 := by
  have := h.l; omega
set_option maxHeartbeats 8000000 in
theorem walk (a : Option Addr) (n c : Nat) (zs : List Int) (a' : Option Addr) (n' c' : Nat) (ys : List Int) (w : World) (hl : zs.length = n) (hn : n ≤ 140737488355328) (hz : By zs) (hseg : Seg w a zs) (hl' : ys.length = n') (hn' : n' ≤ 140737488355328) (hz' : By ys) (hseg' : Seg w a' ys) :
    Calls Try.prog 3 #[.slice a n c, .slice a' n' c'] w fun r w' => r = .returned (.bool true) ∧ Below w.heap.size w w' := by
  have HC := hid (show In w ⟨a, n, c⟩ zs from ⟨hseg, hl, hz⟩)
  have HS := hid (show In w ⟨a', n', c'⟩ ys from ⟨hseg', hl', hz'⟩)
  have HL := hid hl
  have HL' := hid hl'
  clear hl hseg hz hl' hseg' hz'
  go_enter Try.func3, Try.ntmps3
  go_wp2_with fail
  refine (rcopy_any a n c zs w HL.out hn HC.out.s).mono ?_
  rintro e w1 ⟨g1, rfl, q1, o1, l1⟩
  have Q1 := hid q1
  have I1 := hid (show In w1 ⟨some ⟨g1, 0, none⟩, n, n⟩ zs from ⟨o1.seg, HL.out, HC.out.z⟩)
  clear q1 o1 l1
  go_wp2_with fail
  refine (secrets_any ⟨some ⟨g1, 0, none⟩, n, n⟩ zs w1 I1.out).mono ?_
  rintro e w2 ⟨⟨ca, cn, cc⟩, ⟨sa, sn, sc⟩, rfl, q2, rc, rs⟩
  have Q2 := hid (Q1.out.trans q2)
  have RC := hid (row_in rc (if20_lt (exL_lt _ _ _)))
  have RS := hid (row_in rs (if20_lt (exL_lt _ _ _)))
  have BC := hid (show cn ≤ 140737488355328 from row_small rc (if20_len (by rw [cliL, exL_len]; omega)))
  have BS := hid (show sn ≤ 140737488355328 from row_small rs (if20_len (by rw [srvL, exL_len]; omega)))
  clear q2 rc rs I1 Q1
  dsimp only
  go_wp2_with fail
  refine (rsecrets_any ⟨a, n, c⟩ zs w2 (HC.out.q Q2.out)).mono ?_
  rintro e w3 ⟨⟨xa, xn, xc⟩, ⟨ya, yn, yc⟩, rfl, q3, rx, ry⟩
  have Q3 := hid (Q2.out.trans q3)
  have RX := hid (row_in rx (if20_lt (exL_lt _ _ _)))
  have RY := hid (row_in ry (if20_lt (exL_lt _ _ _)))
  have RC3 := hid (RC.out.q q3)
  have RS3 := hid (RS.out.q q3)
  clear q3 rx ry RC RS Q2
  dsimp only
  generalize e20 n = E1 at *
  go_wp2_with fail
  refine (rcopy_any a' n' c' ys w3 HL'.out hn' (HS.out.s.q Q3.out)).mono ?_
  rintro e w4 ⟨g4, rfl, q4, o4, l4⟩
  have Q34 := hid q4
  have I4 := hid (show In w4 ⟨some ⟨g4, 0, none⟩, n', n'⟩ ys from ⟨o4.seg, HL'.out, HS.out.z⟩)
  clear q4 o4 l4
  go_wp2_with fail
  refine (make_any ⟨some ⟨g4, 0, none⟩, n', n'⟩ ys w4 I4.out).mono ?_
  rintro e w5 ⟨⟨ka, kn, kc⟩, ⟨ia, in_, ic⟩, ⟨ha, hn_, hc⟩, rfl, q5, k5⟩
  have Q35 := hid (Q34.out.trans q5)
  have K5 := hid k5
  have BK := hid (show kn ≤ 140737488355328 from in_small k5.k (if16_len (by rw [kyL, exL_len]; omega)))
  have BI := hid (show in_ ≤ 140737488355328 from in_small k5.i (if16_len (by rw [ivL, exL_len]; omega)))
  have BH := hid (show hn_ ≤ 140737488355328 from in_small k5.h (if16_len (by rw [hpL, exL_len]; omega)))
  clear q5 k5 I4 Q34
  dsimp only
  go_wp2_with (refine wpList_store_row rfl 30 _ _ rfl w5.heap.size (kcells ⟨ka, kn, kc⟩ ⟨ia, in_, ic⟩ ⟨ha, hn_, hc⟩) rfl rfl 30 _ (heap_alloc_new w5 _) (kinfo30 _ _ _) rfl (kc_one _ _ _) ?_; refine Hid.out ?_)
  refine hid ?_
  generalize hw6 : World.setRow _ _ _ = w6
  have QS6 := hid (show Q w5 w6 from by
    have k3 : Keep (fun i => i = w5.heap.size) w5 w6 := by rw [← hw6]; exact ((Keep.refl (fun i => i = w5.heap.size) w5).alloc _).setRow _ _ (.inl rfl)
    exact k3.below (Q.refl _) (Nat.le_refl _) (fun i e => by omega))
  have BS6 := hid (show w6.heap[w5.heap.size]? = some (.cells (kcells ⟨ka, kn, kc⟩ ⟨ia, in_, ic⟩ ⟨ha, hn_, hc⟩) 30 (0, 0)) from by rw [← hw6]; exact setRow_heap _ _ _ _ 30 _ (heap_alloc_new w5 _))
  clear hw6
  generalize w5.heap.size = gs6 at *
  have Q36 := hid (Q35.out.trans QS6.out)
  have K6 := hid (K5.out.q QS6.out)
  clear QS6 K5 Q35
  go_wp2_with fail
  refine (rmake_any ⟨a', n', c'⟩ ys w6 ((HS.out.q Q3.out).q Q36.out)).mono ?_
  rintro e w7 ⟨⟨kb, km, kd⟩, ⟨ib, im, id_⟩, ⟨hb, hm, hd⟩, rfl, q7, k7⟩
  have Q37 := hid (Q36.out.trans q7)
  have K7 := hid (K6.out.q q7)
  have L7 := hid k7
  have BB7 := hid (show w7.heap[gs6]? = some (.cells (kcells ⟨ka, kn, kc⟩ ⟨ia, in_, ic⟩ ⟨ha, hn_, hc⟩) 30 (0, 0)) from (Below.block q7 _ (lt_of_block BS6.out)).trans BS6.out)
  clear q7 k7 K6 BS6 Q36
  dsimp only
  go_wp2_with (refine wpList_store_row rfl 33 _ _ rfl w7.heap.size (kcells ⟨kb, km, kd⟩ ⟨ib, im, id_⟩ ⟨hb, hm, hd⟩) rfl rfl 33 _ (heap_alloc_new w7 _) (kinfo33 _ _ _) rfl (kc_one _ _ _) ?_; refine Hid.out ?_)
  refine hid ?_
  generalize hw8 : World.setRow _ _ _ = w8
  have QS8 := hid (show Q w7 w8 from by
    have k3 : Keep (fun i => i = w7.heap.size) w7 w8 := by rw [← hw8]; exact ((Keep.refl (fun i => i = w7.heap.size) w7).alloc _).setRow _ _ (.inl rfl)
    exact k3.below (Q.refl _) (Nat.le_refl _) (fun i e => by omega))
  have BS8 := hid (show w8.heap[w7.heap.size]? = some (.cells (kcells ⟨kb, km, kd⟩ ⟨ib, im, id_⟩ ⟨hb, hm, hd⟩) 33 (0, 0)) from by rw [← hw8]; exact setRow_heap _ _ _ _ 33 _ (heap_alloc_new w7 _))
  clear hw8
  generalize w7.heap.size = gs8 at *
  have Q38 := hid (Q37.out.trans QS8.out)
  have K8 := hid (K7.out.q QS8.out)
  have L8 := hid (L7.out.q QS8.out)
  have BA8 := hid (show KB w8 gs6 30 ⟨ka, kn, kc⟩ ⟨ia, in_, ic⟩ ⟨ha, hn_, hc⟩ from (Below.block QS8.out _ (lt_of_block BB7.out)).trans BB7.out)
  have BB8 := hid (show KB w8 gs8 33 ⟨kb, km, kd⟩ ⟨ib, im, id_⟩ ⟨hb, hm, hd⟩ from BS8.out)
  clear QS8 K7 L7 BB7 BS8 Q37
  generalize e16 n' = E2 at *
  go_wp2_with fail
  refine (rcopy_any a' n' c' ys w8 HL'.out hn' ((HS.out.s.q Q3.out).q Q38.out)).mono ?_
  rintro e w9 ⟨g9, rfl, q9, o9, l9⟩
  have Q39 := hid (Q38.out.trans q9)
  have Q89 := hid q9
  have I9 := hid (show In w9 ⟨some ⟨g9, 0, none⟩, n', n'⟩ ys from ⟨o9.seg, HL'.out, HS.out.z⟩)
  clear q9 o9 l9
  go_wp2_with fail
  refine (next_any ⟨some ⟨g9, 0, none⟩, n', n'⟩ ys w9 I9.out (by show n' ≤ _; omega)).mono ?_
  rintro e wa ⟨⟨na, nn, nc⟩, rfl, qa, ra⟩
  have Q3a := hid (Q39.out.trans qa)
  have Q8a := hid (Q89.out.trans qa)
  have RA := hid (show In wa ⟨na, nn, nc⟩ (if16 ys (kuL ys)) from row_in (by unfold if16; rw [HL'.out]; exact ra) (if16_lt (exL_lt _ _ _)))
  have BN := hid (show nn ≤ 140737488355328 from in_small RA.out (if16_len (by rw [kuL, exL_len]; omega)))
  clear qa ra I9 Q39 Q89
  dsimp only
  rw [show (if n' = 16 then (0 : Int) else 70) = e16 n' from rfl]
  generalize hE3 : e16 n' = E3
  have HE3 := hid hE3
  clear hE3
  go_wp2_with fail
  refine (rnext_any ⟨a', n', c'⟩ ys wa ((HS.out.q Q3.out).q Q3a.out)).mono ?_
  rintro e wb ⟨⟨ma, mn, mc⟩, rfl, qb, rb⟩
  have Q3b := hid (Q3a.out.trans qb)
  have Q8b := hid (Q8a.out.trans qb)
  have RB := hid (row_in rb (if16_lt (exL_lt _ _ _)))
  have RA2 := hid (RA.out.q qb)
  clear qb rb RA Q3a Q8a
  dsimp only
  rw [HE3.out]
  go_wp2_with (go_at_call 16; refine (awake_any _).mono ?_; rintro e wc ⟨rfl, qc⟩)
  have Q3c := hid (Q3b.out.trans qc)
  have Q8c := hid (Q8b.out.trans qc)
  have RA3 := hid (RA2.out.q qc)
  have RB3 := hid (RB.out.q qc)
  clear qc RA2 RB Q3b Q8b
  refine (same_in (x := ⟨ca, cn, cc⟩) (y := ⟨xa, xn, xc⟩) (RC3.out.q Q3c.out) (RX.out.q Q3c.out) BC.out).mono ?_
  rintro e wd ⟨rfl, qd⟩
  have Q3d := hid (Q3c.out.trans qd)
  have Q8d := hid (Q8c.out.trans qd)
  have RA4 := hid (RA3.out.q qd)
  have RB4 := hid (RB3.out.q qd)
  clear qd RA3 RB3 Q3c Q8c
  go_wp2_with fail
  refine (same_in (x := ⟨sa, sn, sc⟩) (y := ⟨ya, yn, yc⟩) (RS3.out.q Q3d.out) (RY.out.q Q3d.out) BS.out).mono ?_
  rintro e we ⟨rfl, qe⟩
  have Q3e := hid (Q3d.out.trans qe)
  have Q8e := hid (Q8d.out.trans qe)
  have RA5 := hid (RA4.out.q qe)
  have RB5 := hid (RB4.out.q qe)
  clear qe RA4 RB4 Q3d Q8d
  have c0 := (BA8.out.q Q8e.out).c0
  have c1 := (BA8.out.q Q8e.out).c1
  have c2 := (BA8.out.q Q8e.out).c2
  have d0 := (BB8.out.q Q8e.out).c0
  have d1 := (BB8.out.q Q8e.out).c1
  have d2 := (BB8.out.q Q8e.out).c2
  dsimp only at c0 c1 c2 d0 d1 d2
  go_wp2_with fail
  refine (samek_any ⟨ka, kn, kc⟩ ⟨ia, in_, ic⟩ ⟨ha, hn_, hc⟩ ⟨kb, km, kd⟩ ⟨ib, im, id_⟩ ⟨hb, hm, hd⟩ _ _ _ we (K8.out.q Q8e.out) (L8.out.q Q8e.out) BK.out BI.out BH.out).mono ?_
  rintro e wf ⟨rfl, qf⟩
  have Q3f := hid (Q3e.out.trans qf)
  have RA6 := hid (RA5.out.q qf)
  have RB6 := hid (RB5.out.q qf)
  clear qf RA5 RB5 Q3e Q8e c0 c1 c2 d0 d1 d2
  go_wp2_with fail
  refine (same_in (x := ⟨na, nn, nc⟩) (y := ⟨ma, mn, mc⟩) RA6.out RB6.out BN.out).mono ?_
  rintro e wg ⟨rfl, qg⟩
  have Q3g := hid (Q3f.out.trans qg)
  clear qg Q3f RA6 RB6
  go_wp2
  go_ret
  exact ⟨by first | rfl | simp, Q3.out.trans Q3g.out⟩

set_option maxRecDepth 100000 in
theorem lifted (os : Os) (started : os.Started) (H : Type) (enc : TypeId × Value → H) :
    ReturnsInHanded {} Try.checked os 3 .any (Rows.guardKeysSpec.pre6 enc Try.prog Try.f3 Rows.guardKeysRow.domain false) (Rows.guardKeysSpec.post enc Try.prog Try.f3 false true false false) := by
  refine returnsInHanded_of_change_sized (C := Try.checked) own_knob started (by kernel_rfl) Try.func3
    (ChangeSpec.witness6 (enc := enc) (C := Try.checked) false ⟨#[], #[.slice none 0 0, .slice none 0 0], []⟩ 8 (by kernel_rfl) (by kernel_rfl) (by kernel_rfl) (by kernel_rfl)) ?_
  intro W base args ds gs before hval0 hW hcnd hsz0 _
  have hval : ∀ (j : Nat) t v, Try.f3.params[j]? = some t → args[j]? = some v → Value.okWide Try.prog W .any base t v := hval0
  have hsz : (DataW.weightsEach Try.prog (Try.f3.params.toList ++ Rows.guardKeysSpec.plain.varTypes Try.prog) (ds ++ gs)).all (· ≤ reachBytes) = true := hsz0
  have hW' := hW
  obtain ⟨p, q, hA0, hV, rfl, hfz, hnd⟩ := hW
  have hA : DataW.TrodAll enc Try.prog W 0 (fun _ => true) true Try.f3.params.toList args.toList ds p := hA0
  rw [Try.params3] at hA hval hsz
  obtain ⟨v0, vs0, d0, ds0, p0, q0, hargs, rfl, rfl, h0, r0⟩ := trodAll_cons hA
  obtain ⟨v1, vs1, d1, ds1, p1, q1, rfl, rfl, rfl, h1, r1⟩ := trodAll_cons r0
  obtain ⟨rfl, rfl, rfl⟩ := trodAll_nil r1
  obtain rfl : args = #[v0, v1] := by cases args; simp_all
  obtain ⟨rfl, rfl⟩ := trodVars_none hV
  obtain ⟨a0, len0, cap0, rfl⟩ := okWide_slice Try.underlying22 (hval 0 22 v0 rfl rfl)
  have k0 := h0
  have lt0 : ∀ x ∈ p0, x.block < W.heap.size := by obtain ⟨m, hm⟩ := k0; exact DataW.trod_lt m _ _ _ hm
  obtain ⟨z0, zl0, zs0, zb0, zc0, ze0, zd0⟩ := open_bytes h0
  have zn0 := len_le_bytes hsz (j := 0) rfl rfl zd0
  obtain ⟨a1, len1, cap1, rfl⟩ := okWide_slice Try.underlying22 (hval 1 22 v1 rfl rfl)
  have k1 := h1
  have lt1 : ∀ x ∈ p1, x.block < W.heap.size := by obtain ⟨m, hm⟩ := k1; exact DataW.trod_lt m _ _ _ hm
  obtain ⟨z1, zl1, zs1, zb1, zc1, ze1, zd1⟩ := open_bytes h1
  have zn1 := len_le_bytes hsz (j := 1) rfl rfl zd1
  clear hA0 hval0
  refine (walk a0 len0 cap0 z0 a1 len1 cap1 z1 W zl0 (by omega) zb0 zs0 zl1 (by omega) zb1 zs1).mono fun e W' ⟨he, bel⟩ => ?_
  subst he
  exact ⟨_, rfl, _, _, _, [], _, [], hW', trodAll_mk1 (shut_bool Try.underlying4 _), (trodAll_cons_mk (Below.trod laid_out (by kernel_rfl) (of_decide_eq_true (by kernel_rfl)) k0 bel lt0) (trodAll_cons_mk (Below.trod laid_out (by kernel_rfl) (of_decide_eq_true (by kernel_rfl)) k1 bel lt1) trodAll_mk0)), rfl, bel.frame _, fun h => by cases h⟩

theorem over : Rows.guardKeysRow.holds Try.pinned (OpenSpec.ofChange Rows.guardKeysSpec) :=
  OpenClaim.holds_of_wide 3 Try.f3 rfl rfl rfl rfl rfl rfl rfl ⟨rfl, rfl, rfl, rfl, rfl⟩ rfl rfl rfl rfl rfl (by kernel_rfl) Try.func3 (by kernel_rfl)
    (of_decide_eq_true (by kernel_rfl)) (by unfold Func.isWrapper; first | (rw [if_pos (by decide +kernel)]; kernel_rfl) | (rw [if_neg (by decide +kernel)]; exact ⟨rfl, rfl⟩))
    (fun os started H enc _ => lifted os started H enc)

end Go.Proofs.Ytihmlfpfpadfpaa.guardKeys
namespace Go.Proofs.Ytihmlfpfpadfpaa

/-- The statement. -/
theorem guardKeys_holds : Rows.GuardKeysSaid := guardKeys.over
#print axioms guardKeys_holds
end Go.Proofs.Ytihmlfpfpadfpaa
