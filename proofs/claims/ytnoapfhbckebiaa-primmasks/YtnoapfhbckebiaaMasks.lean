/-
  Mask is the document's five bytes, or refuses.
-/
import Derived.Test.YtnoapfhbckebiaaRows
import Derived.Test.YtnoapfhbckebiaaAwake
import Derived.Test.YtnoapfhbckebiaaMask
import Derived.Test.YtnoapfhbckebiaaRMask
import Derived.Test.YtnoapfhbckebiaaOpen
import Derived.WalkKit
import Derived.ProofKit
import Derived.OpenShut
import Derived.ShutString
import Derived.ChangeOld
import Derived.Below
import Derived.SizedLaws
namespace Go.Proofs.Ytnoapfhbckebiaa.primMasks
open Go.ChangeShapes Go.WideShapes Go.ChangeAt Go.RowKit
open Go.ChangeMaps (open_string shut_string)
set_option linter.unusedVariables false

set_option maxRecDepth 20000
theorem mskR_len (ks ss : List Int) : (mskR ks ss).length = 5 := by
  unfold mskR
  split
  · unfold mskL; rw [List.length_take, dg_len]; rfl
  · rfl
set_option maxHeartbeats 4000000 in
theorem walk (k s : Sv) (ks ss : List Int) (w : World) (hk : In w k ks) (hs : In w s ss) (bk : k.n ≤ 140737488355328) (bs : s.n ≤ 140737488355328) (cs : s.n ≤ s.c) :
    Calls Try.prog 7 #[.slice k.a k.n k.c, .slice s.a s.n s.c] w fun r w' => r = .returned (.bool true) ∧ Below w.heap.size w w' := by
  have HK := hid hk
  have HS := hid hs
  clear hk hs
  obtain ⟨ka, kn, kc⟩ := k
  obtain ⟨sa, sn, sc⟩ := s
  dsimp only at *
  go_enter Try.func7, Try.ntmps7
  go_wp2_with fail
  refine (rcopy_any ka kn kc ks w HK.out.l bk HK.out.s).mono ?_
  rintro e w1 ⟨gk, rfl, q1, o1, g1⟩
  have Q1 := hid q1
  have I1 := hid (show In w1 ⟨some ⟨gk, 0, none⟩, kn, kn⟩ ks from ⟨o1.seg, HK.out.l, HK.out.z⟩)
  clear q1 o1 g1
  go_wp2_with fail
  refine (rcopy_any sa sn sc ss w1 HS.out.l bs (HS.out.s.q Q1.out)).mono ?_
  rintro e w2 ⟨gs, rfl, q2, o2, g2⟩
  have Q2 := hid (Q1.out.trans q2)
  have I2 := hid (I1.out.q q2)
  have J2 := hid (show In w2 ⟨some ⟨gs, 0, none⟩, sn, sn⟩ ss from ⟨o2.seg, HS.out.l, HS.out.z⟩)
  clear q2 o2 g2 Q1 I1
  go_wp2_with fail
  refine (pmask_any ⟨some ⟨gk, 0, none⟩, kn, kn⟩ ⟨some ⟨gs, 0, none⟩, sn, sn⟩ ks ss w2 I2.out J2.out bk bs (Nat.le_refl _)).mono ?_
  rintro e w3 ⟨rfl, q3⟩
  have Q3 := hid (Q2.out.trans q3)
  have HML := hid (mskR_len ks ss)
  have RM := hid (rmask_any ⟨ka, kn, kc⟩ ⟨sa, sn, sc⟩ ks ss · · · bk bs cs)
  clear q3 Q2 I2 J2
  try dsimp only
  dsimp only at RM
  generalize mskR ks ss = ms at *
  generalize mskE kn sn = E at *
  go_wp2_with (refine wpList_store_row rfl 44 _ _ rfl w3.heap.size (u8s ms).toArray rfl rfl 44 _ (heap_alloc_new w3 _) (arr5_info _ HML.out) (arr5_sizes (List.replicate 5 0) _ rfl HML.out) (arr_one _) ?_; refine Hid.out ?_)
  refine hid ?_
  generalize hw4 : World.setRow _ _ _ = w4
  have q34 : Q w3 w4 := by
    have k4 : Keep (fun i => i = w3.heap.size) w3 w4 := by rw [← hw4]; exact ((Keep.refl (fun i => i = w3.heap.size) w3).alloc _).setRow _ _ (.inl rfl)
    exact k4.below (Q.refl _) (Nat.le_refl _) (fun i e => by omega)
  have T4 := hid (seg_arr (show w4.heap[w3.heap.size]? = some (.cells (u8s ms).toArray 44 (0, 0)) from by rw [← hw4]; exact setRow_heap _ _ _ _ 44 _ (heap_alloc_new w3 _)))
  have Q4 := hid (Q3.out.trans q34)
  clear hw4 q34 Q3
  generalize w3.heap.size = tg at *
  go_wp2_with fail
  refine (RM.out w4 (HK.out.q Q4.out) (HS.out.q Q4.out)).mono ?_
  rintro e w5 ⟨⟨na, nn, nc⟩, rfl, q5, i5⟩
  have Q5 := hid (Q4.out.trans q5)
  have T5 := hid (T4.out.q q5)
  have N5 := hid i5
  have hnn : nn = 5 := by have h1 := i5.l; have h2 := HML.out; dsimp only at h1; omega
  subst hnn
  clear q5 i5 Q4 T4 RM
  go_wp2_with fail
  refine (awake_any w5).mono ?_
  rintro r w6 ⟨rfl, q6⟩
  have Q6 := hid (Q5.out.trans q6)
  have SM := hid (same_any (some ⟨tg, 0, none⟩) na 5 5 5 nc ms ms w6 HML.out HML.out (by omega) (by omega) (T5.out.q q6) (N5.out.s.q q6))
  rw [decide_eq_true rfl] at SM
  clear q6 Q5 T5 N5
  go_wp2_with fail
  refine SM.out.mono ?_
  rintro r w7 ⟨rfl, q7⟩
  have Q7 := hid (Q6.out.trans q7)
  clear q7 SM
  go_wp2
  go_ret
  exact ⟨by first | rfl | simp, Q7.out⟩

set_option maxRecDepth 100000 in
theorem lifted (os : Os) (started : os.Started) (H : Type) (enc : TypeId × Value → H) :
    ReturnsInHanded {} Try.checked os 7 .any (Rows.primMasksSpec.pre6 enc Try.prog Try.f7 Rows.primMasksRow.domain false) (Rows.primMasksSpec.post enc Try.prog Try.f7 false true false false) := by
  refine returnsInHanded_of_change_sized (C := Try.checked) own_knob started (by kernel_rfl) Try.func7
    (ChangeSpec.witness6 (enc := enc) (C := Try.checked) false ⟨#[], #[.slice none 0 0, .slice none 0 0], []⟩ 8 (by kernel_rfl) (by kernel_rfl) (by kernel_rfl) (by kernel_rfl)) ?_
  intro W base args ds gs before hval0 hW hcnd hsz0 _
  have hval : ∀ (j : Nat) t v, Try.f7.params[j]? = some t → args[j]? = some v → Value.okWide Try.prog W .any base t v := hval0
  have hsz : (DataW.weightsEach Try.prog (Try.f7.params.toList ++ Rows.primMasksSpec.plain.varTypes Try.prog) (ds ++ gs)).all (· ≤ reachBytes) = true := hsz0
  have hW' := hW
  obtain ⟨p, q, hA0, hV, rfl, hfz, hnd⟩ := hW
  have hA : DataW.TrodAll enc Try.prog W 0 (fun _ => true) true Try.f7.params.toList args.toList ds p := hA0
  rw [Try.params7] at hA hval hsz
  obtain ⟨v0, vs0, d0, ds0, p0, q0, hargs, rfl, rfl, h0, r0⟩ := trodAll_cons hA
  obtain ⟨v1, vs1, d1, ds1, p1, q1, rfl, rfl, rfl, h1, r1⟩ := trodAll_cons r0
  obtain ⟨rfl, rfl, rfl⟩ := trodAll_nil r1
  obtain rfl : args = #[v0, v1] := by cases args; simp_all
  obtain ⟨rfl, rfl⟩ := trodVars_none hV
  obtain ⟨a0, len0, cap0, rfl⟩ := okWide_slice Try.underlying22 (hval 0 22 v0 rfl rfl)
  have k0 := h0
  have lt0 : ∀ x ∈ p0, x.block < W.heap.size := by obtain ⟨m, hm⟩ := k0; exact DataW.trod_lt m _ _ _ hm
  obtain ⟨z0, zl0, zs0, zb0, zc0, ze0, zd0⟩ := open_bytes h0
  have zn0 := len_le_bytes hsz (j := 0) rfl rfl zd0
  obtain ⟨a1, len1, cap1, rfl⟩ := okWide_slice Try.underlying22 (hval 1 22 v1 rfl rfl)
  have k1 := h1
  have lt1 : ∀ x ∈ p1, x.block < W.heap.size := by obtain ⟨m, hm⟩ := k1; exact DataW.trod_lt m _ _ _ hm
  obtain ⟨z1, zl1, zs1, zb1, zc1, ze1, zd1⟩ := open_bytes h1
  have zn1 := len_le_bytes hsz (j := 1) rfl rfl zd1
  clear hA0 hval0
  refine (walk ⟨a0, len0, cap0⟩ ⟨a1, len1, cap1⟩ z0 z1 W ⟨zs0, zl0, zb0⟩ ⟨zs1, zl1, zb1⟩ (by show len0 ≤ _; omega) (by show len1 ≤ _; omega) zc1).mono fun e W' ⟨he, bel⟩ => ?_
  subst he
  exact ⟨_, rfl, _, _, _, [], _, [], hW', trodAll_mk1 (shut_bool Try.underlying4 _), (trodAll_cons_mk (Below.trod laid_out (by kernel_rfl) (of_decide_eq_true (by kernel_rfl)) k0 bel lt0) (trodAll_cons_mk (Below.trod laid_out (by kernel_rfl) (of_decide_eq_true (by kernel_rfl)) k1 bel lt1) trodAll_mk0)), rfl, bel.frame _, fun h => by cases h⟩

theorem over : Rows.primMasksRow.holds Try.pinned (OpenSpec.ofChange Rows.primMasksSpec) :=
  OpenClaim.holds_of_wide 7 Try.f7 rfl rfl rfl rfl rfl rfl rfl ⟨rfl, rfl, rfl, rfl, rfl⟩ rfl rfl rfl rfl rfl (by kernel_rfl) Try.func7 (by kernel_rfl)
    (of_decide_eq_true (by kernel_rfl)) (by unfold Func.isWrapper; first | (rw [if_pos (by decide +kernel)]; kernel_rfl) | (rw [if_neg (by decide +kernel)]; exact ⟨rfl, rfl⟩))
    (fun os started H enc _ => lifted os started H enc)

end Go.Proofs.Ytnoapfhbckebiaa.primMasks
namespace Go.Proofs.Ytnoapfhbckebiaa

/-- The statement. -/
theorem primMasks_holds : Rows.PrimMasksSaid := primMasks.over
#print axioms primMasks_holds
end Go.Proofs.Ytnoapfhbckebiaa
