/-
  What is read is right for its side, and its bytes are read as the same: whatever the bytes and the side.
-/
import Derived.Test.YtidbimhcebfjfaaRows
import Derived.Test.YtidbimhcebfjfaaOnB
import Derived.Test.YtidbimhcebfjfaaEnc
import Derived.Test.YtidbimhcebfjfaaCpd
import Derived.Test.YtidbimhcebfjfaaOpen
import Derived.WalkKit
import Derived.ProofKit
import Derived.OpenShut
import Derived.ShutString
import Derived.ChangeOld
import Derived.Below
import Derived.SizedLaws
namespace Go.Proofs.Ytidbimhcebfjfaa.paramsOnce
open Go.ChangeShapes Go.WideShapes Go.ChangeAt Go.RowKit
open Go.ChangeMaps (open_string shut_string)
set_option linter.unusedVariables false

set_option maxRecDepth 20000
set_option maxHeartbeats 8000000 in
theorem walk (a : Option Addr) (n c : Nat) (zs : List Int) (srv : Bool) (w : World) (hl : zs.length = n) (hn : n ≤ 140737488355328) (hz : ∀ y ∈ zs, 0 ≤ y ∧ y < 256) (hs : Seg w a zs) :
    Calls Try.prog 6 #[.slice a n c, .bool srv] w fun r w' => r = .returned (.bool true) ∧ Below w.heap.size w w' := by
  have HL := hid hl
  have HS := hid hs
  have HAW := hid awake_any
  have HBAD := hid (bad_decA (zs := zs) (srv := srv) hz)
  have HRT := hid (allR_decA (zs := zs) (srv := srv))
  have HRG := hid (rng_decA hz srv)
  have HD := hid (fun (W : World) (a' : Option Addr) (c' : Nat) (h : Seg W a' zs) => decode_any a' n c' zs srv W hl hn hz h)
  unfold AnsD at HD
  rw [hl] at HBAD HRG
  clear hl hz hs
  generalize (decA zs srv).1 = M at *
  generalize (decA zs srv).2.1 = at1 at *
  generalize (decA zs srv).2.2 = er at *
  by_cases her : er ≠ 0
  · obtain ⟨e1, e2, e3⟩ := HBAD.out her
    subst e1
    have hb1 : (er != 0) = true := by simp [her]
    have hb2 : decide (at1 ≥ 0) = true := by simpa using e2
    have hb2' : decide ((0 : Int) ≤ at1) = true := by simpa using e2
    have hb3 : decide (at1 ≤ (n : Int)) = true := by simpa using e3
    clear HBAD HRT HRG
    go_enter Try.func6, Try.ntmps6
    go_wp2_with (first
      | (go_at_call 18; refine (rcopy_any a n c zs _ HL.out (by omega) HS.out).mono ?_; rintro e w1 ⟨g, rfl, q1, o1, -⟩; have Q1 := hid q1; have O1 := hid o1; clear q1 o1)
      | (go_at_call 19; refine (HD.out _ _ _ O1.out.seg).mono ?_; rintro e w2 ⟨s1, rfl, q2, y2⟩; have Q2 := hid (Q1.out.trans q2); have Y2 := hid y2; clear q2 y2)
      | (refine wpList_store_row rfl 24 _ _ rfl w2.heap.size (pc zeM s1) rfl rfl 24 _ (heap_alloc_new w2 _) (pc_info zeM s1) rfl (pc_one zeM s1) ?_; refine Hid.out ?_))
    refine hid ?_
    generalize hw3 : World.setRow _ _ _ = w3
    have q3 : Q w2 w3 := by rw [← hw3]; exact (((Keep.refl (fun _ => False) w2).alloc _).setRow _ _ (.inr (Nat.le_refl _))).toQ (fun _ _ => id)
    have P3 := hid (show PB w3 w2.heap.size zeM s1 from by rw [← hw3]; exact setRow_heap _ _ _ _ 24 _ (heap_alloc_new w2 _))
    clear hw3
    have Q3 := hid (Q2.out.trans q3)
    have Y3 := hid (Y2.out.q q3)
    clear q3 Q1 O1 Q2 Y2
    generalize w2.heap.size = xb at *
    clear w2
    have HSZ := hid (fun (W : World) => rsame_yes (nrm zeM) zeM (nrS s1) (fun _ => nilS) W (alike_ze W s1))
    go_wp2_with (first
      | (refine wpList_load_row rfl 24 _ rfl xb rfl 24 (pc zeM s1) (0, 0) _ P3.out Try.underlying24 rfl (pc_info zeM s1) ?_)
      | (go_at_call 12; refine (of_any zeM s1 _).mono ?_; rintro e w4 ⟨rfl, q4⟩; have Q4 := hid (Q3.out.trans q4); clear q4)
      | (go_at_call 15; refine (HSZ.out _).mono ?_; rintro e w5 ⟨rfl, q5⟩; have Q5 := hid (Q4.out.trans q5); clear q5)
      | (go_at_call 13; refine (HAW.out _).mono ?_; rintro e w6 ⟨rfl, q6⟩; have Q6 := hid (Q5.out.trans q6); clear q6))
    go_ret
    exact ⟨rfl, Q6.out⟩
  · have h1 : er = 0 := by omega
    subst h1
    have hr := HRT.out rfl
    have HE := hid (fun (W : World) (s' : Nat → Sv) (h : By W M s') => encode_any M s' srv W h)
    have HK := hid (fun (W : World) (s' : Nat → Sv) (h : By W M s') => check_any M s' srv W h.len)
    unfold encB at HE
    rw [if_pos hr] at HE
    rw [chkE_ok hr] at HE HK
    have hlen := encT_len hr 16 (by omega)
    have HD2 := hid (fun (W : World) (x : Sv) (h : Seg W x.a (encT M 16)) (h2 : (encT M 16).length = x.n) => decode_any x.a x.n x.c (encT M 16) srv W h2 (by omega) (encT_bytes (fun i hi => (HRG.out i hi).2) 16 (by omega)) h)
    unfold AnsD at HD2
    rw [dec_enc hr] at HD2
    dsimp only at HD2
    have HLN := hid (show ∀ i, kd i = 2 ∨ kd i = 3 → (M.byt i).length ≤ 140737488355328 from fun i hi => Nat.le_trans (HRG.out i hi).1 (by omega))
    have HAL := hid (fun (W : World) (s1 s2 : Nat → Sv) (b1 : By W M s1) (b2 : By W (st M 16) s2) => rsame_yes (nrm M) (nrm (st M 16)) (nrS s1) (nrS s2) W (alike_st b1 b2 HLN.out))
    clear HBAD HRT HRG hr hlen her
    generalize st M 16 = M2 at *
    generalize encT M 16 = zt at *
    go_enter Try.func6, Try.ntmps6
    go_wp2_with (first
      | (go_at_call 18; refine (rcopy_any a n c zs _ HL.out (by omega) HS.out).mono ?_; rintro e w1 ⟨g, rfl, q1, o1, -⟩; have Q1 := hid q1; have O1 := hid o1; clear q1 o1)
      | (go_at_call 19; refine (HD.out _ _ _ O1.out.seg).mono ?_; rintro e w2 ⟨s1, rfl, q2, y2⟩; have Q2 := hid (Q1.out.trans q2); have Y2 := hid y2; clear q2 y2)
      | (refine wpList_store_row rfl 24 _ _ rfl w2.heap.size (pc M s1) rfl rfl 24 _ (heap_alloc_new w2 _) (pc_info M s1) rfl (pc_one M s1) ?_; refine Hid.out ?_))
    refine hid ?_
    generalize hw3 : World.setRow _ _ _ = w3
    have q3 : Q w2 w3 := by rw [← hw3]; exact (((Keep.refl (fun _ => False) w2).alloc _).setRow _ _ (.inr (Nat.le_refl _))).toQ (fun _ _ => id)
    have P3 := hid (show PB w3 w2.heap.size M s1 from by rw [← hw3]; exact setRow_heap _ _ _ _ 24 _ (heap_alloc_new w2 _))
    clear hw3
    have Q3 := hid (Q2.out.trans q3)
    have Y3 := hid (Y2.out.q q3)
    clear q3 Q1 O1 Q2 Y2
    generalize w2.heap.size = xb at *
    clear w2
    have HCP := hid (fun (W : World) (q : Q w3 W) => copied_any M s1 W (Y3.out.q q) (fun i hi => by rw [← (Y3.out i hi).2]; exact HLN.out i hi))
    go_wp2_with (first
      | (refine wpList_load_row rfl 24 _ rfl xb rfl 24 (pc M s1) (0, 0) _ P3.out Try.underlying24 rfl (pc_info M s1) ?_)
      | (go_at_call 8; refine (HCP.out _ (Q.refl _)).mono ?_; rintro e w4 ⟨s3, rfl, q4, y4⟩; have Q4 := hid q4; have Y4 := hid y4; clear q4 y4)
      | (go_at_call 10; refine (HE.out _ _ Y4.out).mono ?_; rintro e w5 ⟨x, rfl, q5, x5, n5⟩; have Q5 := hid (Q4.out.trans q5); have X5 := hid x5; have N5 := hid n5; clear q5 x5 n5)
      | (go_at_call 19; refine (HD2.out _ x X5.out N5.out).mono ?_; rintro e w6 ⟨s2, rfl, q6, y6⟩; have Q6 := hid (Q5.out.trans q6); have Y6 := hid y6; clear q6 y6)
      | (refine wpList_store_row rfl 24 _ _ rfl w6.heap.size (pc M2 s2) rfl rfl 24 _ (heap_alloc_new w6 _) (pc_info M2 s2) rfl (pc_one M2 s2) ?_; refine Hid.out ?_))
    refine hid ?_
    generalize hw7 : World.setRow _ _ _ = w7
    have q7 : Q w6 w7 := by rw [← hw7]; exact (((Keep.refl (fun _ => False) w6).alloc _).setRow _ _ (.inr (Nat.le_refl _))).toQ (fun _ _ => id)
    have P7 := hid (show PB w7 w6.heap.size M2 s2 from by rw [← hw7]; exact setRow_heap _ _ _ _ 24 _ (heap_alloc_new w6 _))
    clear hw7
    have Q7 := hid (Q6.out.trans q7)
    have X7 := hid (P3.out.q Q7.out)
    have HS6 := hid (fun (W : World) (q : Q w7 W) => HAL.out W s1 s2 ((Y3.out.q Q7.out).q q) ((Y6.out.q q7).q q))
    have HC6 := hid (fun (W : World) (q : Q w7 W) => HCP.out W (Q7.out.trans q))
    have QF := hid (Q3.out.trans Q7.out)
    clear q7 Y3 P3 Y4 Q4 Q5 X5 N5 Q6 Y6 HCP HAL HD2 HE HD HLN Q3
    generalize w6.heap.size = yb at *
    clear w6
    go_wp2_with fail
    generalize hR : Code.region 6 _ true = C
    have eR : C = Code.region 6 (RofN Try.f6 6) true := hR.symm.trans (by kernel_rfl)
    clear hR
    subst eR
    refine wp_region_noPanic ?_
    refine rgA (A := B60 a n c g x xb yb srv M M2 s1 s2 s3 at1 0) ?_ (rgO a n c g x xb yb srv M M2 s1 s2 s3 at1 0 w7 _ ⟨Q.refl _, X7.out, P7.out⟩ (fun c a d v w h => h) HC6.out HK.out HS6.out ?_)
    · kernel_rfl
    intro A W hd h4 hq
    refine NoPanic.normal ?_
    refine ‹∀ a w, Code.wp Try.prog _ _ a w → _› _ _ ?_
    go_wp2
    exact bodyPost_ret (v := .bool true) ((results_tmp (t := 4) rfl _ _ _).trans (by rw [h4])) hd ⟨rfl, QF.out.trans hq⟩

set_option maxRecDepth 100000 in
theorem lifted (os : Os) (started : os.Started) (H : Type) (enc : TypeId × Value → H) :
    ReturnsInHanded {} Try.checked os 6 .any (Rows.paramsOnceSpec.pre6 enc Try.prog Try.f6 Rows.paramsOnceRow.domain false) (Rows.paramsOnceSpec.post enc Try.prog Try.f6 false true false false) := by
  refine returnsInHanded_of_change_sized (C := Try.checked) own_knob started (by kernel_rfl) Try.func6
    (ChangeSpec.witness6 (enc := enc) (C := Try.checked) false ⟨#[], #[.slice none 0 0, .bool false], []⟩ 8 (by kernel_rfl) (by kernel_rfl) (by kernel_rfl) (by kernel_rfl)) ?_
  intro W base args ds gs before hval0 hW hcnd hsz0 _
  have hval : ∀ (j : Nat) t v, Try.f6.params[j]? = some t → args[j]? = some v → Value.okWide Try.prog W .any base t v := hval0
  have hsz : (DataW.weightsEach Try.prog (Try.f6.params.toList ++ Rows.paramsOnceSpec.plain.varTypes Try.prog) (ds ++ gs)).all (· ≤ reachBytes) = true := hsz0
  have hW' := hW
  obtain ⟨p, q, hA0, hV, rfl, hfz, hnd⟩ := hW
  have hA : DataW.TrodAll enc Try.prog W 0 (fun _ => true) true Try.f6.params.toList args.toList ds p := hA0
  rw [Try.params6] at hA hval hsz
  obtain ⟨v0, vs0, d0, ds0, p0, q0, hargs, rfl, rfl, h0, r0⟩ := trodAll_cons hA
  obtain ⟨v1, vs1, d1, ds1, p1, q1, rfl, rfl, rfl, h1, r1⟩ := trodAll_cons r0
  obtain ⟨rfl, rfl, rfl⟩ := trodAll_nil r1
  obtain rfl : args = #[v0, v1] := by cases args; simp_all
  obtain ⟨rfl, rfl⟩ := trodVars_none hV
  obtain ⟨a0, len0, cap0, rfl⟩ := okWide_slice Try.underlying22 (hval 0 22 v0 rfl rfl)
  have k0 := h0
  have lt0 : ∀ x ∈ p0, x.block < W.heap.size := by obtain ⟨m, hm⟩ := k0; exact DataW.trod_lt m _ _ _ hm
  obtain ⟨z0, zl0, zs0, zb0, zc0, ze0, zd0⟩ := open_bytes h0
  have zn0 := len_le_bytes hsz (j := 0) rfl rfl zd0
  obtain ⟨a1, rfl, rfl, rfl⟩ := Go.RowKit.open_bool Try.underlying4 (hval 1 4 v1 rfl rfl) h1
  clear hA0 hval0
  refine (walk a0 len0 cap0 z0 a1 W zl0 (by omega) zb0 zs0).mono fun e W' ⟨he, bel⟩ => ?_
  subst he
  exact ⟨_, rfl, _, _, _, [], _, [], hW', trodAll_mk1 (shut_bool Try.underlying4 _), (trodAll_cons_mk (Below.trod laid_out (by kernel_rfl) (of_decide_eq_true (by kernel_rfl)) k0 bel lt0) (trodAll_cons_mk (shut_bool Try.underlying4 _) trodAll_mk0)), rfl, bel.frame _, fun h => by cases h⟩

theorem over : Rows.paramsOnceRow.holds Try.pinned (OpenSpec.ofChange Rows.paramsOnceSpec) :=
  OpenClaim.holds_of_wide 6 Try.f6 rfl rfl rfl rfl rfl rfl rfl ⟨rfl, rfl, rfl, rfl, rfl⟩ rfl rfl rfl rfl rfl (by kernel_rfl) Try.func6 (by kernel_rfl)
    (of_decide_eq_true (by kernel_rfl)) (by unfold Func.isWrapper; first | (rw [if_pos (by decide +kernel)]; kernel_rfl) | (rw [if_neg (by decide +kernel)]; exact ⟨rfl, rfl⟩))
    (fun os started H enc _ => lifted os started H enc)

end Go.Proofs.Ytidbimhcebfjfaa.paramsOnce
namespace Go.Proofs.Ytidbimhcebfjfaa

/-- The statement. -/
theorem paramsOnce_holds : Rows.ParamsOnceSaid := paramsOnce.over
#print axioms paramsOnce_holds
end Go.Proofs.Ytidbimhcebfjfaa
