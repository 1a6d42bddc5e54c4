/-
  Check and Encode answer as the document says for any parameters of either side, and leave them as they were: whatever the parameters and the side.
-/
import Derived.Test.YtidbimhcebfjfaaRows
import Derived.Test.YtidbimhcebfjfaaEnB
import Derived.Test.YtidbimhcebfjfaaEnc
import Derived.Test.YtidbimhcebfjfaaCpd
import Derived.Test.YtidbimhcebfjfaaOpenP
import Derived.WalkKit
import Derived.ProofKit
import Derived.OpenShut
import Derived.ShutString
import Derived.ChangeOld
import Derived.Below
import Derived.SizedLaws
namespace Go.Proofs.Ytidbimhcebfjfaa.paramsEncodes
open Go.ChangeShapes Go.WideShapes Go.ChangeAt Go.RowKit
open Go.ChangeMaps (open_string shut_string)
set_option linter.unusedVariables false

set_option maxRecDepth 20000
theorem wpList_load_w {ops : Array Oper} {rest : List Oper} {o : Oper} {a : Act} {w : World} {R : Exit → Act → World → Prop} (hw : Region.wanted o (yielded ops a.tmps) = true) (x : Operand) (ho : o.op = .load 24 x)
    (g : Nat) (hx : a.eval x = .pointer (some ⟨g, 0, none⟩)) (m : Pm) (s : Nat → Sv) (hg : PB w g m s)
    (h : wpList Try.prog ops R rest (a.put o.dst (.agg (pc m s))) w) : wpList Try.prog ops R (o :: rest) a w := by
  unfold wpList
  rw [if_pos hw]
  exact .inl (wp_load_row (P := Try.prog) 24 x ho g hx 24 (pc m s) (0, 0) _ hg Try.underlying24 rfl info24 h)
set_option maxHeartbeats 8000000 in
theorem walk (M : Pm) (s : Nat → Sv) (srv : Bool) (w : World) (hb : By w M s) (hn : ∀ i, kd i = 2 ∨ kd i = 3 → (s i).n ≤ 140737488355328) :
    Calls Try.prog 3 #[.agg (pc M s), .bool srv] w fun r w' => r = .returned (.bool true) ∧ Below w.heap.size w w' := by
  have HCP := hid (fun (W : World) (q : Q w W) => copied_any M s W (hb.q q) hn)
  have HE := hid (fun (W : World) (s' : Nat → Sv) (h : By W M s') => encode_any M s' srv W h)
  have HK := hid (fun (W : World) (s' : Nat → Sv) (h : By W M s') => check_any M s' srv W h.len)
  have HR := hid (fun (W : World) (q : Q w W) => rencode_any (nrm M) (nrS s) srv W (by_nrm (hb.q q)))
  rw [chkE_nrm, encB_nrm] at HR
  have HLN := hid (show ∀ i, kd i = 2 ∨ kd i = 3 → (M.byt i).length ≤ 140737488355328 from fun i hi => by have h5 := (hb i hi).2; have h6 := hn i hi; omega)
  have HBY := hid hb
  have HL := hid (encB_len M srv)
  clear hb hn
  generalize chkE M srv = er at *
  generalize encB M srv = zt at *
  go_enter Try.func3, Try.ntmps3
  go_upto_region 1 with fail
  generalize hw1 : World.alloc w _ = w1
  have P1 := hid (show PB w1 w.heap.size M s from by rw [← hw1]; exact heap_alloc_new w _)
  have Q1 := hid (show Q w w1 from by rw [← hw1]; exact (Q.refl w).alloc _)
  clear hw1
  go_wp2_with (first
    | (refine wpList_load_w (by kernel_rfl) _ rfl w.heap.size rfl M s P1.out ?_)
    | (go_at_call 8; refine (HCP.out _ Q1.out).mono ?_; rintro e w2 ⟨s1, rfl, q2, y2⟩; have Q2 := hid (Q1.out.trans q2); have P2 := hid (P1.out.q q2); have Y2 := hid y2; clear q2 y2)
    | (refine wpList_store_row rfl 24 _ _ rfl w2.heap.size (pc M s1) rfl rfl 24 _ (heap_alloc_new w2 _) (pc_info M s1) rfl (pc_one M s1) ?_; refine Hid.out ?_))
  refine hid ?_
  generalize hw3 : World.setRow _ _ _ = w3
  have q3 : Q w2 w3 := by rw [← hw3]; exact (((Keep.refl (fun _ => False) w2).alloc _).setRow _ _ (.inr (Nat.le_refl _))).toQ (fun _ _ h => h)
  have X3 := hid (show PB w3 w2.heap.size M s1 from by rw [← hw3]; exact setRow_heap _ _ _ _ 24 _ (heap_alloc_new w2 _))
  clear hw3
  have Q3 := hid (Q2.out.trans q3)
  have P3 := hid (P2.out.q q3)
  have Y3 := hid (Y2.out.q q3)
  clear q3 Q1 P1 Q2 P2 Y2
  generalize w2.heap.size = xb at *
  clear w2
  go_wp2_with (first
    | (refine wpList_load_w (by kernel_rfl) _ rfl xb rfl M s1 X3.out ?_)
    | (go_at_call 9; refine (HK.out _ _ Y3.out).mono ?_; rintro e w4 ⟨rfl, q4⟩; have Q4 := hid (Q3.out.trans q4); have P4 := hid (P3.out.q q4); have X4 := hid (X3.out.q q4); have Y4 := hid (Y3.out.q q4); clear q4; refine Hid.out ?_))
  refine hid ?_
  clear Q3 P3 X3 Y3
  go_wp2_with (first
    | (refine wpList_load_w (by kernel_rfl) _ rfl xb rfl M s1 X4.out ?_)
    | (go_at_call 10; refine (HE.out _ _ Y4.out).mono ?_; rintro e w5 ⟨x, rfl, q5, x5, n5⟩; have Q5 := hid (Q4.out.trans q5); have P5 := hid (P4.out.q q5); have X5 := hid (X4.out.q q5); have Y5 := hid (Y4.out.q q5); have S5 := hid x5; have N5 := hid n5; clear q5 x5 n5; refine Hid.out ?_))
  refine hid ?_
  clear Q4 P4 X4 Y4
  go_wp2_with (first
    | (refine wpList_load_w (by kernel_rfl) _ rfl w.heap.size rfl M s P5.out ?_)
    | (go_at_call 12; refine (of_any M s _).mono ?_; rintro e w6 ⟨rfl, q6⟩; have Q6 := hid (Q5.out.trans q6); have P6 := hid (P5.out.q q6); have X6 := hid (X5.out.q q6); have Y6 := hid (Y5.out.q q6); have S6 := hid (S5.out.q q6); clear q6)
    | (go_at_call 11; refine (HR.out _ Q6.out).mono ?_; rintro e w7 ⟨y, rfl, q7, y7, n7⟩; have Q7 := hid (Q6.out.trans q7); have P7 := hid (P6.out.q q7); have X7 := hid (X6.out.q q7); have Y7 := hid (Y6.out.q q7); have S7 := hid (S6.out.q q7); have T7 := hid y7; have M7 := hid n7; clear q7 y7 n7))
  have HX := hid (fun (W : World) (q : Q w7 W) => rsame_b x y zt W N5.out M7.out (by rw [← N5.out]; have := HL.out; omega) (S7.out.q q) (T7.out.q q))
  have HS := hid (fun (W : World) (q : Q w7 W) => rsame_yes (nrm M) (nrm M) (nrS s1) (nrS s) W (alike_cp (Y7.out.q q) ((HBY.out.q Q7.out).q q) HLN.out))
  have HU := hid (fun (W : World) => rsame_yes (nrm usM) usM (nrS (fun _ => nilS)) (fun _ => nilS) W (alike_us W))
  go_wp2_with fail
  generalize hR : Code.region 5 _ true = C
  have eR : C = Code.region 5 (RofN Try.f3 5) true := hR.symm.trans (by kernel_rfl)
  clear hR
  subst eR
  refine wp_region_noPanic ?_
  refine rgA (A := rgEA0 M s s1 srv w.heap.size xb x y er) ?_ (rgE M s s1 srv w.heap.size xb x y er w7 _ ⟨Q.refl _, P7.out, X7.out⟩ (fun c a d v w h => h) HX.out HS.out HU.out ?_)
  · kernel_rfl
  intro A W hd h4 hq
  refine NoPanic.normal ?_
  refine ‹∀ a w, Code.wp Try.prog _ _ a w → _› _ _ ?_
  go_wp2
  exact bodyPost_ret (v := .bool true) ((results_tmp (t := 4) rfl _ _ _).trans (by rw [h4])) hd ⟨rfl, Q7.out.trans hq⟩

set_option maxRecDepth 100000 in
theorem lifted (os : Os) (started : os.Started) (H : Type) (enc : TypeId × Value → H) :
    ReturnsInHanded {} Try.checked os 3 .any (Rows.paramsEncodesSpec.pre6 enc Try.prog Try.f3 Rows.paramsEncodesRow.domain false) (Rows.paramsEncodesSpec.post enc Try.prog Try.f3 false true false false) := by
  refine returnsInHanded_of_change_sized (C := Try.checked) own_knob started (by kernel_rfl) Try.func3
    (ChangeSpec.witness6 (enc := enc) (C := Try.checked) false ⟨#[], #[.agg (pc zeM (fun _ => nilS)), .bool false], []⟩ 8 (by kernel_rfl) (by kernel_rfl) (by kernel_rfl) (by kernel_rfl)) ?_
  intro W base args ds gs before hval0 hW hcnd hsz0 _
  have hval : ∀ (j : Nat) t v, Try.f3.params[j]? = some t → args[j]? = some v → Value.okWide Try.prog W .any base t v := hval0
  have hsz : (DataW.weightsEach Try.prog (Try.f3.params.toList ++ Rows.paramsEncodesSpec.plain.varTypes Try.prog) (ds ++ gs)).all (· ≤ reachBytes) = true := hsz0
  have hW' := hW
  obtain ⟨p, q, hA0, hV, rfl, hfz, hnd⟩ := hW
  have hA : DataW.TrodAll enc Try.prog W 0 (fun _ => true) true Try.f3.params.toList args.toList ds p := hA0
  rw [Try.params3] at hA hval hsz
  obtain ⟨v0, vs0, d0, ds0, p0, q0, hargs, rfl, rfl, h0, r0⟩ := trodAll_cons hA
  obtain ⟨v1, vs1, d1, ds1, p1, q1, rfl, rfl, rfl, h1, r1⟩ := trodAll_cons r0
  obtain ⟨rfl, rfl, rfl⟩ := trodAll_nil r1
  obtain rfl : args = #[v0, v1] := by cases args; simp_all
  obtain ⟨rfl, rfl⟩ := trodVars_none hV
  obtain ⟨cs0, rfl, hcs0⟩ := okWide_struct Try.underlying24 (hval 0 24 v0 rfl rfl)
  have k0 := h0
  have lt0 : ∀ x ∈ p0, x.block < W.heap.size := by obtain ⟨m, hm⟩ := k0; exact DataW.trod_lt m _ _ _ hm
  obtain ⟨m0, s0, rfl, hc0⟩ := open_params h0 hcs0
  have ft0 := params_fit hsz (j := 0) rfl rfl hc0
  obtain ⟨a1, rfl, rfl, rfl⟩ := Go.RowKit.open_bool Try.underlying4 (hval 1 4 v1 rfl rfl) h1
  clear hA0 hval0
  refine (walk m0 s0 a1 W hc0.by_ (fun i hi => by have := ft0 i hi; omega)).mono fun e W' ⟨he, bel⟩ => ?_
  subst he
  exact ⟨_, rfl, _, _, _, [], _, [], hW', trodAll_mk1 (shut_bool Try.underlying4 _), (trodAll_cons_mk (Below.trod laid_out (by kernel_rfl) (of_decide_eq_true (by kernel_rfl)) k0 bel lt0) (trodAll_cons_mk (shut_bool Try.underlying4 _) trodAll_mk0)), rfl, bel.frame _, fun h => by cases h⟩

theorem over : Rows.paramsEncodesRow.holds Try.pinned (OpenSpec.ofChange Rows.paramsEncodesSpec) :=
  OpenClaim.holds_of_wide 3 Try.f3 rfl rfl rfl rfl rfl rfl rfl ⟨rfl, rfl, rfl, rfl, rfl⟩ rfl rfl rfl rfl rfl (by kernel_rfl) Try.func3 (by kernel_rfl)
    (of_decide_eq_true (by kernel_rfl)) (by unfold Func.isWrapper; first | (rw [if_pos (by decide +kernel)]; kernel_rfl) | (rw [if_neg (by decide +kernel)]; exact ⟨rfl, rfl⟩))
    (fun os started H enc _ => lifted os started H enc)

end Go.Proofs.Ytidbimhcebfjfaa.paramsEncodes
namespace Go.Proofs.Ytidbimhcebfjfaa

/-- The statement. -/
theorem paramsEncodes_holds : Rows.ParamsEncodesSaid := paramsEncodes.over
#print axioms paramsEncodes_holds
end Go.Proofs.Ytidbimhcebfjfaa
