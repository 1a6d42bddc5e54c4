/-
  Build writes any header that can be written, and refuses the others for the first thing that is wrong.
-/
import Derived.Test.YtbhhajmfdffdbaaRows
import Derived.Test.YtbhhajmfdffdbaaAwake
import Derived.Test.YtbhhajmfdffdbaaRBld
import Derived.Test.YtbhhajmfdffdbaaSameH
import Derived.Test.YtbhhajmfdffdbaaCpd
import Derived.Test.YtbhhajmfdffdbaaOpenH
import Derived.WalkKit
import Derived.ProofKit
import Derived.OpenShut
import Derived.ShutString
import Derived.ChangeOld
import Derived.Below
import Derived.SizedLaws
import Derived.JoinedCond
namespace Go.Proofs.Ytbhhajmfdffdbaa.headerBuilds
open Go.ChangeShapes Go.WideShapes Go.ChangeAt Go.RowKit
open Go.ChangeMaps (open_string shut_string)
set_option linter.unusedVariables false

theorem bldR_len (h : Hd) (width : Int) : (bldR h width).length ≤ 100000 := by
  unfold bldR
  split
  · rename_i e
    obtain ⟨h1, h2, h3, h4, h5, h6, h7⟩ := bld_ok e
    unfold bldL
    split
    · simp; omega
    · rename_i hk6
      have f1 := form_len (h.tok.length : Int)
      have f2 : (lenF h.len).length ≤ 8 := by unfold lenF; split; simp; exact form_len _
      split
      · simp; omega
      · simp; omega
  · simp
set_option maxRecDepth 20000 in
set_option maxHeartbeats 8000000 in
theorem walk (H : Hd) (d s t v : Sv) (width : Int) (w : World) (hf : Fit w H d s t v) :
    Calls Try.prog 4 #[hv H d s t v, .int .i64 width] w fun e w' => e = .returned (.bool true) ∧ Below w.heap.size w w' := by
  have HF := hid hf
  clear hf
  obtain ⟨kd, ve, dl, sl, tl, vl, ln⟩ := H
  go_enter Try.func4, Try.ntmps4
  go_wp2_with fail
  generalize hw0 : World.alloc w _ = w0
  have Q0 := hid (show Q w w0 from by rw [← hw0]; exact (Q.refl w).alloc _)
  have B0 := hid (show Box w0 26 w.heap.size ⟨kd, ve, dl, sl, tl, vl, ln⟩ d s t v from by rw [← hw0]; exact heap_alloc_new w _)
  clear hw0
  generalize hb0 : w.heap.size = hb at *
  obtain ⟨c0, c1, c2, c3, c4, c5, c6⟩ := B0.out.all
  try dsimp only at c0 c1 c2 c3 c4 c5 c6
  try go_wp2_with fail
  refine (copied_any ⟨kd, ve, dl, sl, tl, vl, ln⟩ d s t v w0 (HF.out.q Q0.out)).mono ?_
  rintro e w1 ⟨dS, sS, tS, vS, rfl, hq1, hh1⟩
  have Q1 := hid (Q0.out.trans hq1)
  have A1 := hid (B0.out.q hq1)
  have R1 := hid hh1.reads
  clear hq1 hh1 c0 c1 c2 c3 c4 c5 c6 Q0 B0
  go_wp2_with (refine wpList_store_row rfl 26 _ _ rfl w1.heap.size (hcells ⟨kd, ve, dl, sl, tl, vl, ln⟩ dS sS tS vS) rfl rfl 26 _ (heap_alloc_new w1 _) (hcells_info _ _ _ _ _) rfl (hcells_one _ _ _ _ _) ?_; refine Hid.out ?_)
  refine hid ?_
  generalize hww2 : World.setRow _ _ _ = w2
  have kw2 : Keep (fun i => i = w1.heap.size) w1 w2 := by rw [← hww2]; exact ((Keep.refl (fun i => i = w1.heap.size) w1).alloc _).setRow _ _ (.inl rfl)
  have b2 : Box w2 26 w1.heap.size ⟨kd, ve, dl, sl, tl, vl, ln⟩ dS sS tS vS := by rw [← hww2]; exact setRow_heap _ _ _ _ 26 _ (heap_alloc_new w1 _)
  clear hww2
  have qw2 : Q w1 w2 := kw2.toQ (fun i hi e => by omega)
  have Q2 := hid (Q1.out.trans qw2)
  have A2 := hid (A1.out.q qw2)
  have R2 := hid (R1.out.q qw2)
  have B2 := hid b2
  generalize hb1 : w1.heap.size = h1 at *
  clear kw2 b2 qw2 Q1 A1 R1 hb1
  obtain ⟨c0, c1, c2, c3, c4, c5, c6⟩ := B2.out.all
  try dsimp only at c0 c1 c2 c3 c4 c5 c6
  go_wp2_with fail
  refine (build_any kd ve dl sl tl vl ln dS sS tS vS width w2 ⟨R2.out.ds, R2.out.dl⟩ ⟨R2.out.ss, R2.out.sl⟩ ⟨R2.out.ts, R2.out.tl⟩).mono ?_
  rintro e w3 ⟨⟨xa, xn, xc⟩, rfl, hq3, hr3⟩
  have Q3 := hid (Q2.out.trans hq3)
  have A3 := hid (A2.out.q hq3)
  have R3 := hid (R2.out.q hq3)
  have B3 := hid (B2.out.q hq3)
  have X3 := hid (Row.ib hr3)
  clear hq3 hr3 c0 c1 c2 c3 c4 c5 c6 Q2 A2 R2 B2
  obtain ⟨c0, c1, c2, c3, c4, c5, c6⟩ := A3.out.all
  try dsimp only at c0 c1 c2 c3 c4 c5 c6
  go_wp2_with fail
  refine (of_any ⟨kd, ve, dl, sl, tl, vl, ln⟩ d s t v w3).mono ?_
  rintro e w4 ⟨rfl, hq4⟩
  have Q4 := hid (Q3.out.trans hq4)
  have A4 := hid (A3.out.q hq4)
  have R4 := hid (R3.out.q hq4)
  have B4 := hid (B3.out.q hq4)
  have X4 := hid (X3.out.q hq4)
  have F4 := hid (HF.out.q Q4.out)
  clear hq4 c0 c1 c2 c3 c4 c5 c6 Q3 A3 R3 B3 X3
  go_wp2_with fail
  refine (rbuild_any kd ve dl sl tl vl ln d s t v width w4 ⟨F4.out.h.ds, F4.out.h.dl⟩ ⟨F4.out.h.ss, F4.out.h.sl⟩ ⟨F4.out.h.ts, F4.out.h.tl⟩).mono ?_
  rintro e w5 ⟨⟨ya, yn, yc⟩, rfl, hq5, hr5⟩
  have Q5 := hid (Q4.out.trans hq5)
  have A5 := hid (A4.out.q hq5)
  have R5 := hid (R4.out.q hq5)
  have B5 := hid (B4.out.q hq5)
  have X5 := hid (X4.out.q hq5)
  have Y5 := hid (Row.ib hr5)
  have F5 := hid (F4.out.q hq5)
  clear hq5 hr5 Q4 A4 R4 B4 X4 F4
  have hxn := X5.out.l
  have hyn := Y5.out.l
  have hle := bldR_len ⟨kd, ve, dl, sl, tl, vl, ln⟩ width
  dsimp only at hxn hyn
  obtain rfl : xn = yn := by omega
  have HN := hid (show xn ≤ 140737488355328 from by omega)
  have HX := hid hxn
  have XS := hid (show Seg w5 xa (bldR ⟨kd, ve, dl, sl, tl, vl, ln⟩ width) from X5.out.s)
  have YS := hid (show Seg w5 ya (bldR ⟨kd, ve, dl, sl, tl, vl, ln⟩ width) from Y5.out.s)
  clear hxn hyn hle X5 Y5
  generalize bldR ⟨kd, ve, dl, sl, tl, vl, ln⟩ width = zs at *
  generalize bldE ⟨kd, ve, dl, sl, tl, vl, ln⟩ width = er at *
  have LL := hid (show dS.n ≤ 140737488355328 ∧ sS.n ≤ 140737488355328 ∧ tS.n ≤ 140737488355328 ∧ vS.n ≤ 140737488355328 from by
    have h1 := R5.out.dl
    have h2 := R5.out.sl
    have h3 := R5.out.tl
    have h4 := R5.out.vl
    have h5 := F5.out.h.dl
    have h6 := F5.out.h.sl
    have h7 := F5.out.h.tl
    have h8 := F5.out.h.vl
    have h9 := F5.out.nd
    have h10 := F5.out.ns
    have h11 := F5.out.nt
    have h12 := F5.out.nv
    omega)
  go_wp2
  refine wp_region_held (S := fun w' => Q w5 w') (by kernel_rfl) ?_
  show wpAnyH Try.prog .any _ _ _ 19 _ _ (w5.drewN 1)
  have hS : Q w5 (w5.drewN 1) := (Q.refl w5).drewN 1
  refine wpAnyH_all (rs := [0]) (fuel := 18) (by kernel_rfl) (by simp) ?_
  intro i hi
  have hi' := List.mem_singleton.1 hi
  clear hi
  subst hi'
  refine wpOp_in rfl (by kernel_rfl) (oper_enter (f := 12) (args := #[]) (by kernel_rfl) (awake_any _) ?_)
  rintro e w6 ⟨rfl, hqw6⟩
  have hS6 : Q w5 w6 := hS.trans hqw6
  refine .inl ⟨_, rfl, hS6, ?_⟩
  refine wpAnyH_take (i := 1) (fuel := 17) (v := .bool true) rfl (by kernel_rfl) (by kernel_rfl) (by kernel_rfl) (fun _ _ _ h => h) (.inl ⟨by kernel_rfl, by intro w' hb'; kernel_rfl⟩) hS6 ?_
  refine wpAnyH_take (i := 2) (fuel := 16) (v := .slice xa xn xc) rfl (by kernel_rfl) (by kernel_rfl) (by kernel_rfl) (fun _ _ _ h => h) (.inl ⟨by kernel_rfl, by intro w' hb'; kernel_rfl⟩) hS6 ?_
  refine wpAnyH_take (i := 3) (fuel := 15) (v := .slice ya xn yc) rfl (by kernel_rfl) (by kernel_rfl) (by kernel_rfl) (fun _ _ _ h => h) (.inl ⟨by kernel_rfl, by intro w' hb'; kernel_rfl⟩) hS6 ?_
  refine wpAnyH_all (rs := [4]) (fuel := 14) (by kernel_rfl) (by simp) ?_
  intro i hi
  have hi' := List.mem_singleton.1 hi
  clear hi
  subst hi'
  generalize hA : Act.put _ _ _ = A
  refine wpOp_in rfl (by rw [← hA]; kernel_rfl) (oper_enter (f := 15) (args := #[.slice xa xn xc, .slice ya xn yc]) (by rw [← hA]; kernel_rfl) (same_yes xa ya xn xc yc zs w6 HX.out HN.out (XS.out.q hS6) (YS.out.q hS6)) ?_)
  rintro e w7 ⟨rfl, hqw7⟩
  have hS7 : Q w5 w7 := hS6.trans hqw7
  refine .inl ⟨_, rfl, hS7, ?_⟩
  subst hA
  refine wpAnyH_take (i := 5) (fuel := 13) (v := .bool true) rfl (by kernel_rfl) (by kernel_rfl) (by kernel_rfl) (fun _ _ _ h => h) (.inl ⟨by kernel_rfl, by intro w' hb'; kernel_rfl⟩) hS7 ?_
  refine wpAnyH_take (i := 6) (fuel := 12) (v := .bool true) rfl (by kernel_rfl) (by kernel_rfl) (by kernel_rfl) (fun _ _ _ h => h) (.inl ⟨by kernel_rfl, by intro w' hb'; kernel_rfl⟩) hS7 ?_
  refine wpAnyH_take (i := 7) (fuel := 11) (v := .int .i64 er) rfl (by kernel_rfl) (by kernel_rfl) (by kernel_rfl) (fun _ _ _ h => h) (.inl ⟨by kernel_rfl, by intro w' hb'; kernel_rfl⟩) hS7 ?_
  refine wpAnyH_take (i := 8) (fuel := 10) (v := .int .i64 er) rfl (by kernel_rfl) (by kernel_rfl) (by kernel_rfl) (fun _ _ _ h => h) (.inl ⟨by kernel_rfl, by intro w' hb'; kernel_rfl⟩) hS7 ?_
  refine wpAnyH_take (i := 9) (fuel := 9) (v := .bool true) rfl (by kernel_rfl) (by kernel_rfl) (by kernel_rfl) (fun _ _ _ h => h) (.inl ⟨by kernel_rfl, by intro w' hb'; simp [execOp, go_sem]⟩) hS7 ?_
  refine wpAnyH_take (i := 10) (fuel := 8) (v := .bool true) rfl (by kernel_rfl) (by kernel_rfl) (by kernel_rfl) (fun _ _ _ h => h) (.inl ⟨by kernel_rfl, by intro w' hb'; kernel_rfl⟩) hS7 ?_
  refine wpAnyH_take (i := 11) (fuel := 7) (v := .bool true) rfl (by kernel_rfl) (by kernel_rfl) (by kernel_rfl) (fun _ _ _ h => h) (.inl ⟨by kernel_rfl, by intro w' hb'; kernel_rfl⟩) hS7 ?_
  refine wpAnyH_take (i := 12) (fuel := 6) (v := hv ⟨kd, ve, dl, sl, tl, vl, ln⟩ dS sS tS vS) rfl (by kernel_rfl) (by kernel_rfl) (by kernel_rfl) (fun _ _ _ h => h) (.inl ⟨by kernel_rfl, by intro w' hb'; obtain ⟨c0, c1, c2, c3, c4, c5, c6⟩ := (B5.out.q hb').all; simp [execOp, go_sem, c0, c1, c2, c3, c4, c5, c6]⟩) hS7 ?_
  refine wpAnyH_take (i := 14) (fuel := 5) (v := hv ⟨kd, ve, dl, sl, tl, vl, ln⟩ d s t v) rfl (by kernel_rfl) (by kernel_rfl) (by kernel_rfl) (fun _ _ _ h => h) (.inl ⟨by kernel_rfl, by intro w' hb'; obtain ⟨c0, c1, c2, c3, c4, c5, c6⟩ := (A5.out.q hb').all; simp [execOp, go_sem, c0, c1, c2, c3, c4, c5, c6]⟩) hS7 ?_
  refine wpAnyH_all (rs := [13]) (fuel := 4) (by kernel_rfl) (by simp) ?_
  intro i hi
  have hi' := List.mem_singleton.1 hi
  clear hi
  subst hi'
  generalize hA : Act.put _ _ _ = A
  refine wpOp_in rfl (by rw [← hA]; kernel_rfl) (oper_enter (f := 14) (args := #[hv ⟨kd, ve, dl, sl, tl, vl, ln⟩ dS sS tS vS]) (by rw [← hA]; kernel_rfl) (of_any ⟨kd, ve, dl, sl, tl, vl, ln⟩ dS sS tS vS w7) ?_)
  rintro e w8 ⟨rfl, hqw8⟩
  have hS8 : Q w5 w8 := hS7.trans hqw8
  refine .inl ⟨_, rfl, hS8, ?_⟩
  subst hA
  refine wpAnyH_all (rs := [15]) (fuel := 3) (by kernel_rfl) (by simp) ?_
  intro i hi
  have hi' := List.mem_singleton.1 hi
  clear hi
  subst hi'
  generalize hA : Act.put _ _ _ = A
  refine wpOp_in rfl (by rw [← hA]; kernel_rfl) (oper_enter (f := 14) (args := #[hv ⟨kd, ve, dl, sl, tl, vl, ln⟩ d s t v]) (by rw [← hA]; kernel_rfl) (of_any ⟨kd, ve, dl, sl, tl, vl, ln⟩ d s t v w8) ?_)
  rintro e w9 ⟨rfl, hqw9⟩
  have hS9 : Q w5 w9 := hS8.trans hqw9
  refine .inl ⟨_, rfl, hS9, ?_⟩
  subst hA
  refine wpAnyH_all (rs := [16]) (fuel := 2) (by kernel_rfl) (by simp) ?_
  intro i hi
  have hi' := List.mem_singleton.1 hi
  clear hi
  subst hi'
  generalize hA : Act.put _ _ _ = A
  refine wpOp_in rfl (by rw [← hA]; kernel_rfl) (oper_enter (f := 13) (args := #[hv ⟨kd, ve, dl, sl, tl, vl, ln⟩ dS sS tS vS, hv ⟨kd, ve, dl, sl, tl, vl, ln⟩ d s t v]) (by rw [← hA]; kernel_rfl) (sameH_any ⟨kd, ve, dl, sl, tl, vl, ln⟩ dS sS tS vS d s t v w9 (R5.out.q hS9) (F5.out.h.q hS9) LL.out) ?_)
  rintro e wa ⟨rfl, hqwa⟩
  have hSa : Q w5 wa := hS9.trans hqwa
  refine .inl ⟨_, rfl, hSa, ?_⟩
  subst hA
  refine wpAnyH_take (i := 17) (fuel := 1) (v := .bool true) rfl (by kernel_rfl) (by kernel_rfl) (by kernel_rfl) (fun _ _ _ h => h) (.inl ⟨by kernel_rfl, by intro w' hb'; kernel_rfl⟩) hSa ?_
  refine wpAnyH_take (i := 18) (fuel := 0) (v := .bool true) rfl (by kernel_rfl) (by kernel_rfl) (by kernel_rfl) (fun _ _ _ h => h) (.inl ⟨by kernel_rfl, by intro w' hb'; kernel_rfl⟩) hSa ?_
  refine wpAnyH_done (by kernel_rfl) ?_ _
  have HX := hid (show Q w wa from Q5.out.trans hSa)
  generalize hA : Act.put _ _ _ = A
  have hD : A.defers = [] := by rw [← hA]; kernel_rfl
  have h4 : A.tmps.getD 4 undef = .bool true := by rw [← hA]; kernel_rfl
  clear hA
  obtain ⟨tm, df⟩ := A
  dsimp only at hD h4
  subst hD
  go_wp2
  exact ⟨rfl, _, results_tmp rfl tm _ _, by rw [h4], HX.out⟩

set_option maxRecDepth 100000 in
theorem lifted (os : Os) (started : os.Started) (H : Type) (enc : TypeId × Value → H) :
    ReturnsInHanded {} Try.checked os 4 .any (Rows.headerBuildsSpec.pre6 enc Try.prog Try.f4 Rows.headerBuildsRow.domain false) (Rows.headerBuildsSpec.post enc Try.prog Try.f4 false true false false) := by
  refine returnsInHanded_of_change_sized (C := Try.checked) own_knob started (by kernel_rfl) Try.func4
    (ChangeSpec.witness6 (enc := enc) (C := Try.checked) false ⟨#[], #[.agg (hcells zh nilS nilS nilS nilS), .int .i64 0], []⟩ 8 (by kernel_rfl) (by kernel_rfl) (by kernel_rfl) (by kernel_rfl)) ?_
  intro W base args ds gs before hval0 hW hcnd hsz0 _
  have hval : ∀ (j : Nat) t v, Try.f4.params[j]? = some t → args[j]? = some v → Value.okWide Try.prog W .any base t v := hval0
  have hsz : (DataW.weightsEach Try.prog (Try.f4.params.toList ++ Rows.headerBuildsSpec.plain.varTypes Try.prog) (ds ++ gs)).all (· ≤ reachBytes) = true := hsz0
  have hW' := hW
  obtain ⟨p, q, hA0, hV, rfl, hfz, hnd⟩ := hW
  have hA : DataW.TrodAll enc Try.prog W 0 (fun _ => true) true Try.f4.params.toList args.toList ds p := hA0
  rw [Try.params4] at hA hval hsz
  obtain ⟨v0, vs0, d0, ds0, p0, q0, hargs, rfl, rfl, h0, r0⟩ := trodAll_cons hA
  obtain ⟨v1, vs1, d1, ds1, p1, q1, rfl, rfl, rfl, h1, r1⟩ := trodAll_cons r0
  obtain ⟨rfl, rfl, rfl⟩ := trodAll_nil r1
  obtain rfl : args = #[v0, v1] := by cases args; simp_all
  obtain ⟨rfl, rfl⟩ := trodVars_none hV
  obtain ⟨cs0, rfl, hcs0⟩ := okWide_struct Try.underlying26 (hval 0 26 v0 rfl rfl)
  have k0 := h0
  have lt0 : ∀ x ∈ p0, x.block < W.heap.size := by obtain ⟨m, hm⟩ := k0; exact DataW.trod_lt m _ _ _ hm
  obtain ⟨f0, x0, y0, z0, u0, rfl, hc0⟩ := open_header h0 hcs0
  have ft0 := came_fit hsz (j := 0) rfl rfl hc0
  obtain ⟨a1, rfl, rfl, rfl, w1⟩ := open_int Try.underlying3 (hval 1 3 v1 rfl rfl) h1
  clear hA0 hval0
  refine (walk f0 x0 y0 z0 u0 a1 W ft0).mono fun e W' ⟨he, bel⟩ => ?_
  subst he
  exact ⟨_, rfl, _, _, _, [], _, [], hW', trodAll_mk1 (shut_bool Try.underlying4 _), (trodAll_cons_mk (Below.trod laid_out (by kernel_rfl) (of_decide_eq_true (by kernel_rfl)) k0 bel lt0) (trodAll_cons_mk (shut_int Try.underlying3 w1) trodAll_mk0)), rfl, bel.frame _, fun h => by cases h⟩

theorem over : Rows.headerBuildsRow.holds Try.pinned (OpenSpec.ofChange Rows.headerBuildsSpec) :=
  OpenClaim.holds_of_wide 4 Try.f4 rfl rfl rfl rfl rfl rfl rfl ⟨rfl, rfl, rfl, rfl, rfl⟩ rfl rfl rfl rfl rfl (by kernel_rfl) Try.func4 (by kernel_rfl)
    (of_decide_eq_true (by kernel_rfl)) (by unfold Func.isWrapper; first | (rw [if_pos (by decide +kernel)]; kernel_rfl) | (rw [if_neg (by decide +kernel)]; exact ⟨rfl, rfl⟩))
    (fun os started H enc _ => lifted os started H enc)

end Go.Proofs.Ytbhhajmfdffdbaa.headerBuilds
namespace Go.Proofs.Ytbhhajmfdffdbaa

/-- The statement. -/
theorem headerBuilds_holds : Rows.HeaderBuildsSaid := headerBuilds.over
#print axioms headerBuilds_holds
end Go.Proofs.Ytbhhajmfdffdbaa
