/-
  Parse reads the header of any bytes, or tells the first thing that is wrong; the bytes stay as they were (where what is handed in is of bulk at most 1048576).
-/
import Derived.Test.YtbhhajmfdffdbaaRows
import Derived.Test.YtbhhajmfdffdbaaAwake
import Derived.Test.YtbhhajmfdffdbaaRPar
import Derived.Test.YtbhhajmfdffdbaaSameH
import Derived.Test.YtbhhajmfdffdbaaLenM
import Derived.Test.YtbhhajmfdffdbaaOpen
import Derived.WalkKit
import Derived.ProofKit
import Derived.OpenShut
import Derived.ShutString
import Derived.ChangeOld
import Derived.Below
import Derived.SizedLaws
import Derived.JoinedCond
namespace Go.Proofs.Ytbhhajmfdffdbaa.headerParses
open Go.ChangeShapes Go.WideShapes Go.ChangeAt Go.RowKit
open Go.ChangeMaps (open_string shut_string)
set_option linter.unusedVariables false

set_option maxRecDepth 20000 in
set_option maxHeartbeats 8000000 in
theorem walk (a : Option Addr) (n c : Nat) (zs : List Int) (cid : Int) (w : World) (hl : zs.length = n) (hz : ∀ y ∈ zs, 0 ≤ y ∧ y < 256) (hn : n ≤ 1048576) (hnc : n ≤ c) (hs : Seg w a zs) :
    Calls Try.prog 3 #[.slice a n c, .int .i64 cid] w fun e w' => e = .returned (.bool true) ∧ Below w.heap.size w w' := by
  have HL := hid hl
  have HZ := hid hz
  have HS := hid hs
  obtain ⟨⟨H, at_, en, er⟩, hP⟩ : ∃ R, parM zs cid = R := ⟨_, rfl⟩
  have HP := hid hP
  clear hl hz hs hP
  go_enter Try.func3, Try.ntmps3
  go_wp2_with fail
  refine (rcopy_any a n c zs w HL.out (by omega) HS.out).mono ?_
  rintro e w1 ⟨g1, rfl, hq1, hown, _⟩
  have Q1 := hid hq1
  have S1 := hid hown.seg
  clear hq1 hown
  go_wp2_with fail
  refine (parse_any (some ⟨g1, 0, none⟩) n n zs cid w1 HL.out HZ.out (by omega) S1.out).mono ?_
  intro e w2 hp
  rw [HP.out] at hp
  obtain ⟨dS, sS, tS, vS, rfl, hq2, hh2⟩ := hp
  have Q2 := hid (Q1.out.trans hq2)
  have S2 := hid (S1.out.q hq2)
  have R2 := hid hh2.reads
  clear hq2 hh2 S1 Q1
  go_wp2_with (refine wpList_store_row rfl 26 _ _ rfl w2.heap.size (hcells H dS sS tS vS) rfl rfl 26 _ (heap_alloc_new w2 _) (hcells_info _ _ _ _ _) rfl (hcells_one _ _ _ _ _) ?_; refine Hid.out ?_)
  refine hid ?_
  generalize hww3 : World.setRow _ _ _ = w3
  have kw3 : Keep (fun i => i = w2.heap.size) w2 w3 := by rw [← hww3]; exact ((Keep.refl (fun i => i = w2.heap.size) w2).alloc _).setRow _ _ (.inl rfl)
  have b3 : Box w3 26 w2.heap.size H dS sS tS vS := by rw [← hww3]; exact setRow_heap _ _ _ _ 26 _ (heap_alloc_new w2 _)
  clear hww3
  have qw3 : Q w2 w3 := kw3.toQ (fun i hi e => by omega)
  have Q3 := hid (Q2.out.trans qw3)
  have S3 := hid (S2.out.q qw3)
  have R3 := hid (R2.out.q qw3)
  have B3 := hid b3
  generalize hb1 : w2.heap.size = h1 at *
  clear kw3 b3 qw3 Q2 S2 R2 hb1
  go_wp2_with fail
  refine (rparse_any a n c zs cid w3 HL.out HZ.out hn hnc (HS.out.q Q3.out)).mono ?_
  intro e w4 hp
  unfold AnsR at hp
  rw [HP.out] at hp
  obtain ⟨dT, sT, tT, vT, rfl, hq4, hh4⟩ := hp
  have Q4 := hid (Q3.out.trans hq4)
  have S4 := hid (S3.out.q hq4)
  have R4 := hid (R3.out.q hq4)
  have T4 := hid hh4.reads
  have B4 := hid (B3.out.q hq4)
  clear hq4 hh4 Q3 S3 R3 B3
  go_wp2_with (refine wpList_store_row rfl 30 _ _ rfl w4.heap.size (hcells H dT sT tT vT) rfl rfl 30 _ (heap_alloc_new w4 _) (hcells_info30 _ _ _ _ _) rfl (hcells_one _ _ _ _ _) ?_; refine Hid.out ?_)
  refine hid ?_
  generalize hww5 : World.setRow _ _ _ = w5
  have kw5 : Keep (fun i => i = w4.heap.size) w4 w5 := by rw [← hww5]; exact ((Keep.refl (fun i => i = w4.heap.size) w4).alloc _).setRow _ _ (.inl rfl)
  have b5 : Box w5 30 w4.heap.size H dT sT tT vT := by rw [← hww5]; exact setRow_heap _ _ _ _ 30 _ (heap_alloc_new w4 _)
  clear hww5
  have qw5 : Q w4 w5 := kw5.toQ (fun i hi e => by omega)
  have Q5 := hid (Q4.out.trans qw5)
  have S5 := hid (S4.out.q qw5)
  have R5 := hid (R4.out.q qw5)
  have T5 := hid (T4.out.q qw5)
  have B5 := hid (B4.out.q qw5)
  have C5 := hid b5
  have HLE := hid (show dS.n ≤ 140737488355328 ∧ sS.n ≤ 140737488355328 ∧ tS.n ≤ 140737488355328 ∧ vS.n ≤ 140737488355328 from by
    have h0 := parM_len (zs := zs) (cid := cid) HZ.out
    rw [HP.out, HL.out] at h0
    dsimp only at h0
    have h1 := R5.out.dl
    have h2 := R5.out.sl
    have h3 := R5.out.tl
    have h4 := R5.out.vl
    omega)
  generalize hb2 : w4.heap.size = h2 at *
  clear kw5 b5 qw5 Q4 S4 R4 T4 B4 hb2
  go_wp2
  refine wp_region_held (S := fun w' => Q w5 w') (by kernel_rfl) ?_
  show wpAnyH Try.prog .any _ _ _ 28 _ _ (w5.drewN 1)
  have hS : Q w5 (w5.drewN 1) := (Q.refl w5).drewN 1
  refine wpAnyH_all (rs := [0]) (fuel := 27) (by kernel_rfl) (by simp) ?_
  intro i hi
  have hi' := List.mem_singleton.1 hi
  clear hi
  subst hi'
  refine wpOp_in rfl (by kernel_rfl) (oper_enter (f := 12) (args := #[]) (by kernel_rfl) (awake_any _) ?_)
  rintro e w6 ⟨rfl, hq6⟩
  have hS6 : Q w5 w6 := hS.trans hq6
  refine .inl ⟨_, rfl, hS6, ?_⟩
  refine wpAnyH_take (i := 1) (fuel := 26) (v := .bool true) rfl (by kernel_rfl) (by kernel_rfl) (by kernel_rfl) (fun _ _ _ h => h) (.inl ⟨by kernel_rfl, by intro w' hb'; kernel_rfl⟩) hS6 ?_
  refine wpAnyH_take (i := 2) (fuel := 25) (v := hv H dS sS tS vS) rfl (by kernel_rfl) (by kernel_rfl) (by kernel_rfl) (fun _ _ _ h => h) (.inl ⟨by kernel_rfl, by intro w' hb'; obtain ⟨c0, c1, c2, c3, c4, c5, c6⟩ := (B5.out.q hb').all; simp [execOp, go_sem, c0, c1, c2, c3, c4, c5, c6]⟩) hS6 ?_
  refine wpAnyH_take (i := 4) (fuel := 24) (v := hv H dT sT tT vT) rfl (by kernel_rfl) (by kernel_rfl) (by kernel_rfl) (fun _ _ _ h => h) (.inl ⟨by kernel_rfl, by intro w' hb'; obtain ⟨c0, c1, c2, c3, c4, c5, c6⟩ := (C5.out.q hb').all; simp [execOp, go_sem, c0, c1, c2, c3, c4, c5, c6]⟩) hS6 ?_
  refine wpAnyH_all (rs := [3]) (fuel := 23) (by kernel_rfl) (by simp) ?_
  intro i hi
  have hi' := List.mem_singleton.1 hi
  clear hi
  subst hi'
  generalize hA : Act.put _ _ _ = A
  refine wpOp_in rfl (by rw [← hA]; kernel_rfl) (oper_enter (f := 14) (args := #[hv H dS sS tS vS]) (by rw [← hA]; kernel_rfl) (of_any H dS sS tS vS w6) ?_)
  rintro e w7 ⟨rfl, hq7⟩
  have hS7 : Q w5 w7 := hS6.trans hq7
  refine .inl ⟨_, rfl, hS7, ?_⟩
  subst hA
  refine wpAnyH_all (rs := [5]) (fuel := 22) (by kernel_rfl) (by simp) ?_
  intro i hi
  have hi' := List.mem_singleton.1 hi
  clear hi
  subst hi'
  generalize hA : Act.put _ _ _ = A
  refine wpOp_in rfl (by rw [← hA]; kernel_rfl) (oper_enter (f := 13) (args := #[hv H dS sS tS vS, hv H dT sT tT vT]) (by rw [← hA]; kernel_rfl) (sameH_any H dS sS tS vS dT sT tT vT w7 (R5.out.q hS7) (T5.out.q hS7) HLE.out) ?_)
  rintro e w8 ⟨rfl, hq8⟩
  have hS8 : Q w5 w8 := hS7.trans hq8
  refine .inl ⟨_, rfl, hS8, ?_⟩
  subst hA
  refine wpAnyH_take (i := 6) (fuel := 21) (v := .bool true) rfl (by kernel_rfl) (by kernel_rfl) (by kernel_rfl) (fun _ _ _ h => h) (.inl ⟨by kernel_rfl, by intro w' hb'; kernel_rfl⟩) hS8 ?_
  refine wpAnyH_take (i := 7) (fuel := 20) (v := .bool true) rfl (by kernel_rfl) (by kernel_rfl) (by kernel_rfl) (fun _ _ _ h => h) (.inl ⟨by kernel_rfl, by intro w' hb'; kernel_rfl⟩) hS8 ?_
  refine wpAnyH_take (i := 8) (fuel := 19) (v := .int .i64 at_) rfl (by kernel_rfl) (by kernel_rfl) (by kernel_rfl) (fun _ _ _ h => h) (.inl ⟨by kernel_rfl, by intro w' hb'; kernel_rfl⟩) hS8 ?_
  refine wpAnyH_take (i := 9) (fuel := 18) (v := .int .i64 at_) rfl (by kernel_rfl) (by kernel_rfl) (by kernel_rfl) (fun _ _ _ h => h) (.inl ⟨by kernel_rfl, by intro w' hb'; kernel_rfl⟩) hS8 ?_
  refine wpAnyH_take (i := 10) (fuel := 17) (v := .bool true) rfl (by kernel_rfl) (by kernel_rfl) (by kernel_rfl) (fun _ _ _ h => h) (.inl ⟨by kernel_rfl, by intro w' hb'; simp [execOp, go_sem]⟩) hS8 ?_
  refine wpAnyH_take (i := 11) (fuel := 16) (v := .bool true) rfl (by kernel_rfl) (by kernel_rfl) (by kernel_rfl) (fun _ _ _ h => h) (.inl ⟨by kernel_rfl, by intro w' hb'; kernel_rfl⟩) hS8 ?_
  refine wpAnyH_take (i := 12) (fuel := 15) (v := .bool true) rfl (by kernel_rfl) (by kernel_rfl) (by kernel_rfl) (fun _ _ _ h => h) (.inl ⟨by kernel_rfl, by intro w' hb'; kernel_rfl⟩) hS8 ?_
  refine wpAnyH_take (i := 13) (fuel := 14) (v := .int .i64 en) rfl (by kernel_rfl) (by kernel_rfl) (by kernel_rfl) (fun _ _ _ h => h) (.inl ⟨by kernel_rfl, by intro w' hb'; kernel_rfl⟩) hS8 ?_
  refine wpAnyH_take (i := 14) (fuel := 13) (v := .int .i64 en) rfl (by kernel_rfl) (by kernel_rfl) (by kernel_rfl) (fun _ _ _ h => h) (.inl ⟨by kernel_rfl, by intro w' hb'; kernel_rfl⟩) hS8 ?_
  refine wpAnyH_take (i := 15) (fuel := 12) (v := .bool true) rfl (by kernel_rfl) (by kernel_rfl) (by kernel_rfl) (fun _ _ _ h => h) (.inl ⟨by kernel_rfl, by intro w' hb'; simp [execOp, go_sem]⟩) hS8 ?_
  refine wpAnyH_take (i := 16) (fuel := 11) (v := .bool true) rfl (by kernel_rfl) (by kernel_rfl) (by kernel_rfl) (fun _ _ _ h => h) (.inl ⟨by kernel_rfl, by intro w' hb'; kernel_rfl⟩) hS8 ?_
  refine wpAnyH_take (i := 17) (fuel := 10) (v := .bool true) rfl (by kernel_rfl) (by kernel_rfl) (by kernel_rfl) (fun _ _ _ h => h) (.inl ⟨by kernel_rfl, by intro w' hb'; kernel_rfl⟩) hS8 ?_
  refine wpAnyH_take (i := 18) (fuel := 9) (v := .int .i64 er) rfl (by kernel_rfl) (by kernel_rfl) (by kernel_rfl) (fun _ _ _ h => h) (.inl ⟨by kernel_rfl, by intro w' hb'; kernel_rfl⟩) hS8 ?_
  refine wpAnyH_take (i := 19) (fuel := 8) (v := .int .i64 er) rfl (by kernel_rfl) (by kernel_rfl) (by kernel_rfl) (fun _ _ _ h => h) (.inl ⟨by kernel_rfl, by intro w' hb'; kernel_rfl⟩) hS8 ?_
  refine wpAnyH_take (i := 20) (fuel := 7) (v := .bool true) rfl (by kernel_rfl) (by kernel_rfl) (by kernel_rfl) (fun _ _ _ h => h) (.inl ⟨by kernel_rfl, by intro w' hb'; simp [execOp, go_sem]⟩) hS8 ?_
  refine wpAnyH_take (i := 21) (fuel := 6) (v := .bool true) rfl (by kernel_rfl) (by kernel_rfl) (by kernel_rfl) (fun _ _ _ h => h) (.inl ⟨by kernel_rfl, by intro w' hb'; kernel_rfl⟩) hS8 ?_
  refine wpAnyH_take (i := 22) (fuel := 5) (v := .bool true) rfl (by kernel_rfl) (by kernel_rfl) (by kernel_rfl) (fun _ _ _ h => h) (.inl ⟨by kernel_rfl, by intro w' hb'; kernel_rfl⟩) hS8 ?_
  refine wpAnyH_take (i := 23) (fuel := 4) (v := .slice (some ⟨g1, 0, none⟩) n n) rfl (by kernel_rfl) (by kernel_rfl) (by kernel_rfl) (fun _ _ _ h => h) (.inl ⟨by kernel_rfl, by intro w' hb'; kernel_rfl⟩) hS8 ?_
  refine wpAnyH_take (i := 24) (fuel := 3) (v := .slice a n c) rfl (by kernel_rfl) (by kernel_rfl) (by kernel_rfl) (fun _ _ _ h => h) (.inl ⟨by kernel_rfl, by intro w' hb'; kernel_rfl⟩) hS8 ?_
  refine wpAnyH_all (rs := [25]) (fuel := 2) (by kernel_rfl) (by simp) ?_
  intro i hi
  have hi' := List.mem_singleton.1 hi
  clear hi
  subst hi'
  generalize hA : Act.put _ _ _ = A
  refine wpOp_in rfl (by rw [← hA]; kernel_rfl) (oper_enter (f := 15) (args := #[.slice (some ⟨g1, 0, none⟩) n n, .slice a n c]) (by rw [← hA]; kernel_rfl) (same_yes (some ⟨g1, 0, none⟩) a n n c zs w8 HL.out (by omega) (S5.out.q hS8) (HS.out.q (Q5.out.trans hS8))) ?_)
  rintro e w9 ⟨rfl, hq9⟩
  have hS9 : Q w5 w9 := hS8.trans hq9
  refine .inl ⟨_, rfl, hS9, ?_⟩
  subst hA
  refine wpAnyH_take (i := 26) (fuel := 1) (v := .bool true) rfl (by kernel_rfl) (by kernel_rfl) (by kernel_rfl) (fun _ _ _ h => h) (.inl ⟨by kernel_rfl, by intro w' hb'; kernel_rfl⟩) hS9 ?_
  refine wpAnyH_take (i := 27) (fuel := 0) (v := .bool true) rfl (by kernel_rfl) (by kernel_rfl) (by kernel_rfl) (fun _ _ _ h => h) (.inl ⟨by kernel_rfl, by intro w' hb'; kernel_rfl⟩) hS9 ?_
  refine wpAnyH_done (by kernel_rfl) ?_ _
  have HX := hid (show Q w w9 from Q5.out.trans hS9)
  generalize hA : Act.put _ _ _ = A
  have hD : A.defers = [] := by rw [← hA]; kernel_rfl
  have h4 : A.tmps.getD 4 undef = .bool true := by rw [← hA]; kernel_rfl
  clear hA
  obtain ⟨tm, df⟩ := A
  dsimp only at hD h4
  subst hD
  go_wp2
  exact ⟨rfl, _, results_tmp rfl tm _ _, by rw [h4], HX.out⟩

theorem contract (H : Type) (enc : TypeId × Value → H) (W : World) (base : Nat) (args : Array Value) (ds gs : List (DataW H)) (before : List MemPlace)
    (hval : ∀ (j : Nat) t v, Try.f3.params[j]? = some t → args[j]? = some v → Value.okWide Try.prog W .any base t v)
    (hW : DataW.Whole enc Try.prog Try.f3.params.toList Rows.headerParsesSpec.vars false W args.toList ds gs before) (hk : Rows.uptoSmall H (ds ++ gs) = true) :
    Calls Try.prog 3 args W fun e W' => ∃ v, e = .returned v ∧ Rows.headerParsesSpec.post enc Try.prog Try.f3 false true false false W args v W' := by
  have hW' := hW
  obtain ⟨p, q, hA0, hV, rfl, hfz, hnd⟩ := hW
  have hA : DataW.TrodAll enc Try.prog W 0 (fun _ => true) true Try.f3.params.toList args.toList ds p := hA0
  rw [Try.params3] at hA hval
  obtain ⟨v0, vs0, d0, ds0, p0, q0, hargs, rfl, rfl, h0, r0⟩ := trodAll_cons hA
  obtain ⟨v1, vs1, d1, ds1, p1, q1, rfl, rfl, rfl, h1, r1⟩ := trodAll_cons r0
  obtain ⟨rfl, rfl, rfl⟩ := trodAll_nil r1
  obtain rfl : args = #[v0, v1] := by cases args; simp_all
  obtain ⟨rfl, rfl⟩ := trodVars_none hV
  obtain ⟨a0, len0, cap0, rfl⟩ := okWide_slice Try.underlying22 (hval 0 22 v0 rfl rfl)
  have k0 := h0
  have lt0 : ∀ x ∈ p0, x.block < W.heap.size := by obtain ⟨m, hm⟩ := k0; exact DataW.trod_lt m _ _ _ hm
  obtain ⟨z0, zl0, zs0, zb0, zc0, ze0, zd0⟩ := open_bytes h0
  have zn0 := bulk_len hk (d := d0) (by simp) zd0
  obtain ⟨a1, rfl, rfl, rfl, w1⟩ := open_int Try.underlying3 (hval 1 3 v1 rfl rfl) h1
  clear hA0
  refine (walk a0 len0 cap0 z0 a1 W zl0 zb0 (by omega) zc0 zs0).mono fun e W' ⟨he, bel⟩ => ?_
  subst he
  exact ⟨_, rfl, _, _, _, [], _, [], hW', trodAll_mk1 (shut_bool Try.underlying4 _), (trodAll_cons_mk (Below.trod laid_out (by kernel_rfl) (of_decide_eq_true (by kernel_rfl)) k0 bel lt0) (trodAll_cons_mk (shut_int Try.underlying3 w1) trodAll_mk0)), rfl, bel.frame _, fun h => by cases h⟩

set_option maxRecDepth 100000 in
theorem lifted (os : Os) (started : os.Started) (H : Type) (enc : TypeId × Value → H) (F : Stop.Interp) :
    ReturnsInHanded {} Try.checked os 3 .any ((Rows.OpenSpec.upto Rows.headerParsesSpec).pre6 enc Try.prog Try.f3 Rows.headerParsesUptoRow.domain false) (((Rows.OpenSpec.upto Rows.headerParsesSpec).at F).post enc Try.prog Try.f3 false true false false) := by
  refine returnsInHanded_of_cond (C := Try.checked) (s := Rows.OpenSpec.upto Rows.headerParsesSpec) (k := Rows.uptoSmall) rfl own_knob started (by kernel_rfl) Try.func3
    (OpenSpec.witness (enc := enc) (C := Try.checked) (s := Rows.OpenSpec.upto Rows.headerParsesSpec) (k := Rows.uptoSmall) rfl false ⟨#[], #[.slice none 0 0, .int .i64 0], []⟩ 8 (by kernel_rfl) (by kernel_rfl) (by kernel_rfl)
      (x := ([.nil, .lit (.int .i64 0)], [], [])) (by kernel_rfl) rfl (by kernel_rfl)) ?_
  intro W base args ds gs before hval hW _ hk _
  exact contract H enc W base args ds gs before hval hW hk

theorem over : Rows.headerParsesUptoRow.holds Try.pinned (Rows.OpenSpec.upto Rows.headerParsesSpec) :=
  OpenClaim.holds_of_cond 3 Try.f3 rfl rfl rfl rfl rfl rfl rfl ⟨rfl, rfl, rfl, rfl, rfl⟩ rfl rfl rfl rfl rfl (by kernel_rfl) Try.func3 (by kernel_rfl)
    (of_decide_eq_true (by kernel_rfl)) (by unfold Func.isWrapper; first | (rw [if_pos (by decide +kernel)]; kernel_rfl) | (rw [if_neg (by decide +kernel)]; exact ⟨rfl, rfl⟩))
    (fun os started H enc _ F => lifted os started H enc F)

end Go.Proofs.Ytbhhajmfdffdbaa.headerParses
namespace Go.Proofs.Ytbhhajmfdffdbaa

/-- The statement. -/
theorem headerParsesUpto_holds : Rows.HeaderParsesUptoSaid := headerParses.over
#print axioms headerParsesUpto_holds
end Go.Proofs.Ytbhhajmfdffdbaa
