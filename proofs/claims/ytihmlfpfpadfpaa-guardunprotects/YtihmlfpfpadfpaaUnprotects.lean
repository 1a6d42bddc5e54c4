/-
  GuardUnprotects: Unprotect answers as the document says for any bytes, keys, place and number; the bytes stay as they were. No condition beyond the form's own reach.
-/
import Derived.Test.YtihmlfpfpadfpaaRows
import Derived.Test.YtihmlfpfpadfpaaAwk
import Derived.Test.YtihmlfpfpadfpaaKcp
import Derived.Test.YtihmlfpfpadfpaaOpenK
import Derived.Test.YtihmlfpfpadfpaaRUp
import Derived.WalkKit
import Derived.ProofKit
import Derived.OpenShut
import Derived.ShutString
import Derived.ChangeOld
import Derived.Below
import Derived.SizedLaws
namespace Go.Proofs.Ytihmlfpfpadfpaa.guardUnprotects
open Go.ChangeShapes Go.WideShapes Go.ChangeAt Go.RowKit
open Go.ChangeMaps (open_string shut_string)
set_option linter.unusedVariables false

set_option maxRecDepth 20000
def SB (w : World) (g : Nat) (k i h pk : Sv) (at_ high : Int) : Prop := w.heap[g]? = some (.cells (scells k i h pk at_ high) 51 (0, 0))
section
variable {w w' : World} {g : Nat} {k i h pk : Sv} {at_ high : Int}
theorem SB.q (x : SB w g k i h pk at_ high) (q : Q w w') : SB w' g k i h pk at_ high := (Below.block q _ (lt_of_block x)).trans x
theorem SB.c0 (x : SB w g k i h pk at_ high) : w.cell? ⟨g, 0, none⟩ = some (.slice k.a k.n k.c) := by rw [cell_of_row w g 0 _ 51 (0, 0) x]; rfl
theorem SB.c1 (x : SB w g k i h pk at_ high) : w.cell? ⟨g, 1, none⟩ = some (.slice i.a i.n i.c) := by rw [cell_of_row w g 1 _ 51 (0, 0) x]; rfl
theorem SB.c2 (x : SB w g k i h pk at_ high) : w.cell? ⟨g, 2, none⟩ = some (.slice h.a h.n h.c) := by rw [cell_of_row w g 2 _ 51 (0, 0) x]; rfl
theorem SB.c3 (x : SB w g k i h pk at_ high) : w.cell? ⟨g, 3, none⟩ = some (.slice pk.a pk.n pk.c) := by rw [cell_of_row w g 3 _ 51 (0, 0) x]; rfl
theorem SB.c4 (x : SB w g k i h pk at_ high) : w.cell? ⟨g, 4, none⟩ = some (.int .i64 at_) := by rw [cell_of_row w g 4 _ 51 (0, 0) x]; rfl
theorem SB.c5 (x : SB w g k i h pk at_ high) : w.cell? ⟨g, 5, none⟩ = some (.int .i64 high) := by rw [cell_of_row w g 5 _ 51 (0, 0) x]; rfl
end
theorem unX_lt {kz iz hz ps : List Int} {at_ high : Int} (h : By ps) : By (unX kz iz hz ps at_ high) := by
  unfold unX
  split
  · exact usR_lt (umS_lt hz h _)
  · intro y hy; cases hy
theorem unX_len {kz iz hz ps : List Int} {at_ high : Int} (h : ps.length ≤ 140737488355328) : (unX kz iz hz ps at_ high).length ≤ 140737488355328 := by
  unfold unX
  split
  · unfold usR
    split
    · unfold opnR
      split
      · rw [ovl_len, List.length_take, umS_len]; omega
      · simp
    · simp
  · simp
set_option maxHeartbeats 8000000 in
theorem walk (k i h pk : Sv) (at_ high : Int) (kz iz hz ps : List Int) (w : World) (hk : KI w k i h kz iz hz) (hp : In w pk ps) (hc : pk.n ≤ pk.c) (ha : -9223372036854775808 ≤ at_ ∧ at_ ≤ 9223372036854775807) (bk : k.n ≤ 140737488351232) (bi : i.n ≤ 140737488351232) (bh : h.n ≤ 140737488351232) (bp : pk.n ≤ 140737488351232) :
    Calls Try.prog 5 #[.agg (scells k i h pk at_ high)] w fun r w' => r = .returned (.bool true) ∧ Below w.heap.size w w' := by
  have HK := hid hk
  have HP := hid hp
  have HC := hid hc
  have HA := hid ha
  clear hk hp hc ha
  obtain ⟨ka, kn, kc⟩ := k
  obtain ⟨ia, n, ic⟩ := i
  obtain ⟨ha, hn, hc⟩ := h
  obtain ⟨pa, pn, pc⟩ := pk
  dsimp only at *
  go_enter Try.func5, Try.ntmps5
  go_wp2_with fail
  generalize hw1 : World.alloc w _ = w1
  have Q1 := hid (show Q w w1 from by rw [← hw1]; exact (Q.refl w).alloc _)
  have B1 := hid (show SB w1 w.heap.size ⟨ka, kn, kc⟩ ⟨ia, n, ic⟩ ⟨ha, hn, hc⟩ ⟨pa, pn, pc⟩ at_ high from by rw [← hw1]; exact heap_alloc_new w _)
  clear hw1
  generalize w.heap.size = bx at *
  refine (rcopy_any pa pn pc ps w1 HP.out.l (by omega) (HP.out.s.q Q1.out)).mono ?_
  rintro e w2 ⟨g, rfl, q2, o2, l2⟩
  have Q2 := hid (Q1.out.trans q2)
  have B2 := hid (B1.out.q q2)
  have I2 := hid (show In w2 ⟨some ⟨g, 0, none⟩, pn, pn⟩ ps from ⟨o2.seg, HP.out.l, HP.out.z⟩)
  clear q2 o2 l2 B1 Q1
  have c0 := B2.out.c0
  have c1 := B2.out.c1
  have c2 := B2.out.c2
  have c3 := B2.out.c3
  have c4 := B2.out.c4
  have c5 := B2.out.c5
  dsimp only at c0 c1 c2 c3
  have CK := hid (fun u (hu : Q w2 u) => copied_any ⟨ka, kn, kc⟩ ⟨ia, n, ic⟩ ⟨ha, hn, hc⟩ kz iz hz u ((HK.out.q Q2.out).q hu) (by show kn ≤ _; omega) (by show n ≤ _; omega) (by show hn ≤ _; omega))
  have CU := hid (fun (gk gi gh : Nat) u (hu : Q w2 u) (hk : KI u ⟨some ⟨gk, 0, none⟩, kn, kn⟩ ⟨some ⟨gi, 0, none⟩, n, n⟩ ⟨some ⟨gh, 0, none⟩, hn, hn⟩ kz iz hz) => unprotect_any ⟨some ⟨gk, 0, none⟩, kn, kn⟩ ⟨some ⟨gi, 0, none⟩, n, n⟩ ⟨some ⟨gh, 0, none⟩, hn, hn⟩ ⟨some ⟨g, 0, none⟩, pn, pn⟩ kz iz hz ps at_ high u hk (I2.out.q hu) (by show pn ≤ _; omega) (Nat.le_refl _) HA.out.1 HA.out.2)
  dsimp only at CU
  have XZ := hid (unX_lt (kz := kz) (iz := iz) (hz := hz) (at_ := at_) (high := high) HP.out.z)
  have XL := hid (unX_len (kz := kz) (iz := iz) (hz := hz) (at_ := at_) (high := high) (show ps.length ≤ 140737488355328 from by rw [HP.out.l]; show pn ≤ _; omega))
  have RU := hid (fun u (hu : Q w u) => runprotect_any ⟨ka, kn, kc⟩ ⟨ia, n, ic⟩ ⟨ha, hn, hc⟩ ⟨pa, pn, pc⟩ kz iz hz ps at_ high u (HK.out.q hu) (HP.out.q hu) (by show pn ≤ _; omega) HC.out HA.out.1 HA.out.2)
  dsimp only at RU
  generalize unN kz iz hz ps at_ high = UN at *
  generalize unF kz iz hz ps at_ high = UF at *
  generalize unE kz iz hz ps at_ high = UE at *
  generalize unX kz iz hz ps at_ high = UX at *
  have s1 : Q w2 w2 := Q.refl _
  go_wp2
  go_region_held3 (fun u => Q w2 u ∧ u.cell? ⟨bx, 0, none⟩ = some (.slice ka kn kc) ∧ u.cell? ⟨bx, 1, none⟩ = some (.slice ia n ic) ∧ u.cell? ⟨bx, 2, none⟩ = some (.slice ha hn hc) ∧ u.cell? ⟨bx, 3, none⟩ = some (.slice pa pn pc) ∧ u.cell? ⟨bx, 4, none⟩ = some (.int .i64 at_) ∧ u.cell? ⟨bx, 5, none⟩ = some (.int .i64 high)) (repeat (first | (with_reducible assumption) | (with_reducible apply Q.drew) | (with_reducible apply Q.drewN) | (with_reducible refine dcel ?_) | (with_reducible refine dcelN ?_) | (with_reducible apply And.intro)))
    (first
      | (go_at_call 19; refine (CK.out _ (by repeat (first | (with_reducible assumption) | (with_reducible exact Q.refl _) | (with_reducible apply Q.drew) | (with_reducible apply Q.drewN) | (with_reducible apply Q.alloc)))).mono ?_; rintro e wk ⟨gk, gi, gh, rfl, qk, ik⟩; have jk : Q w2 wk := Q.trans (by repeat (first | (with_reducible assumption) | (with_reducible exact Q.refl _) | (with_reducible apply Q.drew) | (with_reducible apply Q.drewN) | (with_reducible apply Q.alloc))) qk; have IK := hid ik; have bk := B2.out.q jk; have k0 := bk.c0; have k1 := bk.c1; have k2 := bk.c2; have k3 := bk.c3; have k4 := bk.c4; have k5 := bk.c5; dsimp only at k0 k1 k2 k3)
      | (go_at_call 23; refine (CU.out gk gi gh _ (by repeat (first | (with_reducible assumption) | (with_reducible exact Q.refl _) | (with_reducible apply Q.drew) | (with_reducible apply Q.drewN) | (with_reducible apply Q.alloc))) (IK.out.q (by repeat (first | (with_reducible assumption) | (with_reducible exact Q.refl _) | (with_reducible apply Q.drew) | (with_reducible apply Q.drewN) | (with_reducible apply Q.alloc))))).mono ?_; rintro e wt ⟨⟨xa, xn, xc⟩, rfl, qt, rt⟩; have jt : Q w2 wt := Q.trans (by repeat (first | (with_reducible assumption) | (with_reducible exact Q.refl _) | (with_reducible apply Q.drew) | (with_reducible apply Q.drewN) | (with_reducible apply Q.alloc))) qt; have bt := B2.out.q jt; have t0 := bt.c0; have t1 := bt.c1; have t2 := bt.c2; have t3 := bt.c3; have t4 := bt.c4; have t5 := bt.c5; dsimp only at t0 t1 t2 t3))
  have Q3 := hid (Q2.out.trans jt)
  have B3 := hid (B2.out.q jt)
  have I3 := hid (I2.out.q jt)
  have R3 := hid (row_in rt XZ.out)
  have BX := hid (show xn ≤ 140737488355328 from by have h1 := Row.len rt; have := XL.out; dsimp only at h1; omega)
  clear rt qt jt bt t0 t1 t2 t3 t4 t5 qk jk bk k0 k1 k2 k3 k4 k5 ik IK c0 c1 c2 c3 c4 c5 CK CU s1 B2 I2 Q2
  generalize hwq : wt = w3 at *
  clear hwq
  have c0 := B3.out.c0
  have c1 := B3.out.c1
  have c2 := B3.out.c2
  have c3 := B3.out.c3
  have c4 := B3.out.c4
  have c5 := B3.out.c5
  dsimp only at c0 c1 c2 c3
  have CO := hid (fun u => of_any ⟨ka, kn, kc⟩ ⟨ia, n, ic⟩ ⟨ha, hn, hc⟩ u)
  have CR := hid (fun u (hu : Q w3 u) => RU.out u (Q3.out.trans hu))
  have s1 : Q w3 w3 := Q.refl _
  go_wp2
  go_region_held3 (fun u => Q w3 u ∧ u.cell? ⟨bx, 0, none⟩ = some (.slice ka kn kc) ∧ u.cell? ⟨bx, 1, none⟩ = some (.slice ia n ic) ∧ u.cell? ⟨bx, 2, none⟩ = some (.slice ha hn hc) ∧ u.cell? ⟨bx, 3, none⟩ = some (.slice pa pn pc) ∧ u.cell? ⟨bx, 4, none⟩ = some (.int .i64 at_) ∧ u.cell? ⟨bx, 5, none⟩ = some (.int .i64 high)) (repeat (first | (with_reducible assumption) | (with_reducible apply Q.drew) | (with_reducible apply Q.drewN) | (with_reducible refine dcel ?_) | (with_reducible refine dcelN ?_) | (with_reducible apply And.intro)))
    (first
      | (go_at_call 22; refine (CO.out _).mono ?_; rintro e wk ⟨rfl, qk⟩; have jk : Q w3 wk := Q.trans (by repeat (first | (with_reducible assumption) | (with_reducible exact Q.refl _) | (with_reducible apply Q.drew) | (with_reducible apply Q.drewN) | (with_reducible apply Q.alloc))) qk; have bk := B3.out.q jk; have k0 := bk.c0; have k1 := bk.c1; have k2 := bk.c2; have k3 := bk.c3; have k4 := bk.c4; have k5 := bk.c5; dsimp only at k0 k1 k2 k3)
      | (go_at_call 24; refine (CR.out _ (by repeat (first | (with_reducible assumption) | (with_reducible exact Q.refl _) | (with_reducible apply Q.drew) | (with_reducible apply Q.drewN) | (with_reducible apply Q.alloc)))).mono ?_; rintro e wt ⟨⟨ya, yn, yc⟩, rfl, qt, rt⟩; have jt : Q w3 wt := Q.trans (by repeat (first | (with_reducible assumption) | (with_reducible exact Q.refl _) | (with_reducible apply Q.drew) | (with_reducible apply Q.drewN) | (with_reducible apply Q.alloc))) qt; have bt := B3.out.q jt; have t0 := bt.c0; have t1 := bt.c1; have t2 := bt.c2; have t3 := bt.c3; have t4 := bt.c4; have t5 := bt.c5; dsimp only at t0 t1 t2 t3))
  have Q4 := hid (Q3.out.trans jt)
  have B4 := hid (B3.out.q jt)
  have I4 := hid (I3.out.q jt)
  have R4 := hid (R3.out.q jt)
  have Y4 := hid (row_in rt XZ.out)
  clear rt qt jt bt t0 t1 t2 t3 t4 t5 qk jk bk k0 k1 k2 k3 k4 k5 c0 c1 c2 c3 c4 c5 CO CR RU s1 B3 I3 R3 Q3
  generalize hwq : wt = w4 at *
  clear hwq
  have hnn : (UN == UN) = true := by simp
  have hff : (UF == UF) = true := by simp
  have hee : (UE == UE) = true := by simp
  go_wp2_with (go_at_call 16; refine (awake_any _).mono ?_; rintro e w5 ⟨rfl, q5⟩)
  refine (same_in (x := ⟨xa, xn, xc⟩) (y := ⟨ya, yn, yc⟩) (R4.out.q q5) (Y4.out.q q5) BX.out).mono ?_
  rintro e w6 ⟨rfl, q6⟩
  have Q6 := hid (Q4.out.trans (q5.trans q6))
  have I6 := hid (I4.out.q (q5.trans q6))
  have c3 := (B4.out.q (q5.trans q6)).c3
  dsimp only at c3
  clear q5 q6 B4 R4 Y4 I4
  go_wp2_with fail
  refine (same_in (x := ⟨some ⟨g, 0, none⟩, pn, pn⟩) (y := ⟨pa, pn, pc⟩) I6.out (HP.out.q Q6.out) (by show pn ≤ _; omega)).mono ?_
  rintro e w7 ⟨rfl, q7⟩
  have Q7 := hid (Q6.out.trans q7)
  clear q7
  go_wp2
  go_ret
  exact ⟨by first | rfl | simp, Q7.out⟩

set_option maxRecDepth 100000 in
theorem lifted (os : Os) (started : os.Started) (H : Type) (enc : TypeId × Value → H) :
    ReturnsInHanded {} Try.checked os 5 .any (Rows.guardUnprotectsSpec.pre6 enc Try.prog Try.f5 Rows.guardUnprotectsRow.domain false) (Rows.guardUnprotectsSpec.post enc Try.prog Try.f5 false true false false) := by
  refine returnsInHanded_of_change_sized (C := Try.checked) own_knob started (by kernel_rfl) Try.func5
    (ChangeSpec.witness6 (enc := enc) (C := Try.checked) false ⟨#[], #[.agg #[.slice none 0 0, .slice none 0 0, .slice none 0 0, .slice none 0 0, .int .i64 0, .int .i64 0]], []⟩ 8 (by kernel_rfl) (by kernel_rfl) (by kernel_rfl) (by kernel_rfl)) ?_
  intro W base args ds gs before hval0 hW hcnd hsz0 _
  have hval : ∀ (j : Nat) t v, Try.f5.params[j]? = some t → args[j]? = some v → Value.okWide Try.prog W .any base t v := hval0
  have hsz : (DataW.weightsEach Try.prog (Try.f5.params.toList ++ Rows.guardUnprotectsSpec.plain.varTypes Try.prog) (ds ++ gs)).all (· ≤ reachBytes) = true := hsz0
  have hW' := hW
  obtain ⟨p, q, hA0, hV, rfl, hfz, hnd⟩ := hW
  have hA : DataW.TrodAll enc Try.prog W 0 (fun _ => true) true Try.f5.params.toList args.toList ds p := hA0
  rw [Try.params5] at hA hval hsz
  obtain ⟨v0, vs0, d0, ds0, p0, q0, hargs, rfl, rfl, h0, r0⟩ := trodAll_cons hA
  obtain ⟨rfl, rfl, rfl⟩ := trodAll_nil r0
  obtain rfl : args = #[v0] := by cases args; simp_all
  obtain ⟨rfl, rfl⟩ := trodVars_none hV
  obtain ⟨cs0, rfl, hcs0⟩ := okWide_struct Try.underlying51 (hval 0 51 v0 rfl rfl)
  have k0 := h0
  have lt0 : ∀ x ∈ p0, x.block < W.heap.size := by obtain ⟨m, hm⟩ := k0; exact DataW.trod_lt m _ _ _ hm
  obtain ⟨kb0, ib0, hb0, pb0, at0, hi0, kz0, iz0, hz0, pz0, rfl, hc0⟩ := open_sealed h0 hcs0
  have ft0 := sealed_fit hsz (j := 0) rfl rfl hc0
  clear hA0 hval0
  refine (walk kb0 ib0 hb0 pb0 at0 hi0 kz0 iz0 hz0 pz0 W hc0.ck hc0.cp hc0.cc hc0.cn ft0.1 ft0.2.1 ft0.2.2.1 ft0.2.2.2).mono fun e W' ⟨he, bel⟩ => ?_
  subst he
  exact ⟨_, rfl, _, _, _, [], _, [], hW', trodAll_mk1 (shut_bool Try.underlying4 _), (trodAll_cons_mk (Below.trod laid_out (by kernel_rfl) (of_decide_eq_true (by kernel_rfl)) k0 bel lt0) trodAll_mk0), rfl, bel.frame _, fun h => by cases h⟩

theorem over : Rows.guardUnprotectsRow.holds Try.pinned (OpenSpec.ofChange Rows.guardUnprotectsSpec) :=
  OpenClaim.holds_of_wide 5 Try.f5 rfl rfl rfl rfl rfl rfl rfl ⟨rfl, rfl, rfl, rfl, rfl⟩ rfl rfl rfl rfl rfl (by kernel_rfl) Try.func5 (by kernel_rfl)
    (of_decide_eq_true (by kernel_rfl)) (by unfold Func.isWrapper; first | (rw [if_pos (by decide +kernel)]; kernel_rfl) | (rw [if_neg (by decide +kernel)]; exact ⟨rfl, rfl⟩))
    (fun os started H enc _ => lifted os started H enc)

end Go.Proofs.Ytihmlfpfpadfpaa.guardUnprotects
namespace Go.Proofs.Ytihmlfpfpadfpaa

/-- The statement. -/
theorem guardUnprotects_holds : Rows.GuardUnprotectsSaid := guardUnprotects.over
#print axioms guardUnprotects_holds
end Go.Proofs.Ytihmlfpfpadfpaa
