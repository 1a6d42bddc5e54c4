/-
  A token proves its address, and tells its id, until its time is over, and not later.
-/
import Derived.Test.YtnnjogfpapndaaaRows
import Derived.Test.YtnnjogfpapndaaaRMf
import Derived.Test.YtnnjogfpapndaaaOpenI
import Derived.Test.YtnnjogfpapndaaaSame
import Derived.Test.YtnnjogfpapndaaaPrf
import Derived.WalkKit
import Derived.ProofKit
import Derived.OpenShut
import Derived.ChangeOld
import Derived.Below
import Derived.SizedLaws
namespace Go.Proofs.Ytnnjogfpapndaaa.routeProves
open Go.ChangeShapes Go.WideShapes Go.ChangeAt Go.RowKit
set_option linter.unusedVariables false
set_option maxRecDepth 20000

theorem same_rows {w : World} {x y : Sv} {zs : List Int} (hx : In w x zs) (hy : In w y zs) (hb : x.n ≤ 140737488355328) :
    Calls Try.prog 16 #[.slice x.a x.n x.c, .slice y.a y.n y.c] w fun e w' => e = .returned (.bool true) ∧ Q w w' := by
  refine (same_any x.a y.a x.n y.n x.c y.c zs zs w hx.l hy.l (by omega) (by have := hx.l; have := hy.l; omega) hx.s hy.s).mono ?_
  rintro e w' ⟨rfl, h⟩
  exact ⟨by simp, h⟩
theorem tkE_ok {kn dn : Nat} {addr until_ : Int} (h : tkE kn addr until_ dn = 0) : kn = 16 ∧ wiB addr 4294967295 = true ∧ wiB until_ 4611686018427387903 = true ∧ dn ≤ 20 := by
  unfold tkE at h
  split at h
  · next h1 =>
    split at h
    · next h2 =>
      split at h
      · next h3 =>
        split at h
        · next h4 => exact ⟨h1, h2, h3, h4⟩
        · cases h
      · cases h
    · cases h
  · cases h
/-- The law's argument in its block. -/
def AB (w : World) (g : Nat) (k i t : Sv) (addr frm until_ now : Int) : Prop := w.heap[g]? = some (.cells (askcells k addr frm until_ now i t) 41 (0, 0))
section
variable {w w' : World} {g : Nat} {k i t : Sv} {addr frm until_ now : Int}
theorem AB.q (x : AB w g k i t addr frm until_ now) (q : Q w w') : AB w' g k i t addr frm until_ now := (Below.block q _ (lt_of_block x)).trans x
theorem AB.c0 (x : AB w g k i t addr frm until_ now) : w.cell? ⟨g, 0, none⟩ = some (.slice k.a k.n k.c) := by rw [cell_of_row w g 0 _ 41 (0, 0) x]; rfl
theorem AB.c1 (x : AB w g k i t addr frm until_ now) : w.cell? ⟨g, 1, none⟩ = some (.int .i64 addr) := by rw [cell_of_row w g 1 _ 41 (0, 0) x]; rfl
theorem AB.c3 (x : AB w g k i t addr frm until_ now) : w.cell? ⟨g, 3, none⟩ = some (.int .i64 until_) := by rw [cell_of_row w g 3 _ 41 (0, 0) x]; rfl
theorem AB.c4 (x : AB w g k i t addr frm until_ now) : w.cell? ⟨g, 4, none⟩ = some (.int .i64 now) := by rw [cell_of_row w g 4 _ 41 (0, 0) x]; rfl
theorem AB.c5 (x : AB w g k i t addr frm until_ now) : w.cell? ⟨g, 5, none⟩ = some (.slice i.a i.n i.c) := by rw [cell_of_row w g 5 _ 41 (0, 0) x]; rfl
end
set_option maxHeartbeats 16000000 in
theorem walk (k i t : Sv) (addr frm until_ now : Int) (ks is : List Int) (w : World) (hk : In w k ks) (hi : In w i is) (bk : k.n ≤ 140737488355328) (bi : i.n ≤ 140737488355328) (hnow : now ≤ 9223372036854775807) :
    Calls Try.prog 6 #[.agg (askcells k addr frm until_ now i t)] w fun r w' => r = .returned (.bool true) ∧ Below w.heap.size w w' := by
  obtain ⟨ka, kn, kc⟩ := k
  obtain ⟨ia, n, ic⟩ := i
  have HK := hid hk
  have HI := hid hi
  have LK := hid (show ks.length = kn from hk.l)
  have LI := hid (show is.length = n from hi.l)
  have HNOW := hid hnow
  clear hk hi hnow
  dsimp only at *
  go_enter Try.func6, Try.ntmps6
  go_wp2
  generalize hw0 : World.alloc w _ = v0
  have Q0 := hid (show Q w v0 from by rw [← hw0]; exact (Q.refl w).alloc _)
  have B := hid (show AB v0 w.heap.size ⟨ka, kn, kc⟩ ⟨ia, n, ic⟩ t addr frm until_ now from by rw [← hw0]; exact heap_alloc_new w _)
  clear hw0
  generalize w.heap.size = bx at *
  have c0 := B.out.c0
  have c1 := B.out.c1
  have c3 := B.out.c3
  have c5 := B.out.c5
  dsimp only at c0 c5
  have s0 : Q v0 v0 := Q.refl _
  have CK := hid (fun u (hu : Q v0 u) => rcopy_any ka kn kc ks u LK.out (by omega) ((HK.out.s.q Q0.out).q hu))
  have CI := hid (fun u (hu : Q v0 u) => rcopy_any ia n ic is u LI.out (by omega) ((HI.out.s.q Q0.out).q hu))
  have TK := hid (fun (g1 g2 : Nat) u (h1 : In u ⟨some ⟨g1, 0, none⟩, kn, kn⟩ ks) (h2 : In u ⟨some ⟨g2, 0, none⟩, n, n⟩ is) => token_any ⟨some ⟨g1, 0, none⟩, kn, kn⟩ ⟨some ⟨g2, 0, none⟩, n, n⟩ ks is addr until_ u h1 h2)
  dsimp only at TK
  obtain ⟨E, hE⟩ : ∃ E, tkE kn addr until_ n = E := ⟨_, rfl⟩
  simp only [hE] at TK
  have HE := hid hE
  clear hE
  go_region_held3 (fun u => Q v0 u ∧ u.cell? ⟨bx, 0, none⟩ = some (.slice ka kn kc) ∧ u.cell? ⟨bx, 1, none⟩ = some (.int .i64 addr) ∧ u.cell? ⟨bx, 3, none⟩ = some (.int .i64 until_) ∧ u.cell? ⟨bx, 5, none⟩ = some (.slice ia n ic)) (repeat (first | (with_reducible assumption) | (with_reducible apply Q.drew) | (with_reducible apply Q.drewN) | (with_reducible refine dcel ?_) | (with_reducible refine dcelN ?_) | (with_reducible apply And.intro)))
    (first
      | (go_at_call_of 9 (Value.slice ka kn kc); refine (CK.out _ (by repeat (first | (with_reducible assumption) | (with_reducible exact Q.refl _) | (with_reducible apply Q.drew) | (with_reducible apply Q.drewN)))).mono ?_; rintro e v1 ⟨g1, rfl, q1, o1, l1⟩; have j1 : Q v0 v1 := Q.trans (by repeat (first | (with_reducible assumption) | (with_reducible exact Q.refl _) | (with_reducible apply Q.drew) | (with_reducible apply Q.drewN))) q1; have x0 := (B.out.q j1).c0; have x1 := (B.out.q j1).c1; have x3 := (B.out.q j1).c3; have x5 := (B.out.q j1).c5; dsimp only at x0 x5; have I1 := hid (show In v1 ⟨some ⟨g1, 0, none⟩, kn, kn⟩ ks from ⟨o1.seg, LK.out, HK.out.z⟩); skip)
      | (go_at_call_of 9 (Value.slice ia n ic); refine (CI.out _ (by repeat (first | (with_reducible assumption) | (with_reducible exact Q.refl _) | (with_reducible apply Q.drew) | (with_reducible apply Q.drewN)))).mono ?_; rintro e v2 ⟨g2, rfl, q2, o2, l2⟩; have j2 : Q v0 v2 := Q.trans (by repeat (first | (with_reducible assumption) | (with_reducible exact Q.refl _) | (with_reducible apply Q.drew) | (with_reducible apply Q.drewN))) q2; have y0 := (B.out.q j2).c0; have y1 := (B.out.q j2).c1; have y3 := (B.out.q j2).c3; have y5 := (B.out.q j2).c5; dsimp only at y0 y5; have I2 := hid (show In v2 ⟨some ⟨g2, 0, none⟩, n, n⟩ is from ⟨o2.seg, LI.out, HI.out.z⟩); have K2 := hid (I1.out.q (Q.trans (by repeat (first | (with_reducible assumption) | (with_reducible exact Q.refl _) | (with_reducible apply Q.drew) | (with_reducible apply Q.drewN))) q2)); skip)
      | (go_at_call 17; refine (TK.out g1 g2 _ (K2.out.q (by repeat (first | (with_reducible assumption) | (with_reducible exact Q.refl _) | (with_reducible apply Q.drew) | (with_reducible apply Q.drewN)))) (I2.out.q (by repeat (first | (with_reducible assumption) | (with_reducible exact Q.refl _) | (with_reducible apply Q.drew) | (with_reducible apply Q.drewN))))).mono ?_; rintro e v3 ⟨⟨ta, tn, tc⟩, rfl, q3, r3, n3⟩; have j3 : Q v0 v3 := Q.trans (by repeat (first | (with_reducible assumption) | (with_reducible exact Q.refl _) | (with_reducible apply Q.drew) | (with_reducible apply Q.drewN))) q3; have z0 := (B.out.q j3).c0; have z1 := (B.out.q j3).c1; have z3 := (B.out.q j3).c3; have z5 := (B.out.q j3).c5; dsimp only at z0 z5; skip))
  have Q3 := hid (Q0.out.trans j3)
  have B3 := hid (B.out.q j3)
  have R3 := hid r3
  clear c0 c1 c3 c5 x0 x1 x3 x5 y0 y1 y3 y5 z0 z1 z3 z5 q1 q2 q3 o1 o2 l1 l2 r3 n3 j1 j2 j3 I1 I2 K2 s0 CK CI TK
  by_cases hE : E = 0
  rotate_left
  · have hne : (E != 0) = true := by simp [hE]
    have ht0 : tn = 0 := by have h := R3.out; rw [if_neg hE] at h; exact (Row.len h).symm
    subst ht0
    clear hE
    go_wp2_with fail
    refine (awake_any v3).mono ?_
    rintro e ux ⟨rfl, q⟩
    have UX := hid (Q3.out.trans q)
    clear q
    go_wp2
    go_ret
    exact ⟨by first | rfl | simp, UX.out⟩
  subst hE
  obtain ⟨h16, ha, hu, h20⟩ := tkE_ok HE.out
  subst h16
  have T3 := hid (show In v3 ⟨ta, tn, tc⟩ (toL ks addr until_ is) from row_in (by have h := R3.out; rw [if_pos rfl] at h; exact h) (toL_by HI.out.z))
  have htn : Hid (tn ≤ 100) := by have h := T3.out.l; rw [toL_len, LI.out] at h; dsimp only at h; exact hid (by omega)
  have HA := hid (And.intro ha hu)
  have H20 := hid (show is.length ≤ 20 from by rw [LI.out]; exact h20)
  clear ha hu h20 R3 HE
  have c0 := B3.out.c0
  have c1 := B3.out.c1
  have c4 := B3.out.c4
  dsimp only at c0
  clear B
  have B := B3
  clear B3
  have s0 : Q v3 v3 := Q.refl _
  have CK := hid (fun u (hu : Q v3 u) => rcopy_any ka 16 kc ks u LK.out (by omega) ((HK.out.s.q Q3.out).q hu))
  have CT := hid (fun u (hu : Q v3 u) => rcopy_any ta tn tc (toL ks addr until_ is) u T3.out.l (by have := htn.out; omega) (T3.out.s.q hu))
  have PR := hid (fun (g1 g2 : Nat) u (h1 : In u ⟨some ⟨g1, 0, none⟩, 16, 16⟩ ks) (h2 : In u ⟨some ⟨g2, 0, none⟩, tn, tn⟩ (toL ks addr until_ is)) => proof_ok ⟨some ⟨g1, 0, none⟩, 16, 16⟩ g2 tn tn ks is addr until_ now u h1 rfl HA.out.1 HA.out.2 HI.out.z H20.out h2 (Nat.le_refl _) HNOW.out)
  dsimp only at PR
  have TB := hid (toL_by (ks := ks) (addr := addr) (until_ := until_) HI.out.z)
  go_wp2
  go_region_held3 (fun u => Q v3 u ∧ u.cell? ⟨bx, 0, none⟩ = some (.slice ka 16 kc) ∧ u.cell? ⟨bx, 1, none⟩ = some (.int .i64 addr) ∧ u.cell? ⟨bx, 4, none⟩ = some (.int .i64 now)) (repeat (first | (with_reducible assumption) | (with_reducible apply Q.drew) | (with_reducible apply Q.drewN) | (with_reducible refine dcel ?_) | (with_reducible refine dcelN ?_) | (with_reducible apply And.intro)))
    (first
      | (go_at_call_of 9 (Value.slice ka 16 kc); refine (CK.out _ (by repeat (first | (with_reducible assumption) | (with_reducible exact Q.refl _) | (with_reducible apply Q.drew) | (with_reducible apply Q.drewN)))).mono ?_; rintro e v4 ⟨g1, rfl, q1, o1, l1⟩; have j1 : Q v3 v4 := Q.trans (by repeat (first | (with_reducible assumption) | (with_reducible exact Q.refl _) | (with_reducible apply Q.drew) | (with_reducible apply Q.drewN))) q1; have x0 := (B.out.q j1).c0; have x1 := (B.out.q j1).c1; have x4 := (B.out.q j1).c4; dsimp only at x0; have I1 := hid (show In v4 ⟨some ⟨g1, 0, none⟩, 16, 16⟩ ks from ⟨o1.seg, LK.out, HK.out.z⟩); skip)
      | (go_at_call_of 9 (Value.slice ta tn tc); refine (CT.out _ (by repeat (first | (with_reducible assumption) | (with_reducible exact Q.refl _) | (with_reducible apply Q.drew) | (with_reducible apply Q.drewN)))).mono ?_; rintro e v5 ⟨g2, rfl, q2, o2, l2⟩; have j2 : Q v3 v5 := Q.trans (by repeat (first | (with_reducible assumption) | (with_reducible exact Q.refl _) | (with_reducible apply Q.drew) | (with_reducible apply Q.drewN))) q2; have y0 := (B.out.q j2).c0; have y1 := (B.out.q j2).c1; have y4 := (B.out.q j2).c4; dsimp only at y0; have I2 := hid (show In v5 ⟨some ⟨g2, 0, none⟩, tn, tn⟩ (toL ks addr until_ is) from ⟨o2.seg, T3.out.l, TB.out⟩); have K2 := hid (I1.out.q (Q.trans (by repeat (first | (with_reducible assumption) | (with_reducible exact Q.refl _) | (with_reducible apply Q.drew) | (with_reducible apply Q.drewN))) q2)); skip)
      | (go_at_call 19; refine (PR.out g1 g2 _ (K2.out.q (by repeat (first | (with_reducible assumption) | (with_reducible exact Q.refl _) | (with_reducible apply Q.drew) | (with_reducible apply Q.drewN)))) (I2.out.q (by repeat (first | (with_reducible assumption) | (with_reducible exact Q.refl _) | (with_reducible apply Q.drew) | (with_reducible apply Q.drewN))))).mono ?_; rintro e v6 ⟨⟨pa, pn, pc⟩, rfl, q3, r3, n3⟩; have j3 : Q v3 v6 := Q.trans (by repeat (first | (with_reducible assumption) | (with_reducible exact Q.refl _) | (with_reducible apply Q.drew) | (with_reducible apply Q.drewN))) q3; have z0 := (B.out.q j3).c0; have z1 := (B.out.q j3).c1; have z4 := (B.out.q j3).c4; dsimp only at z0; skip))
  have Q6 := hid (Q3.out.trans j3)
  have B6 := hid (B.out.q j3)
  have R6 := hid r3
  have d3 := B6.out.c3
  have d4 := B6.out.c4
  clear c0 c1 c4 x0 x1 x4 y0 y1 y4 z0 z1 z4 q1 q2 q3 o1 o2 l1 l2 r3 n3 j1 j2 j3 I1 I2 K2 s0 CK CT PR
  by_cases hlt : until_ < now
  · rw [show prE until_ now = 130 from by unfold prE; rw [if_pos hlt]]
    have hp0 : pn = 0 := by have h := R6.out; unfold prL at h; rw [if_pos hlt] at h; exact (Row.len h).symm
    subst hp0
    go_wp2_with fail
    refine (awake_any _).mono ?_
    rintro e ux ⟨rfl, q⟩
    have UX := hid (Q6.out.trans q)
    clear q
    go_wp2
    go_ret
    exact ⟨by first | rfl | simp, UX.out⟩
  · rw [show prE until_ now = 0 from by unfold prE; rw [if_neg hlt]]
    have X6 := hid (show In v6 ⟨pa, pn, pc⟩ is from row_in (by have h := R6.out; unfold prL at h; rw [if_neg hlt] at h; exact h) HI.out.z)
    have d5 := B6.out.c5
    dsimp only at d5
    have SM := hid (same_rows (x := ⟨pa, pn, pc⟩) (y := ⟨ia, n, ic⟩) X6.out (HI.out.q Q6.out) (by have h := X6.out.l; have := H20.out; dsimp only at h ⊢; omega))
    go_wp2_with fail
    refine SM.out.mono ?_
    rintro e uy ⟨rfl, q⟩
    have UY := hid (Q6.out.trans q)
    clear q SM
    go_wp2_with fail
    refine (awake_any uy).mono ?_
    rintro e ux ⟨rfl, q⟩
    have UX := hid (UY.out.trans q)
    clear q
    go_wp2
    go_ret
    exact ⟨by first | rfl | simp, UX.out⟩

set_option maxRecDepth 100000 in
theorem lifted (os : Os) (started : os.Started) (H : Type) (enc : TypeId × Value → H) :
    ReturnsInHanded {} Try.checked os 6 .any (Rows.routeProvesSpec.pre6 enc Try.prog Try.f6 Rows.routeProvesRow.domain false) (Rows.routeProvesSpec.post enc Try.prog Try.f6 false true false false) := by
  refine returnsInHanded_of_change_sized (C := Try.checked) own_knob started (by kernel_rfl) Try.func6
    (ChangeSpec.witness6 (enc := enc) (C := Try.checked) false ⟨#[], #[.agg #[.slice none 0 0, .int .i64 0, .int .i64 0, .int .i64 0, .int .i64 0, .slice none 0 0, .slice none 0 0]], []⟩ 8 (by kernel_rfl) (by kernel_rfl) (by kernel_rfl) (by kernel_rfl)) ?_
  intro W base args ds gs before hval0 hW hcnd hsz0 _
  have hval : ∀ (j : Nat) t v, Try.f6.params[j]? = some t → args[j]? = some v → Value.okWide Try.prog W .any base t v := hval0
  have hsz : (DataW.weightsEach Try.prog (Try.f6.params.toList ++ Rows.routeProvesSpec.plain.varTypes Try.prog) (ds ++ gs)).all (· ≤ reachBytes) = true := hsz0
  have hW' := hW
  obtain ⟨p, q, hA0, hV, rfl, hfz, hnd⟩ := hW
  have hA : DataW.TrodAll enc Try.prog W 0 (fun _ => true) true Try.f6.params.toList args.toList ds p := hA0
  rw [Try.params6] at hA hval hsz
  obtain ⟨v0, vs0, d0, ds0, p0, q0, hargs, rfl, rfl, h0, r0⟩ := trodAll_cons hA
  obtain ⟨rfl, rfl, rfl⟩ := trodAll_nil r0
  obtain rfl : args = #[v0] := by cases args; simp_all
  obtain ⟨rfl, rfl⟩ := trodVars_none hV
  obtain ⟨cs0, rfl, hcs0⟩ := okWide_struct Try.underlying41 (hval 0 41 v0 rfl rfl)
  have k0 := h0
  have lt0 : ∀ x ∈ p0, x.block < W.heap.size := by obtain ⟨m, hm⟩ := k0; exact DataW.trod_lt m _ _ _ hm
  obtain ⟨s0, n1, n2, n3, n4, s5, s6, z0, z5, z6, rfl, hc0⟩ := ask_open h0 hcs0
  have ft0 := ask_fit hsz (j := 0) rfl rfl hc0
  clear hA0 hval0
  refine (walk s0 s5 s6 n1 n2 n3 n4 z0 z5 W hc0.i0 hc0.i5 (by have := ft0.1; omega) (by have := ft0.2.1; omega) hc0.b4.2).mono fun e W' ⟨he, bel⟩ => ?_
  subst he
  exact ⟨_, rfl, _, _, _, [], _, [], hW', trodAll_mk1 (shut_bool Try.underlying4 _), (trodAll_cons_mk (Below.trod laid_out (by kernel_rfl) (of_decide_eq_true (by kernel_rfl)) k0 bel lt0) trodAll_mk0), rfl, bel.frame _, fun h => by cases h⟩

theorem over : Rows.routeProvesRow.holds Try.pinned (OpenSpec.ofChange Rows.routeProvesSpec) :=
  OpenClaim.holds_of_wide 6 Try.f6 rfl rfl rfl rfl rfl rfl rfl ⟨rfl, rfl, rfl, rfl, rfl⟩ rfl rfl rfl rfl rfl (by kernel_rfl) Try.func6 (by kernel_rfl)
    (of_decide_eq_true (by kernel_rfl)) (by unfold Func.isWrapper; first | (rw [if_pos (by decide +kernel)]; kernel_rfl) | (rw [if_neg (by decide +kernel)]; exact ⟨rfl, rfl⟩))
    (fun os started H enc _ => lifted os started H enc)

end Go.Proofs.Ytnnjogfpapndaaa.routeProves
namespace Go.Proofs.Ytnnjogfpapndaaa

/-- The statement. -/
theorem routeProves_holds : Rows.RouteProvesSaid := routeProves.over
#print axioms routeProves_holds
end Go.Proofs.Ytnnjogfpapndaaa
