/-
  Digest is the document's digest of any bytes, and leaves them as they were.
-/
import Derived.Test.YtnoapfhbckebiaaRows
import Derived.Test.YtnoapfhbckebiaaAwake
import Derived.Test.YtnoapfhbckebiaaRDig
import Derived.Test.YtnoapfhbckebiaaOpen
import Derived.WalkKit
import Derived.ProofKit
import Derived.OpenShut
import Derived.ShutString
import Derived.ChangeOld
import Derived.Below
import Derived.SizedLaws
namespace Go.Proofs.Ytnoapfhbckebiaa.primDigests
open Go.ChangeShapes Go.WideShapes Go.ChangeAt Go.RowKit
open Go.ChangeMaps (open_string shut_string)
set_option linter.unusedVariables false

set_option maxRecDepth 20000
theorem same_yes (a1 a2 : Option Addr) (n c1 c2 : Nat) (xs : List Int) (w : World) (l1 : xs.length = n) (b1 : n ≤ 140737488355328) (h1 : Seg w a1 xs) (h2 : Seg w a2 xs) :
    Calls Try.prog 12 #[.slice a1 n c1, .slice a2 n c2] w fun e w' => e = .returned (.bool true) ∧ Q w w' := by
  refine (same_any a1 a2 n n c1 c2 xs xs w l1 l1 (by omega) (by omega) h1 h2).mono ?_
  rintro e w' ⟨rfl, h⟩
  exact ⟨by simp, h⟩
set_option maxRecDepth 20000 in
set_option maxHeartbeats 4000000 in
theorem walk (a : Option Addr) (n c : Nat) (zs : List Int) (w : World) (hl : zs.length = n) (hn : n ≤ 140737488355328) (hz : ∀ y ∈ zs, 0 ≤ y ∧ y < 256) (hseg : Seg w a zs) :
    Calls Try.prog 3 #[.slice a n c] w fun r w' => r = .returned (.bool true) ∧ Below w.heap.size w w' := by
  have HL := hid hl
  have HS := hid hseg
  have HZ := hid hz
  clear hl hseg hz
  go_enter Try.func3, Try.ntmps3
  go_wp2_with fail
  refine (rcopy_any a n c zs w HL.out hn HS.out).mono ?_
  rintro e w1 ⟨g, rfl, q1, o1, g1⟩
  have Q1 := hid q1
  have O1 := hid o1
  clear q1 o1 g1
  go_wp2_with fail
  refine (digest_any (some ⟨g, 0, none⟩) n n zs w1 HL.out hn HZ.out O1.out.seg).mono ?_
  rintro e w3 ⟨rfl, q3⟩
  have Q3 := hid (Q1.out.trans q3)
  have S3 := hid (O1.out.seg.q q3)
  have HTL := hid (dg_len zs)
  have RD := hid (fun u (hu : Q w u) => rdigest_any a n c zs u HL.out hn HZ.out (HS.out.q hu))
  clear q3 O1 Q1
  generalize dg zs = ts at *
  go_wp2_with (refine wpList_store_row rfl 24 _ _ rfl w3.heap.size (u8s ts).toArray rfl rfl 24 _ (heap_alloc_new w3 _) (arr_info _ HTL.out) (arr_sizes (List.replicate 16 0) _ rfl HTL.out) (arr_one _) ?_; refine Hid.out ?_)
  refine hid ?_
  generalize hw4 : World.setRow _ _ _ = w4
  have q34 : Q w3 w4 := by
    have k4 : Keep (fun i => i = w3.heap.size) w3 w4 := by rw [← hw4]; exact ((Keep.refl (fun i => i = w3.heap.size) w3).alloc _).setRow _ _ (.inl rfl)
    exact k4.below (Q.refl _) (Nat.le_refl _) (fun i e => by omega)
  have T4 := hid (seg_arr (show w4.heap[w3.heap.size]? = some (.cells (u8s ts).toArray 24 (0, 0)) from by rw [← hw4]; exact setRow_heap _ _ _ _ 24 _ (heap_alloc_new w3 _)))
  have Q4 := hid (Q3.out.trans q34)
  have S4 := hid (S3.out.q q34)
  clear hw4 q34 Q3 S3
  generalize w3.heap.size = tg at *
  go_wp2_with fail
  have s0 : Q w4 w4 := Q.refl _
  go_region_held3 (fun w' => Q w4 w') (first | assumption | (apply Q.drew; assumption) | (apply Q.drewN; assumption))
    (first
      | (go_at_call 11; refine (awake_any _).mono ?_; rintro e w5 ⟨rfl, q5⟩; have k5 : Q w4 w5 := Q.trans (by assumption) q5; clear q5)
      | (go_at_call 13; refine (RD.out _ (Q4.out.trans (by assumption))).mono ?_; rintro e w6 ⟨g6, rfl, q6, r6, n6⟩; have k6 : Q w4 w6 := Q.trans (by assumption) q6; have R6 := hid r6; clear q6 r6 n6)
      | (go_at_call 12; have t := K7.out; refine (same_yes (some ⟨g, 0, none⟩) a n n c zs _ HL.out hn (S4.out.q (by assumption)) ((HS.out.q Q4.out).q (by assumption))).mono ?_; rintro e w8 ⟨rfl, q8⟩; have k8 : Q w4 w8 := Q.trans (by assumption) q8; clear q8)
      | (go_at_call 12; refine (same_yes (some ⟨tg, 0, none⟩) (some ⟨g6, 0, none⟩) 16 16 16 ts _ HTL.out (by omega) (T4.out.q (by assumption)) (Row.seg (Sub.q R6.out (by repeat (first | exact Q.refl _ | apply Q.drewN | apply Q.drew))))).mono ?_; rintro e w7 ⟨rfl, q7⟩; have k7 : Q w4 w7 := Q.trans (by assumption) q7; have K7 := hid k7; clear q7))
  have K8 := hid (Q4.out.trans k8)
  clear k5 k6 k7 t s0
  go_wp2
  go_ret
  exact ⟨by first | rfl | simp, K8.out⟩

set_option maxRecDepth 100000 in
theorem lifted (os : Os) (started : os.Started) (H : Type) (enc : TypeId × Value → H) :
    ReturnsInHanded {} Try.checked os 3 .any (Rows.primDigestsSpec.pre6 enc Try.prog Try.f3 Rows.primDigestsRow.domain false) (Rows.primDigestsSpec.post enc Try.prog Try.f3 false true false false) := by
  refine returnsInHanded_of_change_sized (C := Try.checked) own_knob started (by kernel_rfl) Try.func3
    (ChangeSpec.witness6 (enc := enc) (C := Try.checked) false ⟨#[], #[.slice none 0 0], []⟩ 8 (by kernel_rfl) (by kernel_rfl) (by kernel_rfl) (by kernel_rfl)) ?_
  intro W base args ds gs before hval0 hW hcnd hsz0 _
  have hval : ∀ (j : Nat) t v, Try.f3.params[j]? = some t → args[j]? = some v → Value.okWide Try.prog W .any base t v := hval0
  have hsz : (DataW.weightsEach Try.prog (Try.f3.params.toList ++ Rows.primDigestsSpec.plain.varTypes Try.prog) (ds ++ gs)).all (· ≤ reachBytes) = true := hsz0
  have hW' := hW
  obtain ⟨p, q, hA0, hV, rfl, hfz, hnd⟩ := hW
  have hA : DataW.TrodAll enc Try.prog W 0 (fun _ => true) true Try.f3.params.toList args.toList ds p := hA0
  rw [Try.params3] at hA hval hsz
  obtain ⟨v0, vs0, d0, ds0, p0, q0, hargs, rfl, rfl, h0, r0⟩ := trodAll_cons hA
  obtain ⟨rfl, rfl, rfl⟩ := trodAll_nil r0
  obtain rfl : args = #[v0] := by cases args; simp_all
  obtain ⟨rfl, rfl⟩ := trodVars_none hV
  obtain ⟨a0, len0, cap0, rfl⟩ := okWide_slice Try.underlying22 (hval 0 22 v0 rfl rfl)
  have k0 := h0
  have lt0 : ∀ x ∈ p0, x.block < W.heap.size := by obtain ⟨m, hm⟩ := k0; exact DataW.trod_lt m _ _ _ hm
  obtain ⟨z0, zl0, zs0, zb0, zc0, ze0, zd0⟩ := open_bytes h0
  have zn0 := len_le_bytes hsz (j := 0) rfl rfl zd0
  clear hA0 hval0
  refine (walk a0 len0 cap0 z0 W zl0 (by omega) zb0 zs0).mono fun e W' ⟨he, bel⟩ => ?_
  subst he
  exact ⟨_, rfl, _, _, _, [], _, [], hW', trodAll_mk1 (shut_bool Try.underlying4 _), (trodAll_cons_mk (Below.trod laid_out (by kernel_rfl) (of_decide_eq_true (by kernel_rfl)) k0 bel lt0) trodAll_mk0), rfl, bel.frame _, fun h => by cases h⟩

theorem over : Rows.primDigestsRow.holds Try.pinned (OpenSpec.ofChange Rows.primDigestsSpec) :=
  OpenClaim.holds_of_wide 3 Try.f3 rfl rfl rfl rfl rfl rfl rfl ⟨rfl, rfl, rfl, rfl, rfl⟩ rfl rfl rfl rfl rfl (by kernel_rfl) Try.func3 (by kernel_rfl)
    (of_decide_eq_true (by kernel_rfl)) (by unfold Func.isWrapper; first | (rw [if_pos (by decide +kernel)]; kernel_rfl) | (rw [if_neg (by decide +kernel)]; exact ⟨rfl, rfl⟩))
    (fun os started H enc _ => lifted os started H enc)

end Go.Proofs.Ytnoapfhbckebiaa.primDigests
namespace Go.Proofs.Ytnoapfhbckebiaa

/-- The statement. -/
theorem primDigests_holds : Rows.PrimDigestsSaid := primDigests.over
#print axioms primDigests_holds
end Go.Proofs.Ytnoapfhbckebiaa
