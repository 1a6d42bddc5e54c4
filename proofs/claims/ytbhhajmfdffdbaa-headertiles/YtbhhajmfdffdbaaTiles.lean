/-
  The packets of a datagram follow one another without a gap from its beginning, each with its header inside it.
-/
import Derived.Test.YtbhhajmfdffdbaaRows
import Derived.Test.YtbhhajmfdffdbaaAwake
import Derived.Test.YtbhhajmfdffdbaaTileM
import Derived.Test.YtbhhajmfdffdbaaOpen
import Derived.WalkKit
import Derived.ProofKit
import Derived.OpenShut
import Derived.ShutString
import Derived.ChangeOld
import Derived.Below
import Derived.SizedLaws
namespace Go.Proofs.Ytbhhajmfdffdbaa.headerTiles
open Go.ChangeShapes Go.WideShapes Go.ChangeAt Go.RowKit
open Go.ChangeMaps (open_string shut_string)
set_option linter.unusedVariables false

set_option maxRecDepth 20000 in
set_option maxHeartbeats 8000000 in
theorem walk (a : Option Addr) (n c : Nat) (zs : List Int) (cid : Int) (w : World) (hl : zs.length = n) (hz : ∀ y ∈ zs, 0 ≤ y ∧ y < 256) (hn : n ≤ 140737488355328) (hs : Seg w a zs) :
    Calls Try.prog 7 #[.slice a n c, .int .i64 cid] w fun e w' => e = .returned (.bool true) ∧ Below w.heap.size w w' := by
  have HL := hid hl
  have HZ := hid hz
  have HS := hid hs
  have HT := hid (splA_tiled (zs := zs) (cid := cid) hz)
  clear hl hz hs
  go_enter Try.func7, Try.ntmps7
  go_wp2_with fail
  refine (rcopy_any a n c zs w HL.out (by omega) HS.out).mono ?_
  rintro e w1 ⟨g1, rfl, hq1, hown, _⟩
  have Q1 := hid hq1
  have S1 := hid hown.seg
  clear hq1 hown
  go_wp2_with fail
  refine (split_any (some ⟨g1, 0, none⟩) n n zs cid w1 HL.out HZ.out (by omega) S1.out).mono ?_
  rintro e w2 ⟨⟨xa, xn, xc⟩, l, rfl, hq2, hp, hm⟩
  have Q2 := hid (show Q w w2 from Q1.out.trans hq2)
  have hxl : l.length = xn := hp.len
  have HP := hid hp
  have hsz2 := hq2.size
  generalize splA zs cid = D at *
  obtain ⟨L, er⟩ := D
  dsimp only at hm HT ⊢
  have hLl : L.length = xn := by rw [← hm]; simpa using hxl
  have HM := hid hm
  clear hm hq2 hp
  by_cases he : er = 0
  rotate_left
  · have he' : (er != 0) = true := by simp [he]
    have h0 : xn = 0 := by rw [← hLl, HT.out.2 he]; rfl
    subst h0
    clear he
    go_wp2_with (go_at_call 12; refine (awake_any w2).mono ?_; rintro e w3 ⟨rfl, hq3⟩; have HQ := hid hq3; clear hq3)
    go_ret
    exact ⟨by first | rfl | simp, Q2.out.trans HQ.out⟩
  subst he
  obtain ⟨⟨PE, hT⟩, hne⟩ := HT.out.1 rfl
  have hxn0 : 0 < xn := by
    rcases Nat.eq_zero_or_pos xn with h | h
    · rw [h] at hLl; exact absurd (List.length_eq_zero_iff.1 hLl) hne
    · exact h
  have HTI := hid hT
  have hx16 : xn ≤ 140737488355328 := by
    have h1 := tiled_le hT L.length (Nat.le_refl _)
    rw [hLl, HL.out] at h1
    have h2 := h1.2 hxn0
    omega
  clear hT hne HT
  go_wp2
  go_loopw [7, 27] (fun fv i wr => ∃ j : Nat, j ≤ xn ∧ i = .int .i64 j ∧ fv = .int .i64 (endAt L j) ∧ Q w wr ∧ Pcs w1.heap.size wr ⟨xa, xn, xc⟩ l ∧ w1.heap.size ≤ wr.heap.size) (fun _ i _ => ((xn : Int) - intOf i).toNat)
  case atStart => exact ⟨0, Nat.zero_le _, rfl, rfl, Q2.out, HP.out, hsz2⟩
  case round =>
    obtain ⟨j, hj, rfl, rfl, hq, hpw, hws⟩ := hrel
    have HQ := hid hq
    have HPW := hid hpw
    clear hq hpw
    by_cases hjn : j < xn
    · have hji : (j : Int) < (xn : Int) := by omega
      obtain ⟨g, off, H, dS, sS, tS, vS, fr, at_, en, ha, hc, _, hg⟩ := HPW.out.el (j := j) (by omega)
      dsimp only at ha
      subst ha
      rw [HM.out] at hg
      obtain ⟨t1, t2, t3, t4, t5⟩ := HTI.out.2 j (by omega)
      rw [hg] at t1 t2 t3 t4 t5
      dsimp only at t1 t2 t3 t4 t5
      have HE := hid (show endAt L (j + 1) = en from by unfold endAt; rw [if_neg (by omega), Nat.add_sub_cancel, hg])
      rw [HL.out] at t4
      rw [hLl] at t5
      have T5 := hid t5
      rw [← t1]
      clear hg t5
      have f0 := hc 0 _ rfl
      have f1 := hc 1 _ rfl
      have f2 := hc 2 _ rfl
      have f3 := hc 3 _ rfl
      have f4 := hc 4 _ rfl
      have f5 := hc 5 _ rfl
      have f6 := hc 6 _ rfl
      have f7 := hc 7 _ rfl
      have f8 := hc 8 _ rfl
      have f9 := hc 9 _ rfl
      rw [Nat.add_zero] at f0
      clear hc t1
      go_wp2_with (refine wpList_store_row rfl 51 _ _ rfl wr.heap.size (pcells H dS sS tS vS fr at_ en) rfl rfl 51 _ (heap_alloc_new wr _) (pcells_info _ _ _ _ _ _ _ _) rfl (pcells_one _ _ _ _ _ _ _ _) ?_; refine Hid.out ?_)
      refine hid ?_
      generalize hw3 : World.setRow _ _ _ = w3
      have k3 : Keep (fun i => i = wr.heap.size) wr w3 := by rw [← hw3]; exact ((Keep.refl (fun i => i = wr.heap.size) wr).alloc _).setRow _ _ (.inl rfl)
      have b3 : PBox w3 wr.heap.size H dS sS tS vS fr at_ en := by rw [← hw3]; exact setRow_heap _ _ _ _ 51 _ (heap_alloc_new wr _)
      clear hw3
      have q3 : Q w w3 := k3.below HQ.out HQ.out.size (fun i e => by have := HQ.out.size; omega)
      have HQ3 := hid q3
      have HP3 := hid (HPW.out.keep k3 (fun i e => .inr (by omega)))
      have hws3 : w1.heap.size ≤ w3.heap.size := by have := k3.size; omega
      have g0 : w3.cell? ⟨wr.heap.size, 0, none⟩ = some (.int .i64 H.kind) := b3.cell 0 _ rfl
      have g7 : w3.cell? ⟨wr.heap.size, 7, none⟩ = some (.int .i64 fr) := b3.cell 7 _ rfl
      have g8 : w3.cell? ⟨wr.heap.size, 8, none⟩ = some (.int .i64 at_) := b3.cell 8 _ rfl
      have g9 : w3.cell? ⟨wr.heap.size, 9, none⟩ = some (.int .i64 en) := b3.cell 9 _ rfl
      generalize wr.heap.size = pb at *
      have d1 : decide (at_ ≤ fr) = false := by simp; omega
      have d2 : decide (en < at_) = false := by simp; omega
      have d3 : decide ((n : Int) < en) = false := by simp; omega
      clear k3 b3 q3 f0 f1 f2 f3 f4 f5 f6 f7 f8 f9 HPW HQ
      by_cases hlast : j + 1 < xn
      · have d4 : decide ((j : Int) < (xn : Int) - 1) = true := by simp; omega
        have hk := T5.out (.inl hlast)
        generalize H.kind = kd at *
        rcases hk with rfl | rfl | rfl
        all_goals
          go_wp2
          go_roundw
          case rel => exact ⟨j + 1, by omega, by go_num, by rw [HE.out], HQ3.out, HP3.out, hws3⟩
          case measure => simp [intOf]; omega
      · have d4 : decide ((j : Int) < (xn : Int) - 1) = false := by simp; omega
        go_wp2
        go_roundw
        case rel => exact ⟨j + 1, by omega, by go_num, by rw [HE.out], HQ3.out, HP3.out, hws3⟩
        case measure => simp [intOf]; omega
    · obtain rfl : j = xn := by omega
      have hji : ¬ (j : Int) < (j : Int) := by omega
      have hpos : decide ((0 : Int) < (j : Int)) = true := by simp; omega
      have hpos' : (0 : Int) < (j : Int) := by omega
      go_wp2_with (go_at_call 12; refine (awake_any wr).mono ?_; rintro e w3 ⟨rfl, hq3⟩; have HQ3 := hid hq3; clear hq3)
      go_ret
      exact ⟨by first | rfl | simp, HQ.out.trans HQ3.out⟩

set_option maxRecDepth 100000 in
theorem lifted (os : Os) (started : os.Started) (H : Type) (enc : TypeId × Value → H) :
    ReturnsInHanded {} Try.checked os 7 .any (Rows.headerTilesSpec.pre6 enc Try.prog Try.f7 Rows.headerTilesRow.domain false) (Rows.headerTilesSpec.post enc Try.prog Try.f7 false true false false) := by
  refine returnsInHanded_of_change_sized (C := Try.checked) own_knob started (by kernel_rfl) Try.func7
    (ChangeSpec.witness6 (enc := enc) (C := Try.checked) false ⟨#[], #[.slice none 0 0, .int .i64 0], []⟩ 8 (by kernel_rfl) (by kernel_rfl) (by kernel_rfl) (by kernel_rfl)) ?_
  intro W base args ds gs before hval0 hW hcnd hsz0 _
  have hval : ∀ (j : Nat) t v, Try.f7.params[j]? = some t → args[j]? = some v → Value.okWide Try.prog W .any base t v := hval0
  have hsz : (DataW.weightsEach Try.prog (Try.f7.params.toList ++ Rows.headerTilesSpec.plain.varTypes Try.prog) (ds ++ gs)).all (· ≤ reachBytes) = true := hsz0
  have hW' := hW
  obtain ⟨p, q, hA0, hV, rfl, hfz, hnd⟩ := hW
  have hA : DataW.TrodAll enc Try.prog W 0 (fun _ => true) true Try.f7.params.toList args.toList ds p := hA0
  rw [Try.params7] at hA hval hsz
  obtain ⟨v0, vs0, d0, ds0, p0, q0, hargs, rfl, rfl, h0, r0⟩ := trodAll_cons hA
  obtain ⟨v1, vs1, d1, ds1, p1, q1, rfl, rfl, rfl, h1, r1⟩ := trodAll_cons r0
  obtain ⟨rfl, rfl, rfl⟩ := trodAll_nil r1
  obtain rfl : args = #[v0, v1] := by cases args; simp_all
  obtain ⟨rfl, rfl⟩ := trodVars_none hV
  obtain ⟨a0, len0, cap0, rfl⟩ := okWide_slice Try.underlying22 (hval 0 22 v0 rfl rfl)
  have k0 := h0
  have lt0 : ∀ x ∈ p0, x.block < W.heap.size := by obtain ⟨m, hm⟩ := k0; exact DataW.trod_lt m _ _ _ hm
  obtain ⟨z0, zl0, zs0, zb0, zc0, ze0, zd0⟩ := open_bytes h0
  have zn0 := len_le_bytes hsz (j := 0) rfl rfl zd0
  obtain ⟨a1, rfl, rfl, rfl, w1⟩ := open_int Try.underlying3 (hval 1 3 v1 rfl rfl) h1
  clear hA0 hval0
  refine (walk a0 len0 cap0 z0 a1 W zl0 zb0 (by omega) zs0).mono fun e W' ⟨he, bel⟩ => ?_
  subst he
  exact ⟨_, rfl, _, _, _, [], _, [], hW', trodAll_mk1 (shut_bool Try.underlying4 _), (trodAll_cons_mk (Below.trod laid_out (by kernel_rfl) (of_decide_eq_true (by kernel_rfl)) k0 bel lt0) (trodAll_cons_mk (shut_int Try.underlying3 w1) trodAll_mk0)), rfl, bel.frame _, fun h => by cases h⟩

theorem over : Rows.headerTilesRow.holds Try.pinned (OpenSpec.ofChange Rows.headerTilesSpec) :=
  OpenClaim.holds_of_wide 7 Try.f7 rfl rfl rfl rfl rfl rfl rfl ⟨rfl, rfl, rfl, rfl, rfl⟩ rfl rfl rfl rfl rfl (by kernel_rfl) Try.func7 (by kernel_rfl)
    (of_decide_eq_true (by kernel_rfl)) (by unfold Func.isWrapper; first | (rw [if_pos (by decide +kernel)]; kernel_rfl) | (rw [if_neg (by decide +kernel)]; exact ⟨rfl, rfl⟩))
    (fun os started H enc _ => lifted os started H enc)

end Go.Proofs.Ytbhhajmfdffdbaa.headerTiles
namespace Go.Proofs.Ytbhhajmfdffdbaa

/-- The statement. -/
theorem headerTiles_holds : Rows.HeaderTilesSaid := headerTiles.over
#print axioms headerTiles_holds
end Go.Proofs.Ytbhhajmfdffdbaa
