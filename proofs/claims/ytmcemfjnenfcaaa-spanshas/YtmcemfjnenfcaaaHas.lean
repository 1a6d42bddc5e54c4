/-
  Proved: for every slice of spans and every slice of ints the law turnpikelaw02.SpansHas returns true, and its arguments read as they did. No condition.
-/
import Derived.Test.YtmcemfjnenfcaaaRows
import Derived.Test.YtmcemfjnenfcaaaBig
import Derived.Test.YtmcemfjnenfcaaaRef
import Derived.Test.YtmcemfjnenfcaaaRefR
import Derived.Test.YtmcemfjnenfcaaaOpen
import Derived.WalkKit
import Derived.ProofKit
import Derived.OpenShut
import Derived.ShutString
import Derived.ChangeOld
import Derived.Below
import Derived.SizedLaws
namespace Go.Proofs.Ytmcemfjnenfcaaa.spansHas
open Go.ChangeShapes Go.WideShapes Go.ChangeAt Go.RowKit
open Go.ChangeMaps (open_string shut_string)
set_option linter.unusedVariables false

variable {W : World}

set_option maxHeartbeats 8000000 in
set_option maxRecDepth 100000 in
theorem walk (a : Option Addr) (n c : Nat) (zs : List Sp) (hl : zs.length = n) (hs : Seg W a zs) (hn : n * 16 ≤ 140737488351232) (b1 : Option Addr) (m1 c1 : Nat) (qs : List Int) (hl1 : qs.length = m1) (hs1 : SegN W b1 qs) (hm1 : m1 * 8 ≤ 140737488351232) :
    Calls Try.prog 5 #[.slice a n c, .slice b1 m1 c1] W fun e w' => e = .returned (.bool true) ∧ Below W.heap.size W w' := by
  have HS := hid hs
  have HL := hid hl
  have HS1 := hid hs1
  have HL1 := hid hl1
  clear hs hl hs1 hl1
  go_enter Try.func5, Try.ntmps5
  go_wp2_with fail
  refine (new_good 64 W (by omega) (by omega)).mono ?_
  rintro e w1 ⟨rfl, hd1, hq1, hsz1⟩
  have S1 := hid (st_new hd1)
  have Q1 := hid hq1
  clear hd1 hq1
  obtain ⟨rb, hrb⟩ : ∃ rb, rb = W.heap.size := ⟨_, rfl⟩
  rw [← hrb] at S1 hsz1 ⊢
  have HRB := hid hrb
  clear hrb
  go_wp2
  go_loopw [7, 28] (fun v7 v28 wr => ∃ k : Nat, ∃ a' : Option Addr, ∃ n' c' : Nat, ∃ floor : Int, ∃ xs : List Sp, ∃ ga : Option Addr, ∃ gn gc : Nat, ∃ gs : List Sp, k ≤ n ∧ v28 = .int .i64 k ∧ v7 = .slice ga gn gc ∧ gn ≤ k ∧ St wr rb a' n' c' 64 floor xs ∧ Ok 64 floor xs ∧ Own wr W.heap.size ga gn gc gs ∧ Laid floor xs gs ∧ blk ga ≠ some rb ∧ (∀ b, blk ga = some b → blk a' ≠ some b) ∧ (∀ b, blk a' = some b → W.heap.size ≤ b) ∧ Q W wr) (fun _ i _ => n - (intOf i).toNat)
  case atStart => exact ⟨0, none, 0, 0, 0, [], none, 0, 0, [], Nat.zero_le _, rfl, rfl, Nat.le_refl _, S1.out, ok_new (by omega) (by omega), own_nil _ _, laid_new, by simp [blk], by simp [blk], by simp [blk], Q1.out⟩
  case round =>
    obtain ⟨k, a', n', c', floor, xs, ga, gn, gc, gs, hk, rfl, rfl, hgn, hst, hok, hgo, hla, hgr, hga, hbl, hq⟩ := hrel
    have ST := hid hst
    have OK := hid hok
    have GO := hid hgo
    have LA := hid hla
    have GR := hid hgr
    have GA := hid hga
    have HBL := hid hbl
    have HQ := hid hq
    have hrl := hst.hd.lt
    have hWz := hq.size
    clear hst hok hgo hla hgr hga hbl hq
    by_cases hkn : k < n
    · obtain ⟨b, off, rfl, d0, d1, d2⟩ := seg_last (HS.out.q HQ.out) HL.out hkn
      have hlt' : (k : Int) < (n : Int) := by omega
      generalize zs.getD k (0, 0) = y at *
      have QX := hid ((Q.refl wr).alloc (.cells #[.int .i64 y.1, .int .i64 y.2] 49))
      have X1 := hid (one_new wr y)
      have SX := hid (ST.out.q QX.out)
      have GX := hid (GO.out.q QX.out)
      go_wp2_with fail
      refine (add_any rb a' n' c' 64 floor xs y.1 y.2 _ SX.out OK.out).mono ?_
      rintro e w2 ⟨rfl, ⟨a2, n2, c2, h2, hfr2⟩, k2⟩
      have hX2 : One w2 wr.heap.size y := X1.out.keep k2 (fun e => by
        rcases e with e | e
        · omega
        · have := (ST.out.own.lt _ e).2; omega)
      have hQ2 : Q W w2 := Q.st (HQ.out.trans QX.out) k2 (by rw [HRB.out]; exact Nat.le_refl _) HBL.out
      have hB2 : ∀ b, blk a2 = some b → W.heap.size ≤ b := row_new HBL.out (by have := QX.out.size; omega) hfr2
      have hG2 : Own w2 W.heap.size ga gn gc gs := GX.out.keep k2 (fun b hb e => by
        rcases e with e | e
        · exact GR.out (by rw [hb, e])
        · exact GA.out b hb e)
      have hGA2 : ∀ b, blk ga = some b → blk a2 ≠ some b := fun b hb e => by
        rcases hfr2 with h | h
        · exact GA.out b hb (by rw [← h]; exact e)
        · have := h b e; have := (GX.out.lt b hb).2; omega
      have x0 := hX2.c0
      have x1 := hX2.c1
      have hx2 := hX2.lt
      have S2 := hid h2
      have Q2 := hid hQ2
      have B2 := hid hB2
      have G2 := hid hG2
      have GA2 := hid hGA2
      clear h2 hQ2 hB2 hfr2 hG2 hGA2
      by_cases hE : adE y.1 y.2 = 0
      · have LA2 := hid (LA.out.add OK.out hE)
        have OK2 := hid (ad_ok OK.out y.1 y.2)
        rw [hE]
        generalize adF 64 floor y.1 y.2 xs = fl2 at *
        generalize adL 64 floor y.1 y.2 xs = xs2 at *
        generalize adN floor y.1 y.2 xs = N1 at *
        obtain ⟨ga3, gc3, w3, hr3, ho3, hf3, hk3⟩ := append_big (vb := 0) (p := y) G2.out (by omega) (by have := Q2.out.size; omega)
        have S3 := hid (S2.out.keep hk3 (fun e => GR.out e) (fun b hb e => GA2.out b e hb))
        have Q3 := hid (show Q W w3 from Q2.out.over G2.out hk3)
        have O3 := hid ho3
        have R3 := hid (show blk ga3 ≠ some rb from fun e => by
          rcases hf3 with h | h
          · exact GR.out (by rw [← h]; exact e)
          · have := h rb e; have := S2.out.hd.lt; omega)
        have A3 := hid (show ∀ b, blk ga3 = some b → blk a2 ≠ some b from fun b hb e => by
          rcases hf3 with h | h
          · exact GA2.out b (by rw [← h]; exact hb) e
          · have := h b hb; have := (S2.out.own.lt b e).2; omega)
        clear ho3 hk3 hf3 hX2
        go_wp2_with (at_builtin; refine Lib.wpList_append_run _ rfl _ _ _ _ rfl _ _ rfl rfl _ _ hr3 ?_)
        go_roundw
        case rel => exact ⟨k + 1, a2, n2, c2, fl2, xs2, ga3, gn + 1, gc3, gs ++ [y], by omega, by go_num, rfl, by omega, S3.out, OK2.out, O3.out, LA2.out, R3.out, A3.out, B2.out, Q3.out⟩
        case measure => simp [intOf]; omega
      · have hun := ad_err (most := 64) (floor := floor) (xs := xs) hE
        rw [hun.1, hun.2] at S2
        have hE21 : adE y.1 y.2 = 21 := by rcases adE_two y.1 y.2 with h | h; exact absurd h hE; exact h
        have hno : ¬ (0 ≤ y.1 ∧ y.1 ≤ y.2 ∧ y.2 ≤ 4611686018427387903) := fun h => hE (adE_zero.2 h)
        rw [hE21]
        generalize adN floor y.1 y.2 xs = N1 at *
        clear hun hX2 hE hE21
        by_cases t1 : 0 ≤ y.1
        · have t1' : decide (0 ≤ y.1) = true := by simp [t1]
          by_cases t2 : y.1 ≤ y.2
          · have t2' : decide (y.1 ≤ y.2) = true := by simp [t2]
            have t3 : ¬ y.2 ≤ 4611686018427387903 := fun h => hno ⟨t1, t2, h⟩
            clear hno
            go_wp2
            go_roundw
            case rel => exact ⟨k + 1, a2, n2, c2, floor, xs, ga, gn, gc, gs, by omega, by go_num, rfl, by omega, S2.out, OK.out, G2.out, LA.out, GR.out, GA2.out, B2.out, Q2.out⟩
            case measure => simp [intOf]; omega
          · have t2' : decide (y.1 ≤ y.2) = false := by simp [t2]
            clear hno
            go_wp2
            go_roundw
            case rel => exact ⟨k + 1, a2, n2, c2, floor, xs, ga, gn, gc, gs, by omega, by go_num, rfl, by omega, S2.out, OK.out, G2.out, LA.out, GR.out, GA2.out, B2.out, Q2.out⟩
            case measure => simp [intOf]; omega
        · have t1' : decide (0 ≤ y.1) = false := by simp [t1]
          clear hno
          go_wp2
          go_roundw
          case rel => exact ⟨k + 1, a2, n2, c2, floor, xs, ga, gn, gc, gs, by omega, by go_num, rfl, by omega, S2.out, OK.out, G2.out, LA.out, GR.out, GA2.out, B2.out, Q2.out⟩
          case measure => simp [intOf]; omega
    · obtain rfl : k = n := by omega
      have t0 := OK.out.f0
      have tl := OK.out.len
      have tn := ST.out.len
      have gl := GO.out.len
      go_wp2_with fail
      refine (floor_any rb 64 floor a' n' c' wr ST.out.hd).mono ?_
      rintro e w2 ⟨rfl, rfl⟩
      by_cases hf : 0 < floor
      · have hm := LA.out.many (by omega)
        have hm' : (64 : Int) < (gn : Int) := by omega
        have hmd : decide ((64 : Int) < (gn : Int)) = true := by simp; omega
        go_wp2_with fail
        refine (awake_any _).mono ?_
        rintro e w4 ⟨rfl, hq4⟩
        have Q4 := hid (HQ.out.trans hq4)
        clear hq4
        go_wp2
        go_ret
        exact ⟨rfl, Q4.out⟩
      · obtain rfl : floor = 0 := by omega
        have HB := hid (fun x => LA.out.hadB OK.out x)
        have GD := hid LA.out.good
        go_wp2
        generalize hws : wr = ws at *
        clear hws
        go_loopw [74] (fun v74 wx => ∃ i : Nat, i ≤ m1 ∧ v74 = .int .i64 i ∧ Q ws wx) (fun i _ => m1 - (intOf i).toNat)
        case atStart => exact ⟨0, Nat.zero_le _, rfl, Q.refl _⟩
        case round =>
          obtain ⟨i, hi, rfl, hqx⟩ := hrel
          have QX := hid hqx
          clear hqx
          by_cases hin : i < m1
          · obtain ⟨b, off, rfl, hcl⟩ := (HS1.out.q (HQ.out.trans QX.out)) (by intro e; have := HL1.out; rw [e] at this; simp at this; omega)
            have d0 := hcl i (by rw [HL1.out]; exact hin)
            have hlt' : (i : Int) < (m1 : Int) := by omega
            clear hcl
            generalize qs.getD i 0 = x at *
            go_wp2_with fail
            refine (has_any rb 64 0 a' n' c' xs wr x (ST.out.hd.q QX.out) (ST.out.own.seg.q QX.out) tn (by omega)).mono ?_
            rintro e w3 ⟨rfl, hq3⟩
            have Q3 := hid (QX.out.trans hq3)
            clear hq3
            go_wp2_with fail
            refine (in_any ga gn gc gs x w3 (GO.out.seg.q Q3.out) gl (by omega)).mono ?_
            rintro e w4 ⟨rfl, rfl⟩
            rw [HB.out x]
            have hbb : (inB gs x != inB gs x) = false := by simp
            generalize inB gs x = bb at *
            go_wp2
            go_roundw
            case rel => exact ⟨i + 1, by omega, by go_num, Q3.out⟩
            case measure => simp [intOf]; omega
          · obtain rfl : i = m1 := by omega
            generalize hwt : wr = wt at *
            clear hwt
            go_wp2
            go_loopw [88] (fun v88 wy => ∃ j : Nat, j ≤ gn ∧ v88 = .int .i64 j ∧ Q ws wy) (fun i _ => gn - (intOf i).toNat)
            case atStart => exact ⟨0, Nat.zero_le _, rfl, QX.out⟩
            case round =>
              obtain ⟨j, hj, rfl, hqy⟩ := hrel
              have QY := hid hqy
              clear hqy
              by_cases hjn : j < gn
              · obtain ⟨b, off, rfl, d0, d1, d2⟩ := seg_last (GO.out.seg.q QY.out) gl hjn
                have hlt' : (j : Int) < (gn : Int) := by omega
                have hmem : gs.getD j (0, 0) ∈ gs := by
                  rw [List.getD_eq_getElem?_getD, List.getElem?_eq_getElem (by omega)]; simp
                have hyb := GD.out _ hmem
                have HIN := hid (show ∀ x, (gs.getD j (0, 0)).1 ≤ x → x ≤ (gs.getD j (0, 0)).2 → hadB 0 xs x = true from fun x h1 h2 => by
                  rw [HB.out x, inB_iff]; exact ⟨_, hmem, h1, h2⟩)
                clear hmem
                generalize gs.getD j (0, 0) = y at *
                have hd : (y.2 - y.1).tdiv 2 = (y.2 - y.1) / 2 := Int.tdiv_eq_ediv_of_nonneg (by omega)
                have QA := hid (QY.out.trans ((Q.refl wr).alloc (.cells #[.int .i64 y.1, .int .i64 y.2] 49)))
                have Y0 := hid (one_new wr y)
                go_wp2_with fail
                refine (has_any rb 64 0 a' n' c' xs _ y.1 (ST.out.hd.q QA.out) (ST.out.own.seg.q QA.out) tn (by omega)).mono ?_
                rintro e w3 ⟨rfl, hq3⟩
                rw [HIN.out y.1 (by omega) (by omega)]
                have Y3 := Y0.out.q hq3
                have y0 := Y3.c0
                have y1 := Y3.c1
                have Q3 := hid (QA.out.trans hq3)
                have Y3' := hid Y3
                clear hq3 Y3
                go_wp2_with fail
                refine (has_any rb 64 0 a' n' c' xs _ y.2 (ST.out.hd.q Q3.out) (ST.out.own.seg.q Q3.out) tn (by omega)).mono ?_
                rintro e w4 ⟨rfl, hq4⟩
                rw [HIN.out y.2 (by omega) (by omega)]
                have Y4 := Y3'.out.q hq4
                have y40 := Y4.c0
                have y41 := Y4.c1
                have Q4 := hid (Q3.out.trans hq4)
                have hwa : IntKind.i64.wrap (y.2 - y.1) = y.2 - y.1 := by rw [IntKind.wrap_i64]; omega
                have hwb : IntKind.i64.wrap (y.1 + (y.2 - y.1) / 2) = y.1 + (y.2 - y.1) / 2 := by rw [IntKind.wrap_i64]; omega
                clear hq4 Y4 y0 y1
                go_wp2_with fail
                refine (has_any rb 64 0 a' n' c' xs _ (y.1 + (y.2 - y.1) / 2) (ST.out.hd.q Q4.out) (ST.out.own.seg.q Q4.out) tn (by omega)).mono ?_
                rintro e w5 ⟨rfl, hq5⟩
                rw [HIN.out (y.1 + (y.2 - y.1) / 2) (by omega) (by omega)]
                have Q5 := hid (Q4.out.trans hq5)
                clear hq5
                go_wp2
                go_roundw
                case rel => exact ⟨j + 1, by omega, by go_num, Q5.out⟩
                case measure => simp [intOf]; omega
              · obtain rfl : j = gn := by omega
                go_wp2_with fail
                refine (awake_any _).mono ?_
                rintro e w7 ⟨rfl, hq7⟩
                have Q7 := hid ((HQ.out.trans QY.out).trans hq7)
                clear hq7
                go_wp2
                go_ret
                exact ⟨rfl, Q7.out⟩

set_option maxRecDepth 100000 in
theorem lifted (os : Os) (started : os.Started) (H : Type) (enc : TypeId × Value → H) :
    ReturnsInHanded {} Try.checked os 5 .any (Rows.spansHasSpec.pre6 enc Try.prog Try.f5 Rows.spansHasRow.domain false) (Rows.spansHasSpec.post enc Try.prog Try.f5 false true false false) := by
  refine returnsInHanded_of_change_sized (C := Try.checked) own_knob started (by kernel_rfl) Try.func5
    (ChangeSpec.witness6 (enc := enc) (C := Try.checked) false ⟨#[], #[.slice none 0 0, .slice none 0 0], []⟩ 8 (by kernel_rfl) (by kernel_rfl) (by kernel_rfl) (by kernel_rfl)) ?_
  intro W base args ds gs before hval0 hW hcnd hsz0 _
  have hval : ∀ (j : Nat) t v, Try.f5.params[j]? = some t → args[j]? = some v → Value.okWide Try.prog W .any base t v := hval0
  have hsz : (DataW.weightsEach Try.prog (Try.f5.params.toList ++ Rows.spansHasSpec.plain.varTypes Try.prog) (ds ++ gs)).all (· ≤ reachBytes) = true := hsz0
  have hW' := hW
  obtain ⟨p, q, hA0, hV, rfl, hfz, hnd⟩ := hW
  have hA : DataW.TrodAll enc Try.prog W 0 (fun _ => true) true Try.f5.params.toList args.toList ds p := hA0
  rw [Try.params5] at hA hval hsz
  obtain ⟨v0, vs0, d0, ds0, p0, q0, hargs, rfl, rfl, h0, r0⟩ := trodAll_cons hA
  obtain ⟨v1, vs1, d1, ds1, p1, q1, rfl, rfl, rfl, h1, r1⟩ := trodAll_cons r0
  obtain ⟨rfl, rfl, rfl⟩ := trodAll_nil r1
  obtain rfl : args = #[v0, v1] := by cases args; simp_all
  obtain ⟨rfl, rfl⟩ := trodVars_none hV
  obtain ⟨a0, len0, cap0, rfl⟩ := okWide_slice Try.underlying30 (hval 0 30 v0 rfl rfl)
  have k0 := h0
  have lt0 : ∀ x ∈ p0, x.block < W.heap.size := by obtain ⟨m, hm⟩ := k0; exact DataW.trod_lt m _ _ _ hm
  obtain ⟨z0, zl0, zs0, zb0, zc0, ze0, zd0⟩ := open_spans h0
  have zn0 := len_le_spans hsz (j := 0) rfl rfl zd0
  obtain ⟨a1, len1, cap1, rfl⟩ := okWide_slice Try.underlying47 (hval 1 47 v1 rfl rfl)
  have k1 := h1
  have lt1 : ∀ x ∈ p1, x.block < W.heap.size := by obtain ⟨m, hm⟩ := k1; exact DataW.trod_lt m _ _ _ hm
  obtain ⟨z1, zl1, zs1, zb1, zc1, ze1, zd1⟩ := open_nums h1
  have zn1 := len_le_nums hsz (j := 1) rfl rfl zd1
  clear hA0 hval0
  refine (walk a0 len0 cap0 z0 zl0 zs0 zn0 a1 len1 cap1 z1 zl1 zs1 zn1).mono fun e W' ⟨he, bel⟩ => ?_
  subst he
  exact ⟨_, rfl, _, _, _, [], _, [], hW', trodAll_mk1 (shut_bool Try.underlying4 _), (trodAll_cons_mk (Below.trod laid_out (by kernel_rfl) (of_decide_eq_true (by kernel_rfl)) k0 bel lt0) (trodAll_cons_mk (Below.trod laid_out (by kernel_rfl) (of_decide_eq_true (by kernel_rfl)) k1 bel lt1) trodAll_mk0)), rfl, bel.frame _, fun h => by cases h⟩

theorem over : Rows.spansHasRow.holds Try.pinned (OpenSpec.ofChange Rows.spansHasSpec) :=
  OpenClaim.holds_of_wide 5 Try.f5 rfl rfl rfl rfl rfl rfl rfl ⟨rfl, rfl, rfl, rfl, rfl⟩ rfl rfl rfl rfl rfl (by kernel_rfl) Try.func5 (by kernel_rfl)
    (of_decide_eq_true (by kernel_rfl)) (by unfold Func.isWrapper; first | (rw [if_pos (by decide +kernel)]; kernel_rfl) | (rw [if_neg (by decide +kernel)]; exact ⟨rfl, rfl⟩))
    (fun os started H enc _ => lifted os started H enc)

end Go.Proofs.Ytmcemfjnenfcaaa.spansHas
namespace Go.Proofs.Ytmcemfjnenfcaaa

/-- The statement. -/
theorem spansHas_holds : Rows.SpansHasSaid := spansHas.over
#print axioms spansHas_holds
end Go.Proofs.Ytmcemfjnenfcaaa
