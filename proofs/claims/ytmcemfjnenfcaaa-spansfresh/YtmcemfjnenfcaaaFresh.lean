/-
  Proved: for every slice of spans the law turnpikelaw02.SpansFresh returns true, and its argument reads as it did. No condition.
-/
import Derived.Test.YtmcemfjnenfcaaaRows
import Derived.Test.YtmcemfjnenfcaaaLaw
import Derived.Test.YtmcemfjnenfcaaaOpen
import Derived.WalkKit
import Derived.ProofKit
import Derived.OpenShut
import Derived.ShutString
import Derived.ChangeOld
import Derived.Below
import Derived.SizedLaws
namespace Go.Proofs.Ytmcemfjnenfcaaa.spansFresh
open Go.ChangeShapes Go.WideShapes Go.ChangeAt Go.RowKit
open Go.ChangeMaps (open_string shut_string)
set_option linter.unusedVariables false

variable {W : World}

set_option maxHeartbeats 8000000 in
set_option maxRecDepth 100000 in
theorem walk (a : Option Addr) (n c : Nat) (zs : List Sp) (hl : zs.length = n) (hs : Seg W a zs) (hn : n * 16 ≤ 140737488351232) :
    Calls Try.prog 7 #[.slice a n c] W fun e w' => e = .returned (.bool true) ∧ Below W.heap.size W w' := by
  have HS := hid hs
  have HL := hid hl
  clear hs hl
  go_enter Try.func7, Try.ntmps7
  go_wp2_with fail
  refine (new_good 64 W (by omega) (by omega)).mono ?_
  rintro e w1 ⟨rfl, hd1, hq1, hs1⟩
  have S1 := hid (st_new hd1)
  have Q1 := hid hq1
  clear hd1 hq1
  obtain ⟨rb, hrb⟩ : ∃ rb, rb = W.heap.size := ⟨_, rfl⟩
  rw [← hrb] at S1 hs1 ⊢
  have HRB := hid hrb
  clear hrb
  go_wp2
  go_loopw [5, 27] (fun v5 v27 wr => ∃ k : Nat, ∃ a' : Option Addr, ∃ n' c' : Nat, ∃ floor : Int, ∃ xs : List Sp, ∃ S : Int, k ≤ n ∧ v27 = .int .i64 k ∧ v5 = .int .i64 (9223372036854775807 - S) ∧ St wr rb a' n' c' 64 floor xs ∧ Ok 64 floor xs ∧ 0 ≤ S ∧ S ≤ floor + tot xs ∧ (floor = 0 → S = tot xs) ∧ (∀ b, blk a' = some b → W.heap.size ≤ b) ∧ Q W wr) (fun _ i _ => n - (intOf i).toNat)
  case atStart => exact ⟨0, none, 0, 0, 0, [], 0, Nat.zero_le _, rfl, rfl, S1.out, ok_new (by omega) (by omega), by omega, by simp [tot], by simp [tot], by simp [blk], Q1.out⟩
  case round =>
    obtain ⟨k, a', n', c', floor, xs, S, hk, rfl, rfl, hst, hok, hS0, hS1, hS2, hbl, hq⟩ := hrel
    have ST := hid hst
    have OK := hid hok
    have HS2 := hid hS2
    have HBL := hid hbl
    have HQ := hid hq
    have hrl := hst.hd.lt
    clear hst hok hS2 hbl hq
    by_cases hkn : k < n
    · obtain ⟨b, off, rfl, d0, d1, d2⟩ := seg_last (HS.out.q HQ.out) HL.out hkn
      have hlt' : (k : Int) < (n : Int) := by omega
      generalize zs.getD k (0, 0) = y at *
      have QX := hid ((Q.refl wr).alloc (.cells #[.int .i64 y.1, .int .i64 y.2] 49))
      have X1 := hid (one_new wr y)
      have SX := hid (ST.out.q QX.out)
      have T1 := hid (ad_tot OK.out y.1 y.2)
      have OK2 := hid (ad_ok OK.out y.1 y.2)
      have hF2 := ad_floor OK.out y.1 y.2
      have hN := adN_pos OK.out y.1 y.2
      have hA := ad_again OK.out y.1 y.2
      go_wp2_with fail
      refine (add_any rb a' n' c' 64 floor xs y.1 y.2 _ SX.out OK.out).mono ?_
      rintro e w2 ⟨rfl, ⟨a2, n2, c2, h2, hfr2⟩, k2⟩
      have hX2 : One w2 wr.heap.size y := X1.out.keep k2 (fun e => by
        rcases e with e | e
        · omega
        · have := (ST.out.own.lt _ e).2; omega)
      have hQ2 : Q W w2 := Q.st (HQ.out.trans QX.out) k2 (by rw [HRB.out]; exact Nat.le_refl _) HBL.out
      have hB2 : ∀ b, blk a2 = some b → W.heap.size ≤ b := fun b hb => by
        rcases hfr2 with h | h
        · exact HBL.out b (by rw [← h]; exact hb)
        · have := h b hb; have := HQ.out.size; have := QX.out.size; omega
      have x0 := hX2.c0
      have x1 := hX2.c1
      have S2 := hid h2
      have Q2 := hid hQ2
      have B2 := hid hB2
      have hW2 := k2.size
      clear h2 hQ2 hB2 hfr2 k2
      generalize adF 64 floor y.1 y.2 xs = fl2 at *
      generalize adL 64 floor y.1 y.2 xs = xs2 at *
      generalize adN floor y.1 y.2 xs = N1 at *
      have hE := adE_two y.1 y.2
      generalize hEE : adE y.1 y.2 = E1 at *
      have HEE := hid hEE
      clear hEE
      have T2 := hid (ad_tot OK2.out y.1 y.2)
      have OK3 := hid (ad_ok OK2.out y.1 y.2)
      have hF3 := ad_floor OK2.out y.1 y.2
      go_wp2_with fail
      refine (add_any rb a2 n2 c2 64 fl2 xs2 y.1 y.2 _ S2.out OK2.out).mono ?_
      rintro e w3 ⟨rfl, ⟨a3, n3, c3, h3, hfr3⟩, k3⟩
      have hQ3 : Q W w3 := Q.st Q2.out k3 (by rw [HRB.out]; exact Nat.le_refl _) B2.out
      have hB3 : ∀ b, blk a3 = some b → W.heap.size ≤ b := fun b hb => by
        rcases hfr3 with h | h
        · exact B2.out b (by rw [← h]; exact hb)
        · have := h b hb; have := Q2.out.size; omega
      have S3 := hid h3
      have Q3 := hid hQ3
      have B3 := hid hB3
      clear h3 hQ3 hB3 hfr3 k3 x0 x1 hX2
      rw [hA] at T2 ⊢
      rw [HEE.out]
      generalize adF 64 fl2 y.1 y.2 xs2 = fl3 at *
      generalize adL 64 fl2 y.1 y.2 xs2 = xs3 at *
      have t1 := T1.out.1
      have t2 := T2.out.1
      have u3 := OK3.out.ap.tot_le OK3.out.f1
      have t0 := OK.out.f0
      have HT := hid (show fl3 = 0 → S + N1 = tot xs3 from fun h => by
        have g2 : fl2 = 0 := by omega
        have g1 : floor = 0 := by omega
        have := HS2.out g1
        have := T1.out.2 (by omega)
        have := T2.out.2 (by omega)
        omega)
      have e1 : ((E1 : Int) != E1) = false := by simp
      have e2 : decide (N1 < 0) = false := by simp; omega
      have e3 : ¬ 9223372036854775807 - S < N1 := by omega
      have hw : IntKind.i64.wrap (9223372036854775807 - S - N1) = 9223372036854775807 - S - N1 := by rw [IntKind.wrap_i64]; omega
      clear hE
      go_wp2
      go_roundw
      case rel => exact ⟨k + 1, a3, n3, c3, fl3, xs3, S + N1, by omega, by go_num, by rw [Int.sub_sub], S3.out, OK3.out, by omega, by omega, HT.out, B3.out, Q3.out⟩
      case measure => simp [intOf]; omega
    · obtain rfl : k = n := by omega
      have t0 := OK.out.f0
      have tl := OK.out.len
      have tn := ST.out.len
      go_wp2_with fail
      refine (floor_any rb 64 floor a' n' c' wr ST.out.hd).mono ?_
      rintro e w2 ⟨rfl, rfl⟩
      by_cases hf : 0 < floor
      · go_wp2_with fail
        refine (awake_any _).mono ?_
        rintro e w4 ⟨rfl, hq4⟩
        have Q4 := hid (HQ.out.trans hq4)
        clear hq4
        go_wp2
        go_ret
        exact ⟨rfl, Q4.out⟩
      · have hS3 := HS2.out (by omega)
        have hAp := OK.out.ap
        go_wp2_with fail
        refine (list_any 0 rb 64 floor a' n' c' xs wr ST.out.hd ST.out.own (by omega)).mono ?_
        rintro e w5 ⟨g5, a5, c5, rfl, ho5, hq5, ha5⟩
        have O5 := hid ho5
        have Q5 := hid (HQ.out.trans hq5)
        have HAP := hid hAp
        clear ho5 hq5 ha5 hAp
        go_wp2
        generalize hws : wr = ws at *
        clear hws
        go_loopw [5, 76] (fun v5 v76 wx => ∃ i : Nat, i ≤ n' ∧ v76 = .int .i64 i ∧ v5 = .int .i64 (9223372036854775807 - tot (xs.drop i)) ∧ Q w5 wx) (fun _ i _ => n' - (intOf i).toNat)
        case atStart => exact ⟨0, Nat.zero_le _, rfl, by first | rfl | (rw [hS3]; rfl), Q.refl _⟩
        case round =>
          obtain ⟨i, hi, rfl, rfl, hqx⟩ := hrel
          have QX := hid hqx
          clear hqx
          by_cases hin : i < n'
          · obtain ⟨b, off, rfl, d0, d1, d2⟩ := seg_last (O5.out.seg.q QX.out) tn hin
            have hlt' : (i : Int) < (n' : Int) := by omega
            have HD := hid (drop_cons (xs := xs) (k := i) (by omega))
            have hmem : xs.getD i (0, 0) ∈ xs := by
              rw [List.getD_eq_getElem?_getD, List.getElem?_eq_getElem (by omega)]; simp
            have hyb := HAP.out.mem _ hmem
            have ht := (HAP.out.drop i).tot_le OK.out.f1
            have ht2 := (HAP.out.drop (i + 1)).tot_le OK.out.f1
            have e6 : tot (xs.drop i) = (xs.getD i (0, 0)).2 - (xs.getD i (0, 0)).1 + 1 + tot (xs.drop (i + 1)) := by rw [HD.out]; rfl
            clear hmem
            generalize xs.getD i (0, 0) = y at *
            generalize hT2 : tot (xs.drop (i + 1)) = T2 at *
            have HT2 := hid hT2
            clear hT2
            have hw1 : IntKind.i64.wrap (y.2 - y.1) = y.2 - y.1 := by rw [IntKind.wrap_i64]; omega
            have b1 : decide (y.2 - y.1 < 0) = false := by simp; omega
            have b2 : decide (4611686018427387904 ≤ y.2 - y.1) = false := by simp; omega
            rw [e6]
            have hw2 : IntKind.i64.wrap (9223372036854775807 - (y.2 - y.1)) = 9223372036854775807 - (y.2 - y.1) := by rw [IntKind.wrap_i64]; omega
            have hw3 : IntKind.i64.wrap (9223372036854775807 - (y.2 - y.1) - 1) = 9223372036854775807 - (y.2 - y.1) - 1 := by rw [IntKind.wrap_i64]; omega
            have b3 : ¬ 9223372036854775807 - (y.2 - y.1) - 1 < 9223372036854775807 - (y.2 - y.1 + 1 + T2) := by omega
            have hw4 : IntKind.i64.wrap (y.2 - y.1 + 1) = y.2 - y.1 + 1 := by rw [IntKind.wrap_i64]; omega
            have hw5 : IntKind.i64.wrap (9223372036854775807 - (y.2 - y.1 + 1 + T2) + (y.2 - y.1 + 1)) = 9223372036854775807 - (y.2 - y.1 + 1 + T2) + (y.2 - y.1 + 1) := by rw [IntKind.wrap_i64]; omega
            have HE := hid (show 9223372036854775807 - (y.2 - y.1 + 1 + T2) + (y.2 - y.1 + 1) = 9223372036854775807 - T2 by omega)
            clear e6 ht
            go_wp2
            go_roundw
            case rel => exact ⟨i + 1, by omega, by go_num, by rw [HE.out, HT2.out], QX.out.trans ((Q.refl _).alloc _)⟩
            case measure => simp [intOf]; omega
          · obtain rfl : i = n' := by omega
            have e0 : tot (xs.drop i) = 0 := by rw [List.drop_of_length_le (by omega)]; rfl
            rw [e0]
            clear e0
            go_wp2_with fail
            refine (awake_any _).mono ?_
            rintro e w7 ⟨rfl, hq7⟩
            have Q7 := hid ((Q5.out.trans QX.out).trans hq7)
            clear hq7
            go_wp2
            go_ret
            exact ⟨rfl, Q7.out⟩

set_option maxRecDepth 100000 in
theorem lifted (os : Os) (started : os.Started) (H : Type) (enc : TypeId × Value → H) :
    ReturnsInHanded {} Try.checked os 7 .any (Rows.spansFreshSpec.pre6 enc Try.prog Try.f7 Rows.spansFreshRow.domain false) (Rows.spansFreshSpec.post enc Try.prog Try.f7 false true false false) := by
  refine returnsInHanded_of_change_sized (C := Try.checked) own_knob started (by kernel_rfl) Try.func7
    (ChangeSpec.witness6 (enc := enc) (C := Try.checked) false ⟨#[], #[.slice none 0 0], []⟩ 8 (by kernel_rfl) (by kernel_rfl) (by kernel_rfl) (by kernel_rfl)) ?_
  intro W base args ds gs before hval0 hW hcnd hsz0 _
  have hval : ∀ (j : Nat) t v, Try.f7.params[j]? = some t → args[j]? = some v → Value.okWide Try.prog W .any base t v := hval0
  have hsz : (DataW.weightsEach Try.prog (Try.f7.params.toList ++ Rows.spansFreshSpec.plain.varTypes Try.prog) (ds ++ gs)).all (· ≤ reachBytes) = true := hsz0
  have hW' := hW
  obtain ⟨p, q, hA0, hV, rfl, hfz, hnd⟩ := hW
  have hA : DataW.TrodAll enc Try.prog W 0 (fun _ => true) true Try.f7.params.toList args.toList ds p := hA0
  rw [Try.params7] at hA hval hsz
  obtain ⟨v0, vs0, d0, ds0, p0, q0, hargs, rfl, rfl, h0, r0⟩ := trodAll_cons hA
  obtain ⟨rfl, rfl, rfl⟩ := trodAll_nil r0
  obtain rfl : args = #[v0] := by cases args; simp_all
  obtain ⟨rfl, rfl⟩ := trodVars_none hV
  obtain ⟨a0, len0, cap0, rfl⟩ := okWide_slice Try.underlying30 (hval 0 30 v0 rfl rfl)
  have k0 := h0
  have lt0 : ∀ x ∈ p0, x.block < W.heap.size := by obtain ⟨m, hm⟩ := k0; exact DataW.trod_lt m _ _ _ hm
  obtain ⟨z0, zl0, zs0, zb0, zc0, ze0, zd0⟩ := open_spans h0
  have zn0 := len_le_spans hsz (j := 0) rfl rfl zd0
  clear hA0 hval0
  refine (walk a0 len0 cap0 z0 zl0 zs0 zn0).mono fun e W' ⟨he, bel⟩ => ?_
  subst he
  exact ⟨_, rfl, _, _, _, [], _, [], hW', trodAll_mk1 (shut_bool Try.underlying4 _), (trodAll_cons_mk (Below.trod laid_out (by kernel_rfl) (of_decide_eq_true (by kernel_rfl)) k0 bel lt0) trodAll_mk0), rfl, bel.frame _, fun h => by cases h⟩

theorem over : Rows.spansFreshRow.holds Try.pinned (OpenSpec.ofChange Rows.spansFreshSpec) :=
  OpenClaim.holds_of_wide 7 Try.f7 rfl rfl rfl rfl rfl rfl rfl ⟨rfl, rfl, rfl, rfl, rfl⟩ rfl rfl rfl rfl rfl (by kernel_rfl) Try.func7 (by kernel_rfl)
    (of_decide_eq_true (by kernel_rfl)) (by unfold Func.isWrapper; first | (rw [if_pos (by decide +kernel)]; kernel_rfl) | (rw [if_neg (by decide +kernel)]; exact ⟨rfl, rfl⟩))
    (fun os started H enc _ => lifted os started H enc)

end Go.Proofs.Ytmcemfjnenfcaaa.spansFresh
namespace Go.Proofs.Ytmcemfjnenfcaaa

/-- The statement. -/
theorem spansFresh_holds : Rows.SpansFreshSaid := spansFresh.over
#print axioms spansFresh_holds
end Go.Proofs.Ytmcemfjnenfcaaa
