/-
  Proved: for every int and every slice of calls the law turnpikelaw02.SpansShape returns true, and its arguments read as they did. No condition.
-/
import Derived.Test.YtmcemfjnenfcaaaRows
import Derived.Test.YtmcemfjnenfcaaaNums
import Derived.Test.YtmcemfjnenfcaaaOpen
import Derived.WalkKit
import Derived.ProofKit
import Derived.OpenShut
import Derived.ShutString
import Derived.ChangeOld
import Derived.Below
import Derived.SizedLaws
namespace Go.Proofs.Ytmcemfjnenfcaaa.spansShape
open Go.ChangeShapes Go.WideShapes Go.ChangeAt Go.RowKit
open Go.ChangeMaps (open_string shut_string)
set_option linter.unusedVariables false

variable {W : World}

/-- One call of a script, in a block of its own. -/
def Thr (w : World) (b : Nat) (x y z : Int) : Prop := w.heap[b]? = some (.cells #[.int .i64 x, .int .i64 y, .int .i64 z] 38 (0, 0))
theorem Thr.c1 {w : World} {b : Nat} {x y z : Int} (h : Thr w b x y z) : w.cell? ⟨b, 1, none⟩ = some (.int .i64 y) := by rw [cell_of_row w b 1 _ 38 (0, 0) h]; rfl
theorem Thr.c2 {w : World} {b : Nat} {x y z : Int} (h : Thr w b x y z) : w.cell? ⟨b, 2, none⟩ = some (.int .i64 z) := by rw [cell_of_row w b 2 _ 38 (0, 0) h]; rfl
theorem Thr.keep {F : Nat → Prop} {w w' : World} {b : Nat} {x y z : Int} (h : Thr w b x y z) (k : Keep F w w') (hF : ¬ F b) : Thr w' b x y z := (k.block b (lt_of_block h) hF).trans h

set_option maxHeartbeats 400000 in
theorem walk_bad (most : Int) (a : Option Addr) (n c : Nat) (hb : ¬ (1 ≤ most ∧ most ≤ 64)) : Calls Try.prog 6 #[.int .i64 most, .slice a n c] W fun e w' => e = .returned (.bool true) ∧ Below W.heap.size W w' := by
  by_cases h1 : most < 1
  · have hd1 : decide (most < 1) = true := by simp [h1]
    go_enter Try.func6, Try.ntmps6
    go_wp2_with fail
    refine (new_bad most W hb).mono ?_
    rintro e w1 ⟨rfl, rfl⟩
    go_wp2_with fail
    refine (awake_any _).mono ?_
    rintro e w7 ⟨rfl, hq7⟩
    have Q7 := hid hq7
    clear hq7
    go_wp2
    go_ret
    exact ⟨rfl, Q7.out⟩
  · have hd1 : decide (most < 1) = false := by simp [h1]
    have hd2 : decide (64 < most) = true := by simp; omega
    have hd3 : (64 : Int) < most := by omega
    go_enter Try.func6, Try.ntmps6
    go_wp2_with fail
    refine (new_bad most W hb).mono ?_
    rintro e w1 ⟨rfl, rfl⟩
    go_wp2_with fail
    refine (awake_any _).mono ?_
    rintro e w7 ⟨rfl, hq7⟩
    have Q7 := hid hq7
    clear hq7
    go_wp2
    go_ret
    exact ⟨rfl, Q7.out⟩

set_option maxHeartbeats 8000000 in
set_option maxRecDepth 100000 in
theorem walk_good (most : Int) (a : Option Addr) (n c : Nat) (K F T : Nat → Int) (hs : SegO W a n K F T) (hn : n * 24 ≤ 140737488351232) (m0 : 1 ≤ most) (m1 : most ≤ 64) :
    Calls Try.prog 6 #[.int .i64 most, .slice a n c] W fun e w' => e = .returned (.bool true) ∧ Below W.heap.size W w' := by
  have HS := hid hs
  clear hs
  go_enter Try.func6, Try.ntmps6
  go_wp2_with fail
  refine (new_good most W m0 m1).mono ?_
  rintro e w1 ⟨rfl, hd1, hq1, hsz1⟩
  have S1 := hid (st_new hd1)
  have Q1 := hid hq1
  clear hd1 hq1
  obtain ⟨rb, hrb⟩ : ∃ rb, rb = W.heap.size := ⟨_, rfl⟩
  rw [← hrb] at S1 hsz1 ⊢
  have HRB := hid hrb
  clear hrb
  go_wp2
  go_loopw [7, 8, 40] (fun v7 v8 v40 wr => ∃ k : Nat, ∃ a' : Option Addr, ∃ n' c' : Nat, ∃ floor : Int, ∃ xs : List Sp, ∃ ga : Option Addr, ∃ gn gc : Nat, ∃ gs : List Int, k ≤ n ∧ v40 = .int .i64 k ∧ v7 = .int .i64 floor ∧ v8 = .slice ga gn gc ∧ gn ≤ 2 * k ∧ St wr rb a' n' c' most floor xs ∧ Ok most floor xs ∧ OwnN wr W.heap.size ga gn gc gs ∧ (∀ x ∈ gs, had floor xs x) ∧ blk ga ≠ some rb ∧ (∀ b, blk ga = some b → blk a' ≠ some b) ∧ (∀ b, blk a' = some b → W.heap.size ≤ b) ∧ Q W wr) (fun _ _ i _ => n - (intOf i).toNat)
  case atStart => exact ⟨0, none, 0, 0, 0, [], none, 0, 0, [], Nat.zero_le _, rfl, rfl, rfl, Nat.le_refl _, S1.out, ok_new m0 m1, ownN_nil _ _, (fun x hx => by cases hx), by simp [blk], by simp [blk], by simp [blk], Q1.out⟩
  case round =>
    obtain ⟨k, a', n', c', floor, xs, ga, gn, gc, gs, hk, rfl, rfl, rfl, hgn, hst, hok, hgo, hhd, hgr, hga, hbl, hq⟩ := hrel
    have ST := hid hst
    have OK := hid hok
    have GO := hid hgo
    have HH := hid hhd
    have GR := hid hgr
    have GA := hid hga
    have HBL := hid hbl
    have HQ := hid hq
    have hrl := hst.hd.lt
    have hWz := hq.size
    have hn100 : n' ≤ 100 := by have := hok.len; have := hst.len; omega
    clear hst hok hgo hhd hgr hga hbl hq
    by_cases hkn : k < n
    · obtain ⟨b, off, rfl, hcl⟩ := (HS.out.q HQ.out) (by omega)
      obtain ⟨d0, d1, d2⟩ := hcl k hkn
      rw [← Nat.add_assoc] at d1 d2
      clear hcl
      have hlt' : (k : Int) < (n : Int) := by omega
      generalize K k = kk at *
      generalize F k = fr at *
      generalize T k = to at *
      have QX := hid ((Q.refl wr).alloc (.cells #[.int .i64 kk, .int .i64 fr, .int .i64 to] 38))
      have X1 := hid (show Thr (wr.alloc (.cells #[.int .i64 kk, .int .i64 fr, .int .i64 to] 38)) wr.heap.size kk fr to from heap_alloc_new wr _)
      have SX := hid (ST.out.q QX.out)
      have GX := hid (GO.out.q QX.out)
      by_cases hkk : kk = 2
      · subst hkk
        go_wp2_with fail
        refine (raise_any rb a' n' c' most floor xs fr _ SX.out hn100).mono ?_
        rintro e w2 ⟨rfl, ⟨n2, h2⟩, k2⟩
        have Q2 := hid (show Q W w2 from Q.st (HQ.out.trans QX.out) k2 (by rw [HRB.out]; exact Nat.le_refl _) HBL.out)
        have S2 := hid h2
        have OK2 := hid (rz_ok OK.out fr)
        have HO2 := hid (show OwnN w2 W.heap.size ga gn gc gs from GX.out.keep k2 (fun b hb e => by
          rcases e with e | e
          · exact GR.out (by rw [hb, e])
          · exact GA.out b hb e))
        have HH2 := hid (show ∀ x ∈ gs, had (rzF floor fr) (rzL floor fr xs) x from fun x hx => rz_had OK.out fr (HH.out x hx))
        have hFL := rz_floor floor fr
        have B2 := HBL
        have GR2 := GR
        have GA2 := GA
        obtain ⟨a2, ha2⟩ : ∃ z, z = a' := ⟨_, rfl⟩
        obtain ⟨c2, hc2⟩ : ∃ z, z = c' := ⟨_, rfl⟩
        rw [← ha2] at S2 GA2 B2
        rw [← hc2] at S2
        clear h2 k2 ha2 hc2
        generalize rzF floor fr = fl2 at *
        generalize rzL floor fr xs = xs2 at *
        generalize rzE fr = E1 at *
        have t0 := OK2.out.f0
        have tl := OK2.out.len
        have tn := S2.out.len
        have tb1 : decide (fl2 < floor) = false := by simp; omega
        have tb2 : ¬ most < (n2 : Int) := by omega
        go_wp2_with fail
        refine (list_any 0 rb most fl2 a2 n2 c2 xs2 w2 S2.out.hd S2.out.own (by omega)).mono ?_
        rintro e w5 ⟨g5, a5, c5, rfl, ho5, hq5, ha5⟩
        have O5 := hid ho5
        have S5 := hid (S2.out.q hq5)
        have Q5 := hid (Q2.out.trans hq5)
        have H5 := hid (HO2.out.q hq5)
        clear ho5 hq5 ha5
        go_wp2_with fail
        refine (floor_any rb most fl2 a2 n2 c2 w5 S5.out.hd).mono ?_
        rintro e w6 ⟨rfl, rfl⟩
        go_wp2_with fail
        refine (floor_any rb most fl2 a2 n2 c2 w5 S5.out.hd).mono ?_
        rintro e w6 ⟨rfl, rfl⟩
        have HAP := hid OK2.out.ap
        go_wp2
        generalize hws : wr = ws at *
        clear hws
        go_loopw [85] (fun v85 wx => ∃ i : Nat, i ≤ n2 ∧ v85 = .int .i64 i ∧ Q w5 wx) (fun i _ => n2 - (intOf i).toNat)
        case atStart => exact ⟨0, Nat.zero_le _, rfl, Q.refl _⟩
        case round =>
          obtain ⟨i, hi, rfl, hqx⟩ := hrel
          have QX := hid hqx
          clear hqx
          by_cases hin : i < n2
          · obtain ⟨b, off, hab, hcl⟩ := (O5.out.seg.q QX.out).cel tn (by omega)
            subst hab
            obtain ⟨d0, d1, d2⟩ := hcl.at_ tn hin
            have hlt' : (i : Int) < (n2 : Int) := by omega
            have hmem : xs2.getD i (0, 0) ∈ xs2 := by
              rw [List.getD_eq_getElem?_getD, List.getElem?_eq_getElem (by omega)]; simp
            have hyb := HAP.out.mem _ hmem
            clear hmem
            by_cases hi0 : i = 0
            · subst hi0
              clear hcl
              generalize xs2.getD 0 (0, 0) = y at *
              simp only [Nat.zero_mul, Nat.add_zero, Nat.zero_add] at d0 d1 d2
              have u1 : decide (y.2 < y.1) = false := by simp; omega
              have u2 : decide (y.1 < fl2) = false := by simp; omega
              have u3 : decide (4611686018427387903 < y.2) = false := by simp; omega
              go_wp2
              go_quiet (fail)
              go_wp2
              go_roundw
              case rel => exact ⟨1, by omega, by go_num, QX.out.trans (((Q.refl _).alloc _).drewN _)⟩
              case measure => simp [intOf]; omega
            · obtain ⟨p0, p1, p2⟩ := hcl.at_ (k := i - 1) tn (by omega)
              have hnx := HAP.out.next (i := i - 1) (by omega)
              rw [show i - 1 + 1 = i by omega] at hnx
              clear hcl
              generalize xs2.getD i (0, 0) = y at *
              generalize xs2.getD (i - 1) (0, 0) = z at *
              have u1 : decide (y.2 < y.1) = false := by simp; omega
              have u2 : decide (y.1 < fl2) = false := by simp; omega
              have u3 : decide (4611686018427387903 < y.2) = false := by simp; omega
              have u4 : decide ((0 : Int) < (i : Int)) = true := by simp; omega
              have u4' : (0 : Int) < (i : Int) := by omega
              have hwa : IntKind.i64.wrap (y.1 - 1) = y.1 - 1 := by rw [IntKind.wrap_i64]; omega
              have hwb : IntKind.i64.wrap ((i : Int) - 1) = (i : Int) - 1 := by rw [IntKind.wrap_i64]; omega
              have u5 : ¬ y.1 - 1 ≤ z.2 := by omega
              have q1 : ((i : Int) - 1).toNat = i - 1 := by omega
              have q2 : (0 : Int) ≤ (i : Int) - 1 := by omega
              have q3 : (1 : Int) ≤ (i : Int) := by omega
              have q4 : 1 ≤ i := by omega
              have q5 : (i : Int) - 1 < (n2 : Int) := by omega
              have q6 : 0 < i := by omega
              have hbw := lt_of_cell p2
              have pa : (wr.alloc (.cells #[.int .i64 y.1, .int .i64 y.2] 49)).cell? ⟨b, off + (i - 1) * 2 + 1, none⟩ = some (.int .i64 z.2) := (((Q.refl wr).alloc _).cell (p := ⟨b, off + (i - 1) * 2 + 1, none⟩) hbw).trans p2
              have q7 : decide (0 < i) = true := by simp; omega
              go_wp2
              go_quiet (fail)
              go_wp2
              go_roundw
              case rel => exact ⟨i + 1, by omega, by go_num, QX.out.trans (((Q.refl _).alloc _).drewN _)⟩
              case measure => simp [intOf]; omega
          · obtain rfl : i = n2 := by omega
            generalize hwt : wr = wt at *
            clear hwt
            go_wp2
            go_loopw [125] (fun v125 wy => ∃ j : Nat, j ≤ gn ∧ v125 = .int .i64 j ∧ Q w5 wy) (fun i _ => gn - (intOf i).toNat)
            case atStart => exact ⟨0, Nat.zero_le _, rfl, QX.out⟩
            case round =>
              obtain ⟨j, hj, rfl, hqy⟩ := hrel
              have QY := hid hqy
              clear hqy
              by_cases hjn : j < gn
              · obtain ⟨b, hgb, d0⟩ := (H5.out.q QY.out).at_ hjn
                subst hgb
                have hlt' : (j : Int) < ((gn : Nat) : Int) := by omega
                have hjl : j < gs.length := by have := H5.out.len; omega
                have hmem : gs.getD j 0 ∈ gs := by
                  rw [List.getD_eq_getElem?_getD, List.getElem?_eq_getElem hjl]; simp
                have HB := hid ((hadB_iff OK2.out.ap OK2.out.f0 (gs.getD j 0)).2 (HH2.out _ hmem))
                clear hmem
                generalize gs.getD j 0 = x at *
                go_wp2_with fail
                refine (has_any rb most fl2 a2 _ c2 xs2 wr x (S5.out.hd.q QY.out) (S5.out.own.seg.q QY.out) tn (by omega)).mono ?_
                rw [HB.out]
                rintro e w7 ⟨rfl, hq7⟩
                have Q7 := hid (QY.out.trans hq7)
                clear hq7
                go_wp2
                go_roundw
                case rel => exact ⟨j + 1, by omega, by go_num, Q7.out⟩
                case measure => simp [intOf]; omega
              · obtain rfl : j = gn := by omega
                go_wp2
                go_roundw
                case rel => exact ⟨k + 1, a2, _, c2, fl2, xs2, ga, _, gc, gs, by omega, by go_num, rfl, rfl, by omega, S5.out.q QY.out, OK2.out, H5.out.q QY.out, HH2.out, GR2.out, GA2.out, B2.out, Q5.out.trans QY.out⟩
                case measure => simp [intOf]; omega


      · have hk2 : (kk == 2) = false := by simp [hkk]
        go_wp2_with fail
        refine (add_any rb a' n' c' most floor xs fr to _ SX.out OK.out).mono ?_
        rintro e w2 ⟨rfl, ⟨a2, n2, c2, h2, hfr2⟩, k2⟩
        have hX2 : Thr w2 wr.heap.size kk fr to := X1.out.keep k2 (fun e => by
          rcases e with e | e
          · omega
          · have := (ST.out.own.lt _ e).2; omega)
        have Q2 := hid (show Q W w2 from Q.st (HQ.out.trans QX.out) k2 (by rw [HRB.out]; exact Nat.le_refl _) HBL.out)
        have B2 := hid (show ∀ b, blk a2 = some b → W.heap.size ≤ b from row_new HBL.out (by have := QX.out.size; omega) hfr2)
        have S2 := hid h2
        have OK2 := hid (ad_ok OK.out fr to)
        have HO2 := hid (show OwnN w2 W.heap.size ga gn gc gs from GX.out.keep k2 (fun b hb e => by
          rcases e with e | e
          · exact GR.out (by rw [hb, e])
          · exact GA.out b hb e))
        have HHx := hid (show ∀ x, (had floor xs x ∨ (adE fr to = 0 ∧ fr ≤ x ∧ x ≤ to)) → had (adF most floor fr to xs) (adL most floor fr to xs) x from fun x hx => ad_had OK.out fr to hx)
        have hFL := ad_floor OK.out fr to
        have GR2 := GR
        have GA2 := hid (show ∀ b, blk ga = some b → blk a2 ≠ some b from fun b hb e => by
          rcases hfr2 with h | h
          · exact GA.out b hb (by rw [← h]; exact e)
          · have := h b e; have := (GX.out.lt b hb).2; omega)
        have x1 := hX2.c1
        have x2 := hX2.c2
        have hx2 : wr.heap.size < w2.heap.size := lt_of_block hX2
        clear h2 k2 hfr2 hX2
        generalize adF most floor fr to xs = fl2 at *
        generalize adL most floor fr to xs = xs2 at *
        generalize adN floor fr to xs = N1 at *
        by_cases hE : adE fr to = 0
        · have hv := adE_zero.1 hE
          rw [hE]
          obtain ⟨ga3, gc3, w3, hr3, ho3, hf3, hk3⟩ := append_ints fr to HO2.out (by omega) (by have := Q2.out.size; omega)
          have S3 := hid (S2.out.keep hk3 (fun e => GR.out e) (fun b hb e => GA2.out b e hb))
          have Q3 := hid (show Q W w3 from Q2.out.overN HO2.out hk3)
          have O3 := hid ho3
          have HH3 := hid (show ∀ x ∈ gs ++ [fr, to], had fl2 xs2 x from fun x hx => by
            rcases List.mem_append.1 hx with hx | hx
            · exact HHx.out x (.inl (HH.out x hx))
            · simp only [List.mem_cons, List.not_mem_nil, or_false] at hx
              rcases hx with rfl | rfl
              · exact HHx.out _ (.inr ⟨hE, by omega, by omega⟩)
              · exact HHx.out _ (.inr ⟨hE, by omega, by omega⟩))
          have R3 := hid (show blk ga3 ≠ some rb from fun e => by
            rcases hf3 with h | h
            · exact GR.out (by rw [← h]; exact e)
            · have := h rb e; have := S2.out.hd.lt; omega)
          have A3 := hid (show ∀ b, blk ga3 = some b → blk a2 ≠ some b from fun b hb e => by
            rcases hf3 with h | h
            · exact GA2.out b (by rw [← h]; exact hb) e
            · have := h b hb; have := (S2.out.own.lt b e).2; omega)
          clear ho3 hk3 hf3 hv
          go_wp2_with (at_builtin; refine Lib.wpList_append_run _ rfl _ _ _ _ rfl _ _ rfl rfl _ _ hr3 ?_)
          clear S2 Q2 HO2 GR2 GA2 hr3 x1 x2 hx2
          have S2 := S3
          have Q2 := Q3
          have HO2 := O3
          have HH2 := HH3
          have GR2 := R3
          have GA2 := A3
          generalize hw3 : w2 = wold at *
          clear hw3
          generalize w3 = w2 at *
          have t0 := OK2.out.f0
          have tl := OK2.out.len
          have tn := S2.out.len
          have tb1 : decide (fl2 < floor) = false := by simp; omega
          have tb2 : ¬ most < (n2 : Int) := by omega
          go_wp2_with fail
          refine (list_any 0 rb most fl2 a2 n2 c2 xs2 w2 S2.out.hd S2.out.own (by omega)).mono ?_
          rintro e w5 ⟨g5, a5, c5, rfl, ho5, hq5, ha5⟩
          have O5 := hid ho5
          have S5 := hid (S2.out.q hq5)
          have Q5 := hid (Q2.out.trans hq5)
          have H5 := hid (HO2.out.q hq5)
          clear ho5 hq5 ha5
          go_wp2_with fail
          refine (floor_any rb most fl2 a2 n2 c2 w5 S5.out.hd).mono ?_
          rintro e w6 ⟨rfl, rfl⟩
          go_wp2_with fail
          refine (floor_any rb most fl2 a2 n2 c2 w5 S5.out.hd).mono ?_
          rintro e w6 ⟨rfl, rfl⟩
          have HAP := hid OK2.out.ap
          go_wp2
          generalize hws : wr = ws at *
          clear hws
          go_loopw [85] (fun v85 wx => ∃ i : Nat, i ≤ n2 ∧ v85 = .int .i64 i ∧ Q w5 wx) (fun i _ => n2 - (intOf i).toNat)
          case atStart => exact ⟨0, Nat.zero_le _, rfl, Q.refl _⟩
          case round =>
            obtain ⟨i, hi, rfl, hqx⟩ := hrel
            have QX := hid hqx
            clear hqx
            by_cases hin : i < n2
            · obtain ⟨b, off, hab, hcl⟩ := (O5.out.seg.q QX.out).cel tn (by omega)
              subst hab
              obtain ⟨d0, d1, d2⟩ := hcl.at_ tn hin
              have hlt' : (i : Int) < (n2 : Int) := by omega
              have hmem : xs2.getD i (0, 0) ∈ xs2 := by
                rw [List.getD_eq_getElem?_getD, List.getElem?_eq_getElem (by omega)]; simp
              have hyb := HAP.out.mem _ hmem
              clear hmem
              by_cases hi0 : i = 0
              · subst hi0
                clear hcl
                generalize xs2.getD 0 (0, 0) = y at *
                simp only [Nat.zero_mul, Nat.add_zero, Nat.zero_add] at d0 d1 d2
                have u1 : decide (y.2 < y.1) = false := by simp; omega
                have u2 : decide (y.1 < fl2) = false := by simp; omega
                have u3 : decide (4611686018427387903 < y.2) = false := by simp; omega
                go_wp2
                go_quiet (fail)
                go_wp2
                go_roundw
                case rel => exact ⟨1, by omega, by go_num, QX.out.trans (((Q.refl _).alloc _).drewN _)⟩
                case measure => simp [intOf]; omega
              · obtain ⟨p0, p1, p2⟩ := hcl.at_ (k := i - 1) tn (by omega)
                have hnx := HAP.out.next (i := i - 1) (by omega)
                rw [show i - 1 + 1 = i by omega] at hnx
                clear hcl
                generalize xs2.getD i (0, 0) = y at *
                generalize xs2.getD (i - 1) (0, 0) = z at *
                have u1 : decide (y.2 < y.1) = false := by simp; omega
                have u2 : decide (y.1 < fl2) = false := by simp; omega
                have u3 : decide (4611686018427387903 < y.2) = false := by simp; omega
                have u4 : decide ((0 : Int) < (i : Int)) = true := by simp; omega
                have u4' : (0 : Int) < (i : Int) := by omega
                have hwa : IntKind.i64.wrap (y.1 - 1) = y.1 - 1 := by rw [IntKind.wrap_i64]; omega
                have hwb : IntKind.i64.wrap ((i : Int) - 1) = (i : Int) - 1 := by rw [IntKind.wrap_i64]; omega
                have u5 : ¬ y.1 - 1 ≤ z.2 := by omega
                have q1 : ((i : Int) - 1).toNat = i - 1 := by omega
                have q2 : (0 : Int) ≤ (i : Int) - 1 := by omega
                have q3 : (1 : Int) ≤ (i : Int) := by omega
                have q4 : 1 ≤ i := by omega
                have q5 : (i : Int) - 1 < (n2 : Int) := by omega
                have q6 : 0 < i := by omega
                have hbw := lt_of_cell p2
                have pa : (wr.alloc (.cells #[.int .i64 y.1, .int .i64 y.2] 49)).cell? ⟨b, off + (i - 1) * 2 + 1, none⟩ = some (.int .i64 z.2) := (((Q.refl wr).alloc _).cell (p := ⟨b, off + (i - 1) * 2 + 1, none⟩) hbw).trans p2
                have q7 : decide (0 < i) = true := by simp; omega
                go_wp2
                go_quiet (fail)
                go_wp2
                go_roundw
                case rel => exact ⟨i + 1, by omega, by go_num, QX.out.trans (((Q.refl _).alloc _).drewN _)⟩
                case measure => simp [intOf]; omega
            · obtain rfl : i = n2 := by omega
              generalize hwt : wr = wt at *
              clear hwt
              go_wp2
              go_loopw [125] (fun v125 wy => ∃ j : Nat, j ≤ (gn + 2) ∧ v125 = .int .i64 j ∧ Q w5 wy) (fun i _ => (gn + 2) - (intOf i).toNat)
              case atStart => exact ⟨0, Nat.zero_le _, rfl, QX.out⟩
              case round =>
                obtain ⟨j, hj, rfl, hqy⟩ := hrel
                have QY := hid hqy
                clear hqy
                by_cases hjn : j < (gn + 2)
                · obtain ⟨b, hgb, d0⟩ := (H5.out.q QY.out).at_ hjn
                  subst hgb
                  have hlt' : (j : Int) < (((gn + 2) : Nat) : Int) := by omega
                  have hjl : j < (gs ++ [fr, to]).length := by have := H5.out.len; omega
                  have hmem : (gs ++ [fr, to]).getD j 0 ∈ (gs ++ [fr, to]) := by
                    rw [List.getD_eq_getElem?_getD, List.getElem?_eq_getElem hjl]; simp
                  have HB := hid ((hadB_iff OK2.out.ap OK2.out.f0 ((gs ++ [fr, to]).getD j 0)).2 (HH2.out _ hmem))
                  clear hmem
                  generalize (gs ++ [fr, to]).getD j 0 = x at *
                  go_wp2_with fail
                  refine (has_any rb most fl2 a2 _ c2 xs2 wr x (S5.out.hd.q QY.out) (S5.out.own.seg.q QY.out) tn (by omega)).mono ?_
                  rw [HB.out]
                  rintro e w7 ⟨rfl, hq7⟩
                  have Q7 := hid (QY.out.trans hq7)
                  clear hq7
                  go_wp2
                  go_roundw
                  case rel => exact ⟨j + 1, by omega, by go_num, Q7.out⟩
                  case measure => simp [intOf]; omega
                · obtain hje : j = (gn + 2) := by omega
                  have HJE := hid hje
                  subst hje
                  go_wp2
                  go_roundw
                  case rel => exact ⟨k + 1, a2, _, c2, fl2, xs2, ga3, _, gc3, (gs ++ [fr, to]), by omega, by go_num, rfl, rfl, by omega, S5.out.q QY.out, OK2.out, H5.out.q QY.out, HH2.out, GR2.out, GA2.out, B2.out, Q5.out.trans QY.out⟩
                  case measure => simp [intOf]; omega


        · have hE21 : adE fr to = 21 := by rcases adE_two fr to with h | h; exact absurd h hE; exact h
          have HH2 := hid (show ∀ x ∈ gs, had fl2 xs2 x from fun x hx => HHx.out x (.inl (HH.out x hx)))
          rw [hE21]
          clear hE hE21 HHx x1 x2 hx2
          have t0 := OK2.out.f0
          have tl := OK2.out.len
          have tn := S2.out.len
          have tb1 : decide (fl2 < floor) = false := by simp; omega
          have tb2 : ¬ most < (n2 : Int) := by omega
          go_wp2_with fail
          refine (list_any 0 rb most fl2 a2 n2 c2 xs2 w2 S2.out.hd S2.out.own (by omega)).mono ?_
          rintro e w5 ⟨g5, a5, c5, rfl, ho5, hq5, ha5⟩
          have O5 := hid ho5
          have S5 := hid (S2.out.q hq5)
          have Q5 := hid (Q2.out.trans hq5)
          have H5 := hid (HO2.out.q hq5)
          clear ho5 hq5 ha5
          go_wp2_with fail
          refine (floor_any rb most fl2 a2 n2 c2 w5 S5.out.hd).mono ?_
          rintro e w6 ⟨rfl, rfl⟩
          go_wp2_with fail
          refine (floor_any rb most fl2 a2 n2 c2 w5 S5.out.hd).mono ?_
          rintro e w6 ⟨rfl, rfl⟩
          have HAP := hid OK2.out.ap
          go_wp2
          generalize hws : wr = ws at *
          clear hws
          go_loopw [85] (fun v85 wx => ∃ i : Nat, i ≤ n2 ∧ v85 = .int .i64 i ∧ Q w5 wx) (fun i _ => n2 - (intOf i).toNat)
          case atStart => exact ⟨0, Nat.zero_le _, rfl, Q.refl _⟩
          case round =>
            obtain ⟨i, hi, rfl, hqx⟩ := hrel
            have QX := hid hqx
            clear hqx
            by_cases hin : i < n2
            · obtain ⟨b, off, hab, hcl⟩ := (O5.out.seg.q QX.out).cel tn (by omega)
              subst hab
              obtain ⟨d0, d1, d2⟩ := hcl.at_ tn hin
              have hlt' : (i : Int) < (n2 : Int) := by omega
              have hmem : xs2.getD i (0, 0) ∈ xs2 := by
                rw [List.getD_eq_getElem?_getD, List.getElem?_eq_getElem (by omega)]; simp
              have hyb := HAP.out.mem _ hmem
              clear hmem
              by_cases hi0 : i = 0
              · subst hi0
                clear hcl
                generalize xs2.getD 0 (0, 0) = y at *
                simp only [Nat.zero_mul, Nat.add_zero, Nat.zero_add] at d0 d1 d2
                have u1 : decide (y.2 < y.1) = false := by simp; omega
                have u2 : decide (y.1 < fl2) = false := by simp; omega
                have u3 : decide (4611686018427387903 < y.2) = false := by simp; omega
                go_wp2
                go_quiet (fail)
                go_wp2
                go_roundw
                case rel => exact ⟨1, by omega, by go_num, QX.out.trans (((Q.refl _).alloc _).drewN _)⟩
                case measure => simp [intOf]; omega
              · obtain ⟨p0, p1, p2⟩ := hcl.at_ (k := i - 1) tn (by omega)
                have hnx := HAP.out.next (i := i - 1) (by omega)
                rw [show i - 1 + 1 = i by omega] at hnx
                clear hcl
                generalize xs2.getD i (0, 0) = y at *
                generalize xs2.getD (i - 1) (0, 0) = z at *
                have u1 : decide (y.2 < y.1) = false := by simp; omega
                have u2 : decide (y.1 < fl2) = false := by simp; omega
                have u3 : decide (4611686018427387903 < y.2) = false := by simp; omega
                have u4 : decide ((0 : Int) < (i : Int)) = true := by simp; omega
                have u4' : (0 : Int) < (i : Int) := by omega
                have hwa : IntKind.i64.wrap (y.1 - 1) = y.1 - 1 := by rw [IntKind.wrap_i64]; omega
                have hwb : IntKind.i64.wrap ((i : Int) - 1) = (i : Int) - 1 := by rw [IntKind.wrap_i64]; omega
                have u5 : ¬ y.1 - 1 ≤ z.2 := by omega
                have q1 : ((i : Int) - 1).toNat = i - 1 := by omega
                have q2 : (0 : Int) ≤ (i : Int) - 1 := by omega
                have q3 : (1 : Int) ≤ (i : Int) := by omega
                have q4 : 1 ≤ i := by omega
                have q5 : (i : Int) - 1 < (n2 : Int) := by omega
                have q6 : 0 < i := by omega
                have hbw := lt_of_cell p2
                have pa : (wr.alloc (.cells #[.int .i64 y.1, .int .i64 y.2] 49)).cell? ⟨b, off + (i - 1) * 2 + 1, none⟩ = some (.int .i64 z.2) := (((Q.refl wr).alloc _).cell (p := ⟨b, off + (i - 1) * 2 + 1, none⟩) hbw).trans p2
                have q7 : decide (0 < i) = true := by simp; omega
                go_wp2
                go_quiet (fail)
                go_wp2
                go_roundw
                case rel => exact ⟨i + 1, by omega, by go_num, QX.out.trans (((Q.refl _).alloc _).drewN _)⟩
                case measure => simp [intOf]; omega
            · obtain rfl : i = n2 := by omega
              generalize hwt : wr = wt at *
              clear hwt
              go_wp2
              go_loopw [125] (fun v125 wy => ∃ j : Nat, j ≤ gn ∧ v125 = .int .i64 j ∧ Q w5 wy) (fun i _ => gn - (intOf i).toNat)
              case atStart => exact ⟨0, Nat.zero_le _, rfl, QX.out⟩
              case round =>
                obtain ⟨j, hj, rfl, hqy⟩ := hrel
                have QY := hid hqy
                clear hqy
                by_cases hjn : j < gn
                · obtain ⟨b, hgb, d0⟩ := (H5.out.q QY.out).at_ hjn
                  subst hgb
                  have hlt' : (j : Int) < ((gn : Nat) : Int) := by omega
                  have hjl : j < gs.length := by have := H5.out.len; omega
                  have hmem : gs.getD j 0 ∈ gs := by
                    rw [List.getD_eq_getElem?_getD, List.getElem?_eq_getElem hjl]; simp
                  have HB := hid ((hadB_iff OK2.out.ap OK2.out.f0 (gs.getD j 0)).2 (HH2.out _ hmem))
                  clear hmem
                  generalize gs.getD j 0 = x at *
                  go_wp2_with fail
                  refine (has_any rb most fl2 a2 _ c2 xs2 wr x (S5.out.hd.q QY.out) (S5.out.own.seg.q QY.out) tn (by omega)).mono ?_
                  rw [HB.out]
                  rintro e w7 ⟨rfl, hq7⟩
                  have Q7 := hid (QY.out.trans hq7)
                  clear hq7
                  go_wp2
                  go_roundw
                  case rel => exact ⟨j + 1, by omega, by go_num, Q7.out⟩
                  case measure => simp [intOf]; omega
                · obtain rfl : j = gn := by omega
                  go_wp2
                  go_roundw
                  case rel => exact ⟨k + 1, a2, _, c2, fl2, xs2, ga, _, gc, gs, by omega, by go_num, rfl, rfl, by omega, S5.out.q QY.out, OK2.out, H5.out.q QY.out, HH2.out, GR2.out, GA2.out, B2.out, Q5.out.trans QY.out⟩
                  case measure => simp [intOf]; omega


    · obtain rfl : k = n := by omega
      go_wp2_with fail
      refine (awake_any _).mono ?_
      rintro e w7 ⟨rfl, hq7⟩
      have Q7 := hid (HQ.out.trans hq7)
      clear hq7
      go_wp2
      go_ret
      exact ⟨rfl, Q7.out⟩

theorem walk (most : Int) (a : Option Addr) (n c : Nat) (K F T : Nat → Int) (hs : SegO W a n K F T) (hn : n * 24 ≤ 140737488351232) :
    Calls Try.prog 6 #[.int .i64 most, .slice a n c] W fun e w' => e = .returned (.bool true) ∧ Below W.heap.size W w' := by
  by_cases hb : 1 ≤ most ∧ most ≤ 64
  · exact walk_good most a n c K F T hs hn hb.1 hb.2
  · exact walk_bad most a n c hb

set_option maxRecDepth 100000 in
theorem lifted (os : Os) (started : os.Started) (H : Type) (enc : TypeId × Value → H) :
    ReturnsInHanded {} Try.checked os 6 .any (Rows.spansShapeSpec.pre6 enc Try.prog Try.f6 Rows.spansShapeRow.domain false) (Rows.spansShapeSpec.post enc Try.prog Try.f6 false true false false) := by
  refine returnsInHanded_of_change_sized (C := Try.checked) own_knob started (by kernel_rfl) Try.func6
    (ChangeSpec.witness6 (enc := enc) (C := Try.checked) false ⟨#[], #[.int .i64 0, .slice none 0 0], []⟩ 8 (by kernel_rfl) (by kernel_rfl) (by kernel_rfl) (by kernel_rfl)) ?_
  intro W base args ds gs before hval0 hW hcnd hsz0 _
  have hval : ∀ (j : Nat) t v, Try.f6.params[j]? = some t → args[j]? = some v → Value.okWide Try.prog W .any base t v := hval0
  have hsz : (DataW.weightsEach Try.prog (Try.f6.params.toList ++ Rows.spansShapeSpec.plain.varTypes Try.prog) (ds ++ gs)).all (· ≤ reachBytes) = true := hsz0
  have hW' := hW
  obtain ⟨p, q, hA0, hV, rfl, hfz, hnd⟩ := hW
  have hA : DataW.TrodAll enc Try.prog W 0 (fun _ => true) true Try.f6.params.toList args.toList ds p := hA0
  rw [Try.params6] at hA hval hsz
  obtain ⟨v0, vs0, d0, ds0, p0, q0, hargs, rfl, rfl, h0, r0⟩ := trodAll_cons hA
  obtain ⟨v1, vs1, d1, ds1, p1, q1, rfl, rfl, rfl, h1, r1⟩ := trodAll_cons r0
  obtain ⟨rfl, rfl, rfl⟩ := trodAll_nil r1
  obtain rfl : args = #[v0, v1] := by cases args; simp_all
  obtain ⟨rfl, rfl⟩ := trodVars_none hV
  obtain ⟨a0, rfl, rfl, rfl, w0⟩ := open_int Try.underlying3 (hval 0 3 v0 rfl rfl) h0
  obtain ⟨a1, len1, cap1, rfl⟩ := okWide_slice Try.underlying33 (hval 1 33 v1 rfl rfl)
  have k1 := h1
  have lt1 : ∀ x ∈ p1, x.block < W.heap.size := by obtain ⟨m, hm⟩ := k1; exact DataW.trod_lt m _ _ _ hm
  obtain ⟨z1, zl1, zs1, zb1, zc1, ze1, zd1⟩ := open_ops h1
  have zn1 := len_le_ops hsz (j := 1) rfl rfl zd1
  clear hA0 hval0
  refine (walk a0 a1 len1 cap1 z1.1 z1.2.1 z1.2.2 zs1 zn1).mono fun e W' ⟨he, bel⟩ => ?_
  subst he
  exact ⟨_, rfl, _, _, _, [], _, [], hW', trodAll_mk1 (shut_bool Try.underlying4 _), (trodAll_cons_mk (shut_int Try.underlying3 w0) (trodAll_cons_mk (Below.trod laid_out (by kernel_rfl) (of_decide_eq_true (by kernel_rfl)) k1 bel lt1) trodAll_mk0)), rfl, bel.frame _, fun h => by cases h⟩

theorem over : Rows.spansShapeRow.holds Try.pinned (OpenSpec.ofChange Rows.spansShapeSpec) :=
  OpenClaim.holds_of_wide 6 Try.f6 rfl rfl rfl rfl rfl rfl rfl ⟨rfl, rfl, rfl, rfl, rfl⟩ rfl rfl rfl rfl rfl (by kernel_rfl) Try.func6 (by kernel_rfl)
    (of_decide_eq_true (by kernel_rfl)) (by unfold Func.isWrapper; first | (rw [if_pos (by decide +kernel)]; kernel_rfl) | (rw [if_neg (by decide +kernel)]; exact ⟨rfl, rfl⟩))
    (fun os started H enc _ => lifted os started H enc)

end Go.Proofs.Ytmcemfjnenfcaaa.spansShape
namespace Go.Proofs.Ytmcemfjnenfcaaa

/-- The statement. -/
theorem spansShape_holds : Rows.SpansShapeSaid := spansShape.over
#print axioms spansShape_holds
end Go.Proofs.Ytmcemfjnenfcaaa
