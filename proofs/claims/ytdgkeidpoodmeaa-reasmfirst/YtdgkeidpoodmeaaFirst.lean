/-
  Proved: for every room and all scripts (each slice within the form's own reach) the law turnpikelaw03.ReasmFirst returns true, and its arguments read as they did. No other condition.
-/
import Derived.Test.YtdgkeidpoodmeaaRows
import Derived.Test.YtdgkeidpoodmeaaAwake
import Derived.Test.YtdgkeidpoodmeaaPair
import Derived.WalkKit
import Derived.ProofKit
import Derived.OpenShut
import Derived.ShutString
import Derived.ChangeOld
import Derived.Below
import Derived.SizedLaws
namespace Go.Proofs.Ytdgkeidpoodmeaa.reasmFirst
open Go.ChangeShapes Go.WideShapes Go.ChangeAt Go.RowKit
open Go.ChangeMaps (open_string shut_string)
set_option linter.unusedVariables false

variable {W : World}

set_option maxHeartbeats 1000000 in
theorem walk_bad (room : Int) (a0 a1 : Option Addr) (l0 p0 l1 p1 : Nat) (hb : ¬ (1 ≤ room ∧ room ≤ 65536)) : Calls Try.prog 7 #[.int .i64 room, .slice a0 l0 p0, .slice a1 l1 p1] W fun e w' => e = .returned (.bool true) ∧ Below W.heap.size W w' := by
  have HN := hid hb
  clear hb
  go_enter Try.func7, Try.ntmps7
  go_wp2_with fail
  refine (new_bad room W HN.out).mono ?_
  rintro e w1 ⟨rfl, rfl⟩
  go_wp2_with fail
  refine (new_bad room W HN.out).mono ?_
  rintro e w1 ⟨rfl, rfl⟩
  by_cases h1 : room < 1
  · have hd : decide (room < 1) = true := by simp [h1]
    go_wp2_with fail
    refine (awake_any _).mono ?_
    rintro e w7 ⟨rfl, hq7⟩
    have Q7 := hid hq7
    clear hq7
    go_wp2
    go_ret
    exact ⟨rfl, Q7.out⟩
  · have hd : decide (room < 1) = false := by simp [h1]
    have hd2 : 65536 < room := by have := HN.out; omega
    go_wp2_with fail
    refine (awake_any _).mono ?_
    rintro e w7 ⟨rfl, hq7⟩
    have Q7 := hid hq7
    clear hq7
    go_wp2
    go_ret
    exact ⟨rfl, Q7.out⟩

set_option maxHeartbeats 8000000 in
set_option maxRecDepth 100000 in
theorem walk_good (room : Int) (a0 a1 : Option Addr) (l0 p0 l1 p1 : Nat) (z0 z1 : Nat → Cl) (g0 : ∀ i, i < l0 → Good W (z0 i)) (s0' : SegO W a0 l0 z0) (g1 : ∀ i, i < l1 → Good W (z1 i)) (s1' : SegO W a1 l1 z1)
    (n0 : l0 * 48 ≤ 140737488351232 ∧ ∀ i, i < l0 → (z0 i).dn ≤ 140737488351232) (n1 : l1 * 48 ≤ 140737488351232 ∧ ∀ i, i < l1 → (z1 i).dn ≤ 140737488351232) (r0 : 1 ≤ room) (r1 : room ≤ 65536) :
    Calls Try.prog 7 #[.int .i64 room, .slice a0 l0 p0, .slice a1 l1 p1] W fun e w' => e = .returned (.bool true) ∧ Below W.heap.size W w' := by
  have G0 := hid g0
  have S0 := hid s0'
  have G1 := hid g1
  have S1 := hid s1'
  have N0 := hid n0
  have N1 := hid n1
  have hl0 := n0.1
  have hl1 := n1.1
  clear g0 g1 s0' s1' n0 n1
  go_enter Try.func7, Try.ntmps7
  go_wp2_with fail
  refine (new_good room W r0 r1).mono ?_
  rintro e w1 ⟨rfl, hb1, hq1, hlt1⟩
  have B1 := hid hb1
  have Q1 := hid hq1
  clear hb1 hq1
  go_wp2_with fail
  refine (new_good room w1 r0 r1).mono ?_
  rintro e w2 ⟨rfl, hb2, hq2, hlt2⟩
  have T0 := hid (show Two W w2 W.heap.size none 0 0 w1.heap.size none 0 0 room s0 s0 from ⟨B1.out.q hq2, hb2, ok0 r0 r1, ok0 r0 r1, (by
      rintro i (rfl | h)
      · exact Nat.le_refl _
      · cases h), (by
      rintro i (rfl | h)
      · omega
      · cases h), (by
      rintro i (rfl | h) (h2 | h2)
      · omega
      · cases h2
      · cases h
      · cases h), Q1.out.trans hq2⟩)
  clear hb2 hq2 B1 Q1
  generalize hrb : W.heap.size = rb at *
  have HRB := hid hrb
  clear hrb
  generalize w1.heap.size = rc at *
  go_wp2
  go_loopw [58] (fun v wr => ∃ k : Nat, ∃ a n c : _, ∃ a2 n2 c2 : _, ∃ s : S, k ≤ l0 ∧ v = .int .i64 k ∧ Two W wr rb a n c rc a2 n2 c2 room s s ∧ s.off = 0) (fun i _ => l0 - (intOf i).toNat)
  case atStart => exact ⟨0, none, 0, 0, none, 0, 0, s0, Nat.zero_le _, rfl, T0.out, rfl⟩
  case round =>
    obtain ⟨k, a, n, c, a2, n2, c2, s, hk, rfl, htw, hof⟩ := hrel
    have TW := hid htw
    have HOF := hid hof
    clear htw hof
    by_cases hkn : k < l0
    · obtain ⟨b, off, rfl, hcl⟩ := (S0.out.q TW.out.q) (by omega)
      obtain ⟨d0, d1, d2, d3⟩ := hcl k hkn
      have hlt' : (k : Int) < (l0 : Int) := by omega
      have GG := hid (G0.out k hkn)
      have GN := hid (N0.out.2 k hkn)
      clear hcl
      generalize z0 k = z at *
      have QX := hid ((Q.refl wr).alloc (.cells #[.int .i64 z.kd, .int .i64 z.p, .slice z.da z.dn z.dc, .bool z.f] 40))
      have X1 := hid (show Thr (wr.alloc (.cells #[.int .i64 z.kd, .int .i64 z.p, .slice z.da z.dn z.dc, .bool z.f] 40)) wr.heap.size z from heap_alloc_new wr _)
      have TX := hid (TW.out.go QX.out)
      have XF := hid (show ¬ Fp rb a wr.heap.size from fun h => by have := TW.out.b1.lt _ h; omega)
      have ZF := hid (show ∀ (rr : Nat) (aa : Option Addr), (∀ i, Fp rr aa i → W.heap.size ≤ i) → (z.zs ≠ [] → ∀ b, blk z.da = some b → ¬ Fp rr aa b) from fun rr aa h hne b hb hF => by
        obtain ⟨b', o', e, hc⟩ := GG.out.seg hne
        have e' : b' = b := by rw [e] at hb; simpa [blk] using hb
        have h1 := lt_of_cell (hc 0 (by cases hz : z.zs with | nil => exact absurd hz hne | cons x r => simp))
        have h2 := h b hF
        omega)
      by_cases hk1 : z.kd = 1
      · have x0 := X1.out.c0
        have x1 := X1.out.c1
        have x2 := X1.out.c2
        have x3 := X1.out.c3
        rw [hk1] at d0 x0
        go_wp2_with fail
        rw [← hk1]
        generalize wr.alloc (.cells #[.int .i64 z.kd, .int .i64 z.p, .slice z.da z.dn z.dc, .bool z.f] 40) = wx at *
        refine (lput_any rb room s a n c z.kd z.p z.da z.dn z.dc z.zs z.f wx TX.out.b1 TX.out.o1 (by have := GN.out; omega) (GG.out.seg.q (TX.out.q)) GG.out.len (ZF.out rb a TX.out.w1)).mono ?_
        rintro e wm ⟨a', n', c', rfl, hb3, hk3, hbb3⟩
        have hX3 := X1.out.keep hk3 XF.out
        have TM := hid (TX.out.fst hk3 hb3 (ok_putAll TX.out.o1 _ _ _) hbb3)
        have y0 := hX3.c0
        have y1 := hX3.c1
        have y2 := hX3.c2
        have y3 := hX3.c3
        rw [hk1] at y0
        have X3 := hid hX3
        have hxl := lt_of_block hX3
        have FN := hid (fun h => fresh_none (room := room) (s := s) (p := z.p) (zs := z.zs) (f := z.f) (by rw [GG.out.len]; exact h))
        have HOF2 := hid (show (putAll room s z.p z.zs z.f).off = 0 from by rw [(ext_put (ext_refl s) room z.p z.zs z.f).1]; exact HOF.out)
        clear hb3 hk3 hbb3 hX3 x0 x1 x2 x3
        by_cases he : errOf room s z.p z.dn z.f = 0
        · rw [he]
          go_wp2_with fail
          rw [← hk1]
          refine (lput_any rc room s a2 n2 c2 z.kd z.p z.da z.dn z.dc z.zs z.f wm TM.out.b2 TM.out.o2 (by have := GN.out; omega) (GG.out.seg.q (TM.out.q)) GG.out.len (ZF.out rc a2 TM.out.w2)).mono ?_
          rintro e wn ⟨a3, n3, c3, rfl, hb4, hk4, hbb4⟩
          have TN := hid ((TM.out.swap.fst hk4 hb4 (ok_putAll TM.out.o2 _ _ _) hbb4).swap)
          clear hb4 hk4 hbb4 y0 y1 y2 y3
          generalize putAll room s z.p z.zs z.f = s' at *
          go_wp2
          go_roundw
          case rel => exact ⟨k + 1, a', n', c', a3, n3, c3, s', by omega, by go_num, TN.out, HOF2.out⟩
          case measure => simp [intOf]; omega
        · obtain ⟨f1, f2⟩ := FN.out he
          rw [f1]
          rw [f2] at TM
          have he' : (errOf room s z.p z.dn z.f == 0) = false := by simpa using he
          generalize errOf room s z.p z.dn z.f = er at *
          clear f1 f2
          go_wp2
          go_roundw
          case rel => exact ⟨k + 1, a', n', c', a2, n2, c2, s, by omega, by go_num, TM.out, HOF.out⟩
          case measure => simp [intOf]; omega
      · have x0 := X1.out.c0
        have hk1' : (z.kd != 1) = true := by simpa using hk1
        go_wp2
        go_roundw
        case rel => exact ⟨k + 1, a, n, c, a2, n2, c2, s, by omega, by go_num, TX.out, HOF.out⟩
        case measure => simp [intOf]; omega
    · obtain rfl : k = l0 := by omega
      go_wp2_with fail
      refine (ready_any rb room _ _ _ _ _ _ a n c wr TW.out.b1.hd).mono ?_
      rintro e w3 ⟨rfl, rfl⟩
      generalize hws : wr = ws at *
      clear hws
      have HR := hid (show rdy s.xs ≤ 65536 from by have := rdy_le s.xs; have := TW.out.o1.len; have := TW.out.o1.r1; omega)
      go_wp2
      go_loopw [84] (fun v wr => ∃ j : Nat, ∃ a' n' c' : _, ∃ t : S, j ≤ l1 ∧ v = .int .i64 j ∧ Two W wr rb a' n' c' rc a2 n2 c2 room t s ∧ Ext s t) (fun i _ => l1 - (intOf i).toNat)
      case atStart => exact ⟨0, a, n, c, s, Nat.zero_le _, rfl, TW.out, ext_refl s⟩
      case round =>
        obtain ⟨j, a', n', c', t, hj, rfl, htw, hex⟩ := hrel
        have TV := hid htw
        have EX := hid hex
        clear htw hex
        by_cases hjn : j < l1
        · obtain ⟨b, off, rfl, hcl⟩ := (S1.out.q TV.out.q) (by omega)
          obtain ⟨d0, d1, d2, d3⟩ := hcl j hjn
          have hlt' : (j : Int) < (l1 : Int) := by omega
          have GG := hid (G1.out j hjn)
          have GN := hid (N1.out.2 j hjn)
          clear hcl
          generalize z1 j = z at *
          have QX := hid ((Q.refl wr).alloc (.cells #[.int .i64 z.kd, .int .i64 z.p, .slice z.da z.dn z.dc, .bool z.f] 40))
          have X1 := hid (show Thr (wr.alloc (.cells #[.int .i64 z.kd, .int .i64 z.p, .slice z.da z.dn z.dc, .bool z.f] 40)) wr.heap.size z from heap_alloc_new wr _)
          have TX := hid (TV.out.go QX.out)
          have ZF := hid (show (z.zs ≠ [] → ∀ b, blk z.da = some b → ¬ Fp rb a' b) from fun hne b hb hF => by
            obtain ⟨b', o', e, hc⟩ := GG.out.seg hne
            have e' : b' = b := by rw [e] at hb; simpa [blk] using hb
            have h1 := lt_of_cell (hc 0 (by cases hz : z.zs with | nil => exact absurd hz hne | cons x r => simp))
            have h2 := TV.out.w1 b hF
            omega)
          have x0 := X1.out.c0
          have x1 := X1.out.c1
          have x2 := X1.out.c2
          have x3 := X1.out.c3
          by_cases hk1 : z.kd = 1
          · rw [hk1] at x0 TX
            go_wp2_with fail
            refine (lput_any rb room t a' n' c' 1 z.p z.da z.dn z.dc z.zs false _ TX.out.b1 TX.out.o1 (by have := GN.out; omega) (GG.out.seg.q (TX.out.q)) GG.out.len ZF.out).mono ?_
            rintro e wn ⟨a3, n3, c3, rfl, hb4, hk4, hbb4⟩
            have TN := hid (TX.out.fst hk4 hb4 (ok_putAll TX.out.o1 _ _ _) hbb4)
            have EN := hid (ext_put EX.out room z.p z.zs false)
            clear hb4 hk4 hbb4 x0 x1 x2 x3
            generalize putAll room t z.p z.zs false = t' at *
            go_wp2
            go_roundw
            case rel => exact ⟨j + 1, a3, n3, c3, t', by omega, by go_num, TN.out, EN.out⟩
            case measure => simp [intOf]; omega
          · have hk1' : (z.kd == 1) = false := by simpa using hk1
            go_wp2
            go_roundw
            case rel => exact ⟨j + 1, a', n', c', t, by omega, by go_num, TX.out, EX.out⟩
            case measure => simp [intOf]; omega
        · obtain rfl : j = l1 := by omega
          go_wp2_with fail
          refine (read_any rb room t a' n' c' (rdy s.xs : Int) wr TV.out.b1 TV.out.o1).mono ?_
          rw [readM_nat t (rdy s.xs) (ext_rdy EX.out), ext_vals EX.out]
          rintro e w5 ⟨a5, n5, c5, D, rfl, hb5, hs5, hD5, hk5, hbb5⟩
          have T5 := hid (TV.out.fst hk5 hb5 (ok_read TV.out.o1 _) (fun b hb => .inl (hbb5 b hb)))
          have S5 := hid hs5
          have D5 := hid hD5
          clear hb5 hs5 hD5 hk5 hbb5
          generalize endOf (readSt t (rdy s.xs : Int)) = e5 at *
          go_wp2_with fail
          refine (read_any rc room s a2 n2 c2 (rdy s.xs : Int) w5 T5.out.b2 T5.out.o2).mono ?_
          rw [readM_nat s (rdy s.xs) (Nat.le_refl _)]
          rintro e w6 ⟨a6, n6, c6, D', rfl, hb6, hs6, hD6, hk6, hbb6⟩
          have T6 := hid (T5.out.swap.fst hk6 hb6 (ok_read T5.out.o2 _) (fun b hb => .inl (hbb6 b hb)))
          have S6 := hid hs6.seg
          have S5' := hid ((S5.out.keep hk6 (fun b hb e => by
            have e' : D = b := by simpa [blk] using hb
            have h1 : Fp rc a2 b := e
            have h2 := TV.out.b2.lt b h1
            have := D5.out; omega)).seg)
          have VL := hid (show (vals (s.xs.take (rdy s.xs))).length = rdy s.xs from by rw [vals_len, List.length_take]; have := rdy_le s.xs; omega)
          have OF := hid (show (readSt s (rdy s.xs : Int)).off = (rdy s.xs : Int) from by
            show s.off + (readM s (rdy s.xs : Int) : Int) = _
            rw [readM_nat s (rdy s.xs) (Nat.le_refl _), HOF.out]; omega)
          clear hb6 hs6 hD6 hk6 hbb6 S5
          generalize endOf (readSt s (rdy s.xs : Int)) = e6 at *
          have H6 := hid T6.out.b1.hd
          rw [OF.out] at H6
          go_wp2_with fail
          refine (offset_any rc room _ _ _ _ _ _ a6 n6 c6 w6 H6.out).mono ?_
          rintro e w7 ⟨rfl, rfl⟩
          have hee : ((rdy s.xs : Int) == (rdy s.xs : Int)) = true := by simp
          have HR2 := HR.out
          go_wp2_with fail
          refine (same_any _ _ (rdy s.xs) (rdy s.xs) (rdy s.xs) _ w6 S5'.out S6.out VL.out (by omega)).mono ?_
          rintro e w7 ⟨rfl, kq, rfl⟩
          have Q7 := hid (T6.out.q.drewN kq)
          generalize w6.drewN kq = w7 at *
          go_wp2_with fail
          refine (awake_any w7).mono ?_
          rintro e w8 ⟨rfl, hq8⟩
          have Q8 := hid (Q7.out.trans hq8)
          clear hq8
          go_wp2
          go_ret
          exact ⟨rfl, Q8.out⟩

theorem walk (room : Int) (a0 a1 : Option Addr) (l0 p0 l1 p1 : Nat) (z0 z1 : Nat → Cl) (g0 : ∀ i, i < l0 → Good W (z0 i)) (s0' : SegO W a0 l0 z0) (g1 : ∀ i, i < l1 → Good W (z1 i)) (s1' : SegO W a1 l1 z1)
    (n0 : l0 * 48 ≤ 140737488351232 ∧ ∀ i, i < l0 → (z0 i).dn ≤ 140737488351232) (n1 : l1 * 48 ≤ 140737488351232 ∧ ∀ i, i < l1 → (z1 i).dn ≤ 140737488351232) :
    Calls Try.prog 7 #[.int .i64 room, .slice a0 l0 p0, .slice a1 l1 p1] W fun e w' => e = .returned (.bool true) ∧ Below W.heap.size W w' := by
  by_cases h : 1 ≤ room ∧ room ≤ 65536
  · exact walk_good room a0 a1 l0 p0 l1 p1 z0 z1 g0 s0' g1 s1' n0 n1 h.1 h.2
  · exact walk_bad room a0 a1 l0 p0 l1 p1 h

set_option maxRecDepth 100000 in
theorem lifted (os : Os) (started : os.Started) (H : Type) (enc : TypeId × Value → H) :
    ReturnsInHanded {} Try.checked os 7 .any (Rows.reasmFirstSpec.pre6 enc Try.prog Try.f7 Rows.reasmFirstRow.domain false) (Rows.reasmFirstSpec.post enc Try.prog Try.f7 false true false false) := by
  refine returnsInHanded_of_change_sized (C := Try.checked) own_knob started (by kernel_rfl) Try.func7
    (ChangeSpec.witness6 (enc := enc) (C := Try.checked) false ⟨#[], #[.int .i64 0, .slice none 0 0, .slice none 0 0], []⟩ 8 (by kernel_rfl) (by kernel_rfl) (by kernel_rfl) (by kernel_rfl)) ?_
  intro W base args ds gs before hval0 hW hcnd hsz0 _
  have hval : ∀ (j : Nat) t v, Try.f7.params[j]? = some t → args[j]? = some v → Value.okWide Try.prog W .any base t v := hval0
  have hsz : (DataW.weightsEach Try.prog (Try.f7.params.toList ++ Rows.reasmFirstSpec.plain.varTypes Try.prog) (ds ++ gs)).all (· ≤ reachBytes) = true := hsz0
  have hW' := hW
  obtain ⟨p, q, hA0, hV, rfl, hfz, hnd⟩ := hW
  have hA : DataW.TrodAll enc Try.prog W 0 (fun _ => true) true Try.f7.params.toList args.toList ds p := hA0
  rw [Try.params7] at hA hval hsz
  obtain ⟨v0, vs0, d0, ds0, p0, q0, hargs, rfl, rfl, h0, r0⟩ := trodAll_cons hA
  obtain ⟨v1, vs1, d1, ds1, p1, q1, rfl, rfl, rfl, h1, r1⟩ := trodAll_cons r0
  obtain ⟨v2, vs2, d2, ds2, p2, q2, rfl, rfl, rfl, h2, r2⟩ := trodAll_cons r1
  obtain ⟨rfl, rfl, rfl⟩ := trodAll_nil r2
  obtain rfl : args = #[v0, v1, v2] := by cases args; simp_all
  obtain ⟨rfl, rfl⟩ := trodVars_none hV
  obtain ⟨a0, rfl, rfl, rfl, w0⟩ := open_int Try.underlying3 (hval 0 3 v0 rfl rfl) h0
  obtain ⟨a1, len1, cap1, rfl⟩ := okWide_slice Try.underlying34 (hval 1 34 v1 rfl rfl)
  have k1 := h1
  have lt1 : ∀ x ∈ p1, x.block < W.heap.size := by obtain ⟨m, hm⟩ := k1; exact DataW.trod_lt m _ _ _ hm
  obtain ⟨z1, zl1, zs1, zb1, zc1, ze1, zd1⟩ := open_ops h1
  have zn1 := len_le_ops hsz (j := 1) rfl rfl zd1
  obtain ⟨a2, len2, cap2, rfl⟩ := okWide_slice Try.underlying34 (hval 2 34 v2 rfl rfl)
  have k2 := h2
  have lt2 : ∀ x ∈ p2, x.block < W.heap.size := by obtain ⟨m, hm⟩ := k2; exact DataW.trod_lt m _ _ _ hm
  obtain ⟨z2, zl2, zs2, zb2, zc2, ze2, zd2⟩ := open_ops h2
  have zn2 := len_le_ops hsz (j := 2) rfl rfl zd2
  clear hA0 hval0
  refine (walk a0 a1 a2 len1 cap1 len2 cap2 z1 z2 zl1 zs1 zl2 zs2 zn1 zn2).mono fun e W' ⟨he, bel⟩ => ?_
  subst he
  exact ⟨_, rfl, _, _, _, [], _, [], hW', trodAll_mk1 (shut_bool Try.underlying4 _), (trodAll_cons_mk (shut_int Try.underlying3 w0) (trodAll_cons_mk (Below.trod laid_out (by kernel_rfl) (of_decide_eq_true (by kernel_rfl)) k1 bel lt1) (trodAll_cons_mk (Below.trod laid_out (by kernel_rfl) (of_decide_eq_true (by kernel_rfl)) k2 bel lt2) trodAll_mk0))), rfl, bel.frame _, fun h => by cases h⟩

theorem over : Rows.reasmFirstRow.holds Try.pinned (OpenSpec.ofChange Rows.reasmFirstSpec) :=
  OpenClaim.holds_of_wide 7 Try.f7 rfl rfl rfl rfl rfl rfl rfl ⟨rfl, rfl, rfl, rfl, rfl⟩ rfl rfl rfl rfl rfl (by kernel_rfl) Try.func7 (by kernel_rfl)
    (of_decide_eq_true (by kernel_rfl)) (by unfold Func.isWrapper; first | (rw [if_pos (by decide +kernel)]; kernel_rfl) | (rw [if_neg (by decide +kernel)]; exact ⟨rfl, rfl⟩))
    (fun os started H enc _ => lifted os started H enc)

end Go.Proofs.Ytdgkeidpoodmeaa.reasmFirst
namespace Go.Proofs.Ytdgkeidpoodmeaa

/-- The statement. -/
theorem reasmFirst_holds : Rows.ReasmFirstSaid := reasmFirst.over
#print axioms reasmFirst_holds
end Go.Proofs.Ytdgkeidpoodmeaa
