/-
  Proved: for every room and every script (each slice within the form's own reach) the law turnpikelaw03.ReasmPlays returns true, and its arguments read as they did. No other condition.
-/
import Derived.Test.YtdgkeidpoodmeaaRows
import Derived.Test.YtdgkeidpoodmeaaAwake
import Derived.Test.YtdgkeidpoodmeaaRefPut
import Derived.Test.YtdgkeidpoodmeaaRefRead
import Derived.WalkKit
import Derived.BigQuiet
import Derived.Deep.QuietTactic
import Derived.ProofKit
import Derived.OpenShut
import Derived.ShutString
import Derived.ChangeOld
import Derived.Below
import Derived.SizedLaws
namespace Go.Proofs.Ytdgkeidpoodmeaa.reasmPlays
open Go.ChangeShapes Go.WideShapes Go.ChangeAt Go.RowKit
open Go.ChangeMaps (open_string shut_string)
set_option linter.unusedVariables false

variable {W : World}

/-- Both buffers hold the same, apart from one another and from all that was there. -/
structure Inv (W w : World) (rb : Nat) (a : Option Addr) (n c : Nat) (rd : Nat) (x : A) (m : Nat) (room : Int) (s : S) : Prop where
  bf : Bf w rb a n c room s
  rw : Rw w rd x m room s.off s.high s.fin s.known s.xs
  ok : Ok room s
  w1 : ∀ i, Fp rb a i → W.heap.size ≤ i
  w2 : ∀ i, Fr rd x i → W.heap.size ≤ i
  ap : ∀ i, Fp rb a i → ¬ Fr rd x i
  q : Q W w
theorem Inv.go {w w' : World} {rb : Nat} {a : Option Addr} {n c : Nat} {rd : Nat} {x : A} {m : Nat} {room : Int} {s : S} (h : Inv W w rb a n c rd x m room s) (k : Q w w') : Inv W w' rb a n c rd x m room s :=
  ⟨h.bf.q k, h.rw.q k, h.ok, h.w1, h.w2, h.ap, h.q.trans k⟩
/-- The document's buffer behind a call of the program's. -/
theorem Inv.mid {w w' : World} {rb : Nat} {a : Option Addr} {n c : Nat} {rd : Nat} {x : A} {m : Nat} {room : Int} {s : S} (h : Inv W w rb a n c rd x m room s) (k : Keep (Fp rb a) w w') : Rw w' rd x m room s.off s.high s.fin s.known s.xs :=
  h.rw.keep k (fun i h2 h1 => h.ap i h1 h2)
/-- Both have gone on. -/
theorem Inv.step {w w2 w3 : World} {rb : Nat} {a a' : Option Addr} {n c n' c' : Nat} {rd : Nat} {x x' : A} {m m' : Nat} {room : Int} {s s' : S} (h : Inv W w rb a n c rd x m room s)
    (k2 : Keep (Fp rb a) w w2) (b2 : Bf w2 rb a' n' c' room s') (f2 : ∀ b, blk a' = some b → blk a = some b ∨ w.heap.size ≤ b) (k3 : Keep (Fr rd x) w2 w3) (r3 : Rw w3 rd x' m' room s'.off s'.high s'.fin s'.known s'.xs) (f3 : ∀ b, Fr rd x' b → Fr rd x b ∨ w2.heap.size ≤ b)
    (o : Ok room s') : Inv W w3 rb a' n' c' rd x' m' room s' := by
  have z2 := k2.size
  have hs := h.q.size
  have f2' : ∀ i, Fp rb a' i → Fp rb a i ∨ w.heap.size ≤ i := by
    rintro i (rfl | hi)
    · exact .inl (.inl rfl)
    · exact (f2 i hi).imp (fun h => .inr h) id
  have d2 : ∀ i, Fp rb a' i → ¬ Fr rd x i := fun i hi hF => by
    rcases f2' i hi with hh | hh
    · exact h.ap i hh hF
    · have := h.rw.lt i hF; omega
  refine ⟨b2.keep k3 d2, r3, o, ?_, ?_, ?_, ?_⟩
  · intro i hi
    rcases f2' i hi with hh | hh
    · exact h.w1 i hh
    · omega
  · intro i hi
    rcases f3 i hi with hh | hh
    · exact h.w2 i hh
    · omega
  · intro i hi hF
    rcases f3 i hF with hh | hh
    · exact d2 i hi hh
    · have := b2.lt i hi; omega
  · have k' : Keep (fun b => W.heap.size ≤ b) W w3 := ((Keep.ofQ h.q).trans (k2.mono (fun i _ e => h.w1 i e))).trans (k3.mono (fun i _ e => h.w2 i e))
    exact k'.toQ (fun i hi e => by omega)

set_option maxHeartbeats 1000000 in
set_option maxRecDepth 100000 in
theorem walk_bad (room : Int) (a0 : Option Addr) (l0 p0 : Nat) (hb : ¬ (1 ≤ room ∧ room ≤ 65536)) : Calls Try.prog 4 #[.int .i64 room, .slice a0 l0 p0] W fun e w' => e = .returned (.bool true) ∧ Below W.heap.size W w' := by
  have HG := hid (show decide (1 ≤ room ∧ room ≤ 65536) = false by simp; omega)
  go_enter Try.func4, Try.ntmps4
  go_wp2_with fail
  refine (new_bad room W hb).mono ?_
  rintro e w1 ⟨rfl, rfl⟩
  go_wp2_with fail
  refine (good_any room _).mono ?_
  rw [HG.out]
  rintro e w2 ⟨rfl, rfl⟩
  go_wp2_with fail
  refine (awake_any _).mono ?_
  rintro e w7 ⟨rfl, hq7⟩
  have Q7 := hid hq7
  clear hq7
  go_wp2
  go_ret
  exact ⟨rfl, Q7.out⟩

set_option maxHeartbeats 8000000 in
set_option maxRecDepth 100000 in
theorem walk_good (room : Int) (a0 : Option Addr) (l0 p0 : Nat) (z0 : Nat → Cl) (g0 : ∀ i, i < l0 → Good W (z0 i)) (s0' : SegO W a0 l0 z0)
    (n0 : l0 * 48 ≤ 140737488351232 ∧ ∀ i, i < l0 → (z0 i).dn ≤ 140737488351232) (r0 : 1 ≤ room) (r1 : room ≤ 65536) :
    Calls Try.prog 4 #[.int .i64 room, .slice a0 l0 p0] W fun e w' => e = .returned (.bool true) ∧ Below W.heap.size W w' := by
  have G0 := hid g0
  have S0 := hid s0'
  have N0 := hid n0
  have hl0 := n0.1
  have HG := hid (show decide (1 ≤ room ∧ room ≤ 65536) = true by simp; omega)
  clear g0 s0' n0
  go_enter Try.func4, Try.ntmps4
  go_wp2_with fail
  refine (new_good room W r0 r1).mono ?_
  rintro e w1 ⟨rfl, hb1, hq1, hlt1⟩
  have B1 := hid hb1
  have Q1 := hid hq1
  clear hb1 hq1
  go_wp2_with fail
  refine (good_any room _).mono ?_
  rw [HG.out]
  rintro e w2 ⟨rfl, rfl⟩
  have hQA : Q w1 (w1.alloc (.cells #[.int .i64 room, .int .i64 0, .int .i64 0, .bool false, .int .i64 0, .slice none 0 0, .slice none 0 0] 38)) := (Q.refl w1).alloc _
  have IV0 := hid (show Inv W (w1.alloc (.cells #[.int .i64 room, .int .i64 0, .int .i64 0, .bool false, .int .i64 0, .slice none 0 0, .slice none 0 0] 38)) W.heap.size none 0 0 w1.heap.size ⟨none, 0, none, 0⟩ 0 room s0 from
    ⟨B1.out.q hQA, ⟨heap_alloc_new w1 _, sub_nil _ _ _, sub_nil _ _ _, by simp [blk], by simp [blk], by simp [blk]⟩, ok0 r0 r1, (by
      rintro i (rfl | h)
      · exact Nat.le_refl _
      · cases h), (by
      rintro i (rfl | h | h)
      · omega
      · cases h
      · cases h), (by
      rintro i (rfl | h) (h2 | h2 | h2)
      · omega
      · cases h2
      · cases h2
      · cases h
      · cases h
      · cases h), Q1.out.trans hQA⟩)
  clear hQA B1 Q1
  go_wp2
  generalize w1.alloc (.cells #[.int .i64 room, .int .i64 0, .int .i64 0, .bool false, .int .i64 0, .slice none 0 0, .slice none 0 0] 38) = wz at *
  generalize hrb : W.heap.size = rb at *
  have HRB := hid hrb
  clear hrb
  generalize w1.heap.size = rd at *
  go_loopw [46] (fun v wr => ∃ k : Nat, ∃ a n c : _, ∃ x : A, ∃ m : Nat, ∃ s : S, k ≤ l0 ∧ v = .int .i64 k ∧ Inv W wr rb a n c rd x m room s) (fun i _ => l0 - (intOf i).toNat)
  case atStart => exact ⟨0, none, 0, 0, _, 0, s0, Nat.zero_le _, rfl, IV0.out⟩
  case round =>
    obtain ⟨k, a, n, c, x, m, s, hk, rfl, hiv⟩ := hrel
    have IR := hid hiv
    clear hiv IV0
    generalize hws : wr = ws at *
    clear hws
    by_cases hkn : k < l0
    · obtain ⟨b, off, rfl, hcl⟩ := (S0.out.q IR.out.q) (by omega)
      obtain ⟨d0, d1, d2, d3⟩ := hcl k hkn
      have hlt' : (k : Int) < (l0 : Int) := by omega
      have GG := hid (G0.out k hkn)
      have GN := hid (N0.out.2 k hkn)
      clear hcl
      generalize z0 k = z at *
      have QX := hid ((Q.refl ws).alloc (.cells #[.int .i64 z.kd, .int .i64 z.p, .slice z.da z.dn z.dc, .bool z.f] 40))
      have X1 := hid (show Thr (ws.alloc (.cells #[.int .i64 z.kd, .int .i64 z.p, .slice z.da z.dn z.dc, .bool z.f] 40)) ws.heap.size z from heap_alloc_new ws _)
      have IX := hid (IR.out.go QX.out)
      have XF := hid (show ¬ Fp rb a ws.heap.size from fun h => by have := IR.out.bf.lt _ h; omega)
      have ZF := hid (show z.zs ≠ [] → ∀ b, blk z.da = some b → b < W.heap.size from fun hne b hb => by
        obtain ⟨b', o', e, hc⟩ := GG.out.seg hne
        have e' : b' = b := by rw [e] at hb; simpa [blk] using hb
        have h1 := lt_of_cell (hc 0 (by cases hz : z.zs with | nil => exact absurd hz hne | cons x r => simp))
        omega)
      have x0 := X1.out.c0
      have x1 := X1.out.c1
      have x2 := X1.out.c2
      have x3 := X1.out.c3
      by_cases hk1 : z.kd = 1
      · rw [hk1] at d0 x0
        go_wp2_with fail
        rw [← hk1]
        generalize ws.alloc (.cells #[.int .i64 z.kd, .int .i64 z.p, .slice z.da z.dn z.dc, .bool z.f] 40) = wx at *
        refine (lput_any rb room s a n c z.kd z.p z.da z.dn z.dc z.zs z.f wx IX.out.bf IX.out.ok (by have := GN.out; omega) (GG.out.seg.q (IX.out.q)) GG.out.len (fun hne b hb hF => by have := ZF.out hne b hb; have := IX.out.w1 b hF; omega)).mono ?_
        rintro e wm ⟨a5, n5, c5, rfl, hb3, hk3, hbb3⟩
        have hX3 := X1.out.keep hk3 XF.out
        have t1 := hX3.c1
        have t2 := hX3.c2
        have t3 := hX3.c3
        have RM := hid (IX.out.mid hk3)
        have HB3 := hid hb3
        have HK3 := hid hk3
        have HF3 := hid hbb3
        have SM := hid ((GG.out.seg.q (IX.out.q)).keep' hk3 (fun hne b hb hF => by have := ZF.out hne b hb; have := IX.out.w1 b hF; omega))
        have OM := hid (ok_putAll IX.out.ok z.p z.zs z.f)
        clear hb3 hk3 hbb3 hX3 x0 x1 x2 x3
        go_wp2_with fail
        refine (rput_any rd x m room s z.p z.da z.dn z.dc z.zs z.f wm RM.out IX.out.ok (by have := GN.out; omega) SM.out GG.out.len (fun hne b hb hF => by have := ZF.out hne b hb; have := IX.out.w2 b hF; omega)).mono ?_
        rintro e w5 ⟨x5, m5, rfl, hr4, hk4, hf4⟩
        have IV := hid (IX.out.step HK3.out HB3.out HF3.out hk4 hr4 hf4 OM.out)
        clear hr4 hk4 hf4 t1 t2 t3 RM HB3 HK3 HF3 OM
        generalize putAll room s z.p z.zs z.f = s5 at *
        generalize freshOf room s z.p z.zs z.f = F5 at *
        generalize errOf room s z.p z.dn z.f = E5 at *
        have q1 : (F5 != F5) = false := by simp
        have q2 : (E5 != E5) = false := by simp
        have h5 := IV.out.bf.hd
        have A12 := hid (final_any rb room _ _ _ _ _ _ a5 n5 c5 w5 h5)
        have HN5 := hid (show m5 ≤ 65536 from by have := IV.out.ok.len; have := IV.out.ok.r1; have := IV.out.rw.len; omega)
        clear h5
        go_wp2_with fail
        refine A12.out.mono ?_
        rintro e w6 ⟨rfl, k6, rfl⟩
        have I6 := hid (IV.out.go ((Q.refl w5).drewN k6))
        generalize w5.drewN k6 = w6 at *
        have B1 := hid (fun k => (ready_any rb room _ _ _ _ _ _ a5 n5 c5 (w6.drewN k) (I6.out.bf.hd.q ((Q.refl w6).drewN k))).mono (R' := fun e w' => e = .returned (.int .i64 (rdy s5.xs)) ∧ w' = w6.drewN k) (by rintro e w' ⟨rfl, rfl⟩; exact ⟨rfl, rfl⟩))
        have B2 := hid (fun k => (rready_any rd x5 m5 room _ _ _ _ s5.xs (w6.drewN k) (I6.out.rw.q ((Q.refl w6).drewN k)) HN5.out).mono (R' := fun e w' => e = .returned (.int .i64 (rdy s5.xs)) ∧ w' = w6.drewN k) (by rintro e w' ⟨rfl, rfl⟩; exact ⟨rfl, rfl⟩))
        have B3 := hid (fun k => (held_any rb room _ _ _ _ _ _ a5 n5 c5 (w6.drewN k) (I6.out.bf.hd.q ((Q.refl w6).drewN k))).mono (R' := fun e w' => e = .returned (.int .i64 (heldN s5.xs)) ∧ w' = w6.drewN k) (by rintro e w' ⟨rfl, rfl⟩; exact ⟨rfl, rfl⟩))
        have B4 := hid (fun k => (rheld_any rd x5 m5 room _ _ _ _ s5.xs (w6.drewN k) (I6.out.rw.q ((Q.refl w6).drewN k)) HN5.out).mono (R' := fun e w' => e = .returned (.int .i64 (heldN s5.xs)) ∧ w' = w6.drewN k) (by rintro e w' ⟨rfl, rfl⟩; exact ⟨rfl, rfl⟩))
        have B5 := hid (fun k => (offset_any rb room _ _ _ _ _ _ a5 n5 c5 (w6.drewN k) (I6.out.bf.hd.q ((Q.refl w6).drewN k))).mono (R' := fun e w' => e = .returned (.int .i64 s5.off) ∧ w' = w6.drewN k) (by rintro e w' ⟨rfl, rfl⟩; exact ⟨rfl, rfl⟩))
        have B6 := hid (fun k => (high_any rb room _ _ _ _ _ _ a5 n5 c5 (w6.drewN k) (I6.out.bf.hd.q ((Q.refl w6).drewN k))).mono (R' := fun e w' => e = .returned (.int .i64 s5.high) ∧ w' = w6.drewN k) (by rintro e w' ⟨rfl, rfl⟩; exact ⟨rfl, rfl⟩))
        have v1 := I6.out.rw.hd.c1
        have v2 := I6.out.rw.hd.c2
        have v3 := I6.out.rw.hd.c3
        have v4 := I6.out.rw.hd.c4
        generalize rdy s5.xs = r5 at *
        generalize heldN s5.xs = h5 at *
        obtain ⟨of5, hi5, fi5, kn5, xs5⟩ := s5
        simp only at B1 B2 B3 B4 B5 B6 v1 v2 v3 v4
        have y1 : ((r5 : Int) != (r5 : Int)) = false := by simp
        have y2 : ((h5 : Int) != (h5 : Int)) = false := by simp
        have y3 : (of5 != of5) = false := by simp
        have y4 : (hi5 != hi5) = false := by simp
        have y5 : (fi5 != fi5) = false := by simp
        have y6 : (kn5 != kn5) = false := by simp
        go_wp2
        go_quiet (first | (go_at_call 13; exact Calls.quiet_of_same (B1.out _)) | (go_at_call 21; exact Calls.quiet_of_same (B2.out _)) | (go_at_call 16; exact Calls.quiet_of_same (B3.out _)) | (go_at_call 22; exact Calls.quiet_of_same (B4.out _)) | (go_at_call 14; exact Calls.quiet_of_same (B5.out _)) | (go_at_call 15; exact Calls.quiet_of_same (B6.out _)))
        go_wp2
        go_roundw
        case rel => exact ⟨k + 1, a5, n5, c5, x5, m5, ⟨of5, hi5, fi5, kn5, xs5⟩, by omega, by go_num, I6.out.go ((Q.refl w6).drewN nq)⟩
        case measure => simp [intOf]; omega

      · by_cases hk2 : z.kd = 2
        · rw [hk2] at d0 x0
          have hk1' : ((2 : Int) == 1) = false := by simp
          go_wp2_with fail
          rw [← hk2]
          generalize ws.alloc (.cells #[.int .i64 z.kd, .int .i64 z.p, .slice z.da z.dn z.dc, .bool z.f] 40) = wx at *
          refine (read_any rb room s a n c z.p wx IX.out.bf IX.out.ok).mono ?_
          rintro e wm ⟨a5, n5, c5, D, rfl, hb3, hs3, hD3, hk3, hbb3⟩
          have hX3 := X1.out.keep hk3 XF.out
          have t1 := hX3.c1
          have RM := hid (IX.out.mid hk3)
          have HB3 := hid hb3
          have HK3 := hid hk3
          have HF3 := hid (show ∀ b, blk a5 = some b → blk a = some b ∨ wx.heap.size ≤ b from fun b hb => .inl (hbb3 b hb))
          have HS3 := hid hs3
          have HD3 := hid hD3
          have HBB := hid hbb3
          have OM := hid (ok_read IX.out.ok z.p)
          have HML := hid (show readM s z.p ≤ 65536 from by have := readM_le s z.p; have := rdy_le s.xs; have := IX.out.ok.len; have := IX.out.ok.r1; omega)
          have HVL := hid (show (vals (s.xs.take (readM s z.p))).length = readM s z.p from by rw [vals_len, List.length_take]; have := readM_le s z.p; have := rdy_le s.xs; omega)
          clear hb3 hk3 hbb3 hX3 x0 x1 x2 x3 hs3 hD3
          go_wp2_with fail
          refine (rread_any rd x m room s z.p wm RM.out IX.out.ok).mono ?_
          rintro e w4 ⟨x5, m5, ao, co, rfl, hr4, hs4, hk4, hf4⟩
          have IV4 := hid (IX.out.step HK3.out HB3.out HF3.out hk4 hr4 (fun b hb => .inl (hf4 b hb)) OM.out)
          have HS4 := hid (HS3.out.keep hk4 (fun b hb hF => by
            have e' : D = b := by simpa [blk] using hb
            have h1 := IX.out.rw.lt b hF
            have := HD3.out
            omega))
          have HT4 := hid hs4
          have HDF := hid (show ∀ i, Fp rb a5 i ∨ Fr rd x5 i → i ≠ D from by
            intro i hi e
            rcases hi with (hi | hi) | hi
            · have := IX.out.bf.lt rb (.inl rfl); have := HD3.out; omega
            · have := IX.out.bf.lt _ (.inr (HBB.out _ hi)); have := HD3.out; omega
            · have := IX.out.rw.lt _ (hf4 _ hi); have := HD3.out; omega)
          have HDW := hid (show W.heap.size ≤ D from by have := IX.out.q.size; have := HD3.out; omega)
          clear hr4 hs4 hk4 hf4 t1 RM HB3 HK3 HF3 OM HS3
          generalize readSt s z.p = s5 at *
          generalize vals (s.xs.take (readM s z.p)) = vv at *
          generalize readM s z.p = mm at *
          generalize endOf s5 = E5 at *
          have q2 : (E5 != E5) = false := by simp
          go_wp2_with fail
          refine (same_any (some ⟨D, 0, none⟩) ao mm mm co vv w4 HS4.out.seg HT4.out HVL.out (by have := HML.out; omega)).mono ?_
          rintro e w7 ⟨rfl, k7, rfl⟩
          have IV7 := hid (IV4.out.go ((Q.refl w4).drewN k7))
          have HS7 := hid (HS4.out.q ((Q.refl w4).drewN k7))
          have hml := HML.out
          clear IV4 HS4 HT4
          generalize w4.drewN k7 = w7 at *
          go_wp2
          go_loopw [111, 19] (fun i _ wr => ∃ j : Nat, j ≤ mm ∧ i = .int .i64 j ∧ (∃ us : List Int, Sub wr 5 1 (some ⟨D, 0, none⟩) mm mm (us.map (.int .u8))) ∧ Keep (fun k => k = D) w7 wr) (fun i _ _ => mm - (intOf i).toNat)
          case atStart => exact ⟨0, Nat.zero_le _, rfl, ⟨vv, HS7.out⟩, Keep.refl _ _⟩
          case round =>
            obtain ⟨j, hj, rfl, ⟨us, hsj⟩, hkj⟩ := hrel
            have HKJ := hid hkj
            by_cases hlt : j < mm
            · have hlt2 : (j : Int) < (mm : Int) := by omega
              have hul : us.length = mm := by simpa using hsj.1
              have hwi : IntKind.i64.wrap ((j : Int) + 1) = ((j + 1 : Nat) : Int) := by rw [IntKind.wrap_i64]; omega
              obtain ⟨g', o', e', hfz', hc'⟩ := hsj.some_ (show 0 < mm by omega)
              cases e'
              have hcj : wr.cell? ⟨D, 0 + j, none⟩ = some (.int .u8 (us.getD j 0)) := hc' j _ (by
                rw [List.getElem?_map, List.getD_eq_getElem?_getD, List.getElem?_eq_getElem (by omega)]; rfl)
              have fj := hfz' (0 + j)
              have HSS := hid (show ∀ y, Sub (wr.setCell ⟨D, j, none⟩ (.int .u8 y)) 5 1 (some ⟨D, 0, none⟩) mm mm ((us.set j y).map (.int .u8)) from fun y => by
                have := hsj.set rfl (show j < mm * 1 by omega) (.int .u8 y)
                rw [Nat.zero_add] at this
                rwa [List.map_set])
              have HKK := hid (show ∀ y, Keep (fun k => k = D) w7 (wr.setCell ⟨D, j, none⟩ (.int .u8 y)) from fun y => hkj.setCell D j _ (.inl rfl))
              simp only [Nat.zero_add] at hcj fj
              clear hfz' hc' hsj hkj hj
              generalize us.getD j 0 = y0 at *
              go_wp2
              go_roundw
              case rel => exact ⟨j + 1, by omega, by go_num, ⟨_, HSS.out _⟩, HKK.out _⟩
              case measure => simp [intOf]; omega
            · obtain rfl : j = mm := by omega
              have IV := hid (show Inv W wr rb a5 n5 c5 rd x5 m5 room s5 from
                ⟨IV7.out.bf.keep hkj (fun i hi e => HDF.out i (.inl hi) e), IV7.out.rw.keep hkj (fun i hi e => HDF.out i (.inr hi) e), IV7.out.ok, IV7.out.w1, IV7.out.w2, IV7.out.ap, ((Keep.ofQ (F := fun b => W.heap.size ≤ b) IV7.out.q).trans (hkj.mono (fun i _ e => by rw [e]; exact HDW.out))).toQ (fun i hi e => by omega)⟩)
              clear hsj hkj hj hlt IV7 HS7
              generalize hw5 : wr = w5 at *
              clear hw5
              have h5 := IV.out.bf.hd
              have A12 := hid (final_any rb room _ _ _ _ _ _ a5 n5 c5 w5 h5)
              have HN5 := hid (show m5 ≤ 65536 from by have := IV.out.ok.len; have := IV.out.ok.r1; have := IV.out.rw.len; omega)
              clear h5
              go_wp2_with fail
              refine A12.out.mono ?_
              rintro e w6 ⟨rfl, k6, rfl⟩
              have I6 := hid (IV.out.go ((Q.refl w5).drewN k6))
              generalize w5.drewN k6 = w6 at *
              have B1 := hid (fun k => (ready_any rb room _ _ _ _ _ _ a5 n5 c5 (w6.drewN k) (I6.out.bf.hd.q ((Q.refl w6).drewN k))).mono (R' := fun e w' => e = .returned (.int .i64 (rdy s5.xs)) ∧ w' = w6.drewN k) (by rintro e w' ⟨rfl, rfl⟩; exact ⟨rfl, rfl⟩))
              have B2 := hid (fun k => (rready_any rd x5 m5 room _ _ _ _ s5.xs (w6.drewN k) (I6.out.rw.q ((Q.refl w6).drewN k)) HN5.out).mono (R' := fun e w' => e = .returned (.int .i64 (rdy s5.xs)) ∧ w' = w6.drewN k) (by rintro e w' ⟨rfl, rfl⟩; exact ⟨rfl, rfl⟩))
              have B3 := hid (fun k => (held_any rb room _ _ _ _ _ _ a5 n5 c5 (w6.drewN k) (I6.out.bf.hd.q ((Q.refl w6).drewN k))).mono (R' := fun e w' => e = .returned (.int .i64 (heldN s5.xs)) ∧ w' = w6.drewN k) (by rintro e w' ⟨rfl, rfl⟩; exact ⟨rfl, rfl⟩))
              have B4 := hid (fun k => (rheld_any rd x5 m5 room _ _ _ _ s5.xs (w6.drewN k) (I6.out.rw.q ((Q.refl w6).drewN k)) HN5.out).mono (R' := fun e w' => e = .returned (.int .i64 (heldN s5.xs)) ∧ w' = w6.drewN k) (by rintro e w' ⟨rfl, rfl⟩; exact ⟨rfl, rfl⟩))
              have B5 := hid (fun k => (offset_any rb room _ _ _ _ _ _ a5 n5 c5 (w6.drewN k) (I6.out.bf.hd.q ((Q.refl w6).drewN k))).mono (R' := fun e w' => e = .returned (.int .i64 s5.off) ∧ w' = w6.drewN k) (by rintro e w' ⟨rfl, rfl⟩; exact ⟨rfl, rfl⟩))
              have B6 := hid (fun k => (high_any rb room _ _ _ _ _ _ a5 n5 c5 (w6.drewN k) (I6.out.bf.hd.q ((Q.refl w6).drewN k))).mono (R' := fun e w' => e = .returned (.int .i64 s5.high) ∧ w' = w6.drewN k) (by rintro e w' ⟨rfl, rfl⟩; exact ⟨rfl, rfl⟩))
              have v1 := I6.out.rw.hd.c1
              have v2 := I6.out.rw.hd.c2
              have v3 := I6.out.rw.hd.c3
              have v4 := I6.out.rw.hd.c4
              generalize rdy s5.xs = r5 at *
              generalize heldN s5.xs = h5 at *
              obtain ⟨of5, hi5, fi5, kn5, xs5⟩ := s5
              simp only at B1 B2 B3 B4 B5 B6 v1 v2 v3 v4
              have y1 : ((r5 : Int) != (r5 : Int)) = false := by simp
              have y2 : ((h5 : Int) != (h5 : Int)) = false := by simp
              have y3 : (of5 != of5) = false := by simp
              have y4 : (hi5 != hi5) = false := by simp
              have y5 : (fi5 != fi5) = false := by simp
              have y6 : (kn5 != kn5) = false := by simp
              go_wp2
              go_quiet (first | (go_at_call 13; exact Calls.quiet_of_same (B1.out _)) | (go_at_call 21; exact Calls.quiet_of_same (B2.out _)) | (go_at_call 16; exact Calls.quiet_of_same (B3.out _)) | (go_at_call 22; exact Calls.quiet_of_same (B4.out _)) | (go_at_call 14; exact Calls.quiet_of_same (B5.out _)) | (go_at_call 15; exact Calls.quiet_of_same (B6.out _)))
              go_wp2
              go_roundw
              case rel => exact ⟨k + 1, a5, n5, c5, x5, m5, ⟨of5, hi5, fi5, kn5, xs5⟩, by omega, by go_num, I6.out.go ((Q.refl w6).drewN nq)⟩
              case measure => simp [intOf]; omega

        · have hk1' : (z.kd == 1) = false := by simpa using hk1
          have hk2' : (z.kd == 2) = false := by simpa using hk2
          go_wp2_with fail
          generalize ws.alloc (.cells #[.int .i64 z.kd, .int .i64 z.p, .slice z.da z.dn z.dc, .bool z.f] 40) = w5 at *
          have IV := IX
          obtain ⟨a5, ha5⟩ : ∃ a5, a5 = a := ⟨_, rfl⟩
          obtain ⟨n5, hn5⟩ : ∃ n5, n5 = n := ⟨_, rfl⟩
          obtain ⟨c5, hc5⟩ : ∃ c5, c5 = c := ⟨_, rfl⟩
          obtain ⟨x5, hx5⟩ : ∃ x5, x5 = x := ⟨_, rfl⟩
          obtain ⟨m5, hm5⟩ : ∃ m5, m5 = m := ⟨_, rfl⟩
          obtain ⟨s5, hs5⟩ : ∃ s5, s5 = s := ⟨_, rfl⟩
          rw [← ha5, ← hn5, ← hc5, ← hx5, ← hm5, ← hs5] at IV
          clear ha5 hn5 hc5 hx5 hm5 hs5 IX
          have h5 := IV.out.bf.hd
          have A12 := hid (final_any rb room _ _ _ _ _ _ a5 n5 c5 w5 h5)
          have HN5 := hid (show m5 ≤ 65536 from by have := IV.out.ok.len; have := IV.out.ok.r1; have := IV.out.rw.len; omega)
          clear h5
          refine A12.out.mono ?_
          rintro e w6 ⟨rfl, k6, rfl⟩
          have I6 := hid (IV.out.go ((Q.refl w5).drewN k6))
          generalize w5.drewN k6 = w6 at *
          have B1 := hid (fun k => (ready_any rb room _ _ _ _ _ _ a5 n5 c5 (w6.drewN k) (I6.out.bf.hd.q ((Q.refl w6).drewN k))).mono (R' := fun e w' => e = .returned (.int .i64 (rdy s5.xs)) ∧ w' = w6.drewN k) (by rintro e w' ⟨rfl, rfl⟩; exact ⟨rfl, rfl⟩))
          have B2 := hid (fun k => (rready_any rd x5 m5 room _ _ _ _ s5.xs (w6.drewN k) (I6.out.rw.q ((Q.refl w6).drewN k)) HN5.out).mono (R' := fun e w' => e = .returned (.int .i64 (rdy s5.xs)) ∧ w' = w6.drewN k) (by rintro e w' ⟨rfl, rfl⟩; exact ⟨rfl, rfl⟩))
          have B3 := hid (fun k => (held_any rb room _ _ _ _ _ _ a5 n5 c5 (w6.drewN k) (I6.out.bf.hd.q ((Q.refl w6).drewN k))).mono (R' := fun e w' => e = .returned (.int .i64 (heldN s5.xs)) ∧ w' = w6.drewN k) (by rintro e w' ⟨rfl, rfl⟩; exact ⟨rfl, rfl⟩))
          have B4 := hid (fun k => (rheld_any rd x5 m5 room _ _ _ _ s5.xs (w6.drewN k) (I6.out.rw.q ((Q.refl w6).drewN k)) HN5.out).mono (R' := fun e w' => e = .returned (.int .i64 (heldN s5.xs)) ∧ w' = w6.drewN k) (by rintro e w' ⟨rfl, rfl⟩; exact ⟨rfl, rfl⟩))
          have B5 := hid (fun k => (offset_any rb room _ _ _ _ _ _ a5 n5 c5 (w6.drewN k) (I6.out.bf.hd.q ((Q.refl w6).drewN k))).mono (R' := fun e w' => e = .returned (.int .i64 s5.off) ∧ w' = w6.drewN k) (by rintro e w' ⟨rfl, rfl⟩; exact ⟨rfl, rfl⟩))
          have B6 := hid (fun k => (high_any rb room _ _ _ _ _ _ a5 n5 c5 (w6.drewN k) (I6.out.bf.hd.q ((Q.refl w6).drewN k))).mono (R' := fun e w' => e = .returned (.int .i64 s5.high) ∧ w' = w6.drewN k) (by rintro e w' ⟨rfl, rfl⟩; exact ⟨rfl, rfl⟩))
          have v1 := I6.out.rw.hd.c1
          have v2 := I6.out.rw.hd.c2
          have v3 := I6.out.rw.hd.c3
          have v4 := I6.out.rw.hd.c4
          generalize rdy s5.xs = r5 at *
          generalize heldN s5.xs = h5 at *
          obtain ⟨of5, hi5, fi5, kn5, xs5⟩ := s5
          simp only at B1 B2 B3 B4 B5 B6 v1 v2 v3 v4
          have y1 : ((r5 : Int) != (r5 : Int)) = false := by simp
          have y2 : ((h5 : Int) != (h5 : Int)) = false := by simp
          have y3 : (of5 != of5) = false := by simp
          have y4 : (hi5 != hi5) = false := by simp
          have y5 : (fi5 != fi5) = false := by simp
          have y6 : (kn5 != kn5) = false := by simp
          go_wp2
          go_quiet (first | (go_at_call 13; exact Calls.quiet_of_same (B1.out _)) | (go_at_call 21; exact Calls.quiet_of_same (B2.out _)) | (go_at_call 16; exact Calls.quiet_of_same (B3.out _)) | (go_at_call 22; exact Calls.quiet_of_same (B4.out _)) | (go_at_call 14; exact Calls.quiet_of_same (B5.out _)) | (go_at_call 15; exact Calls.quiet_of_same (B6.out _)))
          go_wp2
          go_roundw
          case rel => exact ⟨k + 1, a5, n5, c5, x5, m5, ⟨of5, hi5, fi5, kn5, xs5⟩, by omega, by go_num, I6.out.go ((Q.refl w6).drewN nq)⟩
          case measure => simp [intOf]; omega

    · obtain rfl : k = l0 := by omega
      go_wp2_with fail
      refine (awake_any ws).mono ?_
      rintro e w8 ⟨rfl, hq8⟩
      have Q8 := hid (IR.out.q.trans hq8)
      clear hq8
      go_wp2
      go_ret
      exact ⟨rfl, Q8.out⟩

theorem walk (room : Int) (a0 : Option Addr) (l0 p0 : Nat) (z0 : Nat → Cl) (g0 : ∀ i, i < l0 → Good W (z0 i)) (s0' : SegO W a0 l0 z0)
    (n0 : l0 * 48 ≤ 140737488351232 ∧ ∀ i, i < l0 → (z0 i).dn ≤ 140737488351232) :
    Calls Try.prog 4 #[.int .i64 room, .slice a0 l0 p0] W fun e w' => e = .returned (.bool true) ∧ Below W.heap.size W w' := by
  by_cases h : 1 ≤ room ∧ room ≤ 65536
  · exact walk_good room a0 l0 p0 z0 g0 s0' n0 h.1 h.2
  · exact walk_bad room a0 l0 p0 h

set_option maxRecDepth 100000 in
theorem lifted (os : Os) (started : os.Started) (H : Type) (enc : TypeId × Value → H) :
    ReturnsInHanded {} Try.checked os 4 .any (Rows.reasmPlaysSpec.pre6 enc Try.prog Try.f4 Rows.reasmPlaysRow.domain false) (Rows.reasmPlaysSpec.post enc Try.prog Try.f4 false true false false) := by
  refine returnsInHanded_of_change_sized (C := Try.checked) own_knob started (by kernel_rfl) Try.func4
    (ChangeSpec.witness6 (enc := enc) (C := Try.checked) false ⟨#[], #[.int .i64 0, .slice none 0 0], []⟩ 8 (by kernel_rfl) (by kernel_rfl) (by kernel_rfl) (by kernel_rfl)) ?_
  intro W base args ds gs before hval0 hW hcnd hsz0 _
  have hval : ∀ (j : Nat) t v, Try.f4.params[j]? = some t → args[j]? = some v → Value.okWide Try.prog W .any base t v := hval0
  have hsz : (DataW.weightsEach Try.prog (Try.f4.params.toList ++ Rows.reasmPlaysSpec.plain.varTypes Try.prog) (ds ++ gs)).all (· ≤ reachBytes) = true := hsz0
  have hW' := hW
  obtain ⟨p, q, hA0, hV, rfl, hfz, hnd⟩ := hW
  have hA : DataW.TrodAll enc Try.prog W 0 (fun _ => true) true Try.f4.params.toList args.toList ds p := hA0
  rw [Try.params4] at hA hval hsz
  obtain ⟨v0, vs0, d0, ds0, p0, q0, hargs, rfl, rfl, h0, r0⟩ := trodAll_cons hA
  obtain ⟨v1, vs1, d1, ds1, p1, q1, rfl, rfl, rfl, h1, r1⟩ := trodAll_cons r0
  obtain ⟨rfl, rfl, rfl⟩ := trodAll_nil r1
  obtain rfl : args = #[v0, v1] := by cases args; simp_all
  obtain ⟨rfl, rfl⟩ := trodVars_none hV
  obtain ⟨a0, rfl, rfl, rfl, w0⟩ := open_int Try.underlying3 (hval 0 3 v0 rfl rfl) h0
  obtain ⟨a1, len1, cap1, rfl⟩ := okWide_slice Try.underlying34 (hval 1 34 v1 rfl rfl)
  have k1 := h1
  have lt1 : ∀ x ∈ p1, x.block < W.heap.size := by obtain ⟨m, hm⟩ := k1; exact DataW.trod_lt m _ _ _ hm
  obtain ⟨z1, zl1, zs1, zb1, zc1, ze1, zd1⟩ := open_ops h1
  have zn1 := len_le_ops hsz (j := 1) rfl rfl zd1
  clear hA0 hval0
  refine (walk a0 a1 len1 cap1 z1 zl1 zs1 zn1).mono fun e W' ⟨he, bel⟩ => ?_
  subst he
  exact ⟨_, rfl, _, _, _, [], _, [], hW', trodAll_mk1 (shut_bool Try.underlying4 _), (trodAll_cons_mk (shut_int Try.underlying3 w0) (trodAll_cons_mk (Below.trod laid_out (by kernel_rfl) (of_decide_eq_true (by kernel_rfl)) k1 bel lt1) trodAll_mk0)), rfl, bel.frame _, fun h => by cases h⟩

theorem over : Rows.reasmPlaysRow.holds Try.pinned (OpenSpec.ofChange Rows.reasmPlaysSpec) :=
  OpenClaim.holds_of_wide 4 Try.f4 rfl rfl rfl rfl rfl rfl rfl ⟨rfl, rfl, rfl, rfl, rfl⟩ rfl rfl rfl rfl rfl (by kernel_rfl) Try.func4 (by kernel_rfl)
    (of_decide_eq_true (by kernel_rfl)) (by unfold Func.isWrapper; first | (rw [if_pos (by decide +kernel)]; kernel_rfl) | (rw [if_neg (by decide +kernel)]; exact ⟨rfl, rfl⟩))
    (fun os started H enc _ => lifted os started H enc)

end Go.Proofs.Ytdgkeidpoodmeaa.reasmPlays
namespace Go.Proofs.Ytdgkeidpoodmeaa

/-- The statement. -/
theorem reasmPlays_holds : Rows.ReasmPlaysSaid := reasmPlays.over
#print axioms reasmPlays_holds
end Go.Proofs.Ytdgkeidpoodmeaa
