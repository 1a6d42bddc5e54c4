/-
  Proved: for all slices of bytes, cuts and numbers (each within the form's own reach) the law turnpikelaw03.ReasmPrefix returns true, and its arguments read as they did. No other condition.
-/
import Derived.Test.YtdgkeidpoodmeaaRows
import Derived.Test.YtdgkeidpoodmeaaAwake
import Derived.Test.YtdgkeidpoodmeaaPiece
import Derived.Test.YtdgkeidpoodmeaaFed
import Derived.WalkKit
import Derived.ProofKit
import Derived.OpenShut
import Derived.ShutString
import Derived.ChangeOld
import Derived.Below
import Derived.SizedLaws
namespace Go.Proofs.Ytdgkeidpoodmeaa.reasmPrefix
open Go.ChangeShapes Go.WideShapes Go.ChangeAt Go.RowKit
open Go.ChangeMaps (open_string shut_string)
set_option linter.unusedVariables false

variable {W : World}

/-- A buffer fed with pieces of a source, and what was read of it. -/
structure Inv (W w : World) (rb : Nat) (a : Option Addr) (n c : Nat) (s : S) (zs : List Int) (o : Nat) (ga : Option Addr) (gc : Nat) : Prop where
  bf : Bf w rb a n c 65536 s
  fed : Fed zs o s
  got : Sub w 5 1 ga o gc ((zs.take o).map (Value.int .u8))
  w1 : ∀ i, Fp rb a i → W.heap.size ≤ i
  sep : ∀ b, blk ga = some b → W.heap.size ≤ b ∧ ¬ Fp rb a b
  q : Q W w
theorem Inv.go {w w' : World} {rb : Nat} {a : Option Addr} {n c : Nat} {s : S} {zs : List Int} {o : Nat} {ga : Option Addr} {gc : Nat} (h : Inv W w rb a n c s zs o ga gc) (k : Q w w') : Inv W w' rb a n c s zs o ga gc :=
  ⟨h.bf.q k, h.fed, h.got.q k, h.w1, h.sep, h.q.trans k⟩
/-- Behind a Put. -/
theorem Inv.put {w w' : World} {rb : Nat} {a a' : Option Addr} {n c n' c' : Nat} {s s' : S} {zs : List Int} {o : Nat} {ga : Option Addr} {gc : Nat} (h : Inv W w rb a n c s zs o ga gc) (k : Keep (Fp rb a) w w') (b : Bf w' rb a' n' c' 65536 s') (f : Fed zs o s')
    (hf : ∀ b, blk a' = some b → blk a = some b ∨ w.heap.size ≤ b) : Inv W w' rb a' n' c' s' zs o ga gc := by
  have hs := h.q.size
  have hf' : ∀ i, Fp rb a' i → Fp rb a i ∨ w.heap.size ≤ i := by
    intro i hi
    rcases hi with hi | hi
    · exact .inl (.inl hi)
    · exact (hf i hi).imp (fun h => .inr h) id
  refine ⟨b, f, h.got.keep k (fun b hb => (h.sep b hb).2), fun i hi => ?_, fun b hb => ⟨(h.sep b hb).1, fun hF => ?_⟩, ?_⟩
  · rcases hf' i hi with hh | hh
    · exact h.w1 i hh
    · omega
  · rcases hf' b hF with hh | hh
    · exact (h.sep b hb).2 hh
    · have := h.got.lt b hb; omega
  · have k' : Keep (fun b => W.heap.size ≤ b) W w' := (Keep.ofQ h.q).trans (k.mono (fun i _ e => h.w1 i e))
    exact k'.toQ (fun i hi e => by omega)

set_option maxHeartbeats 1000000 in
set_option maxRecDepth 100000 in
theorem walk_big (sa ca ra : Option Addr) (sl sc cl cc rl rc : Nat) (hs : 65536 < sl) (hn : sl ≤ 140737488351232) : Calls Try.prog 5 #[.slice sa sl sc, .slice ca cl cc, .slice ra rl rc] W fun e w' => e = .returned (.bool true) ∧ Below W.heap.size W w' := by
  have hb : (65536 : Int) < (sl : Int) := by omega
  go_enter Try.func5, Try.ntmps5
  go_wp2_with fail
  refine (new_good 65536 W (by omega) (by omega)).mono ?_
  rintro e w1 ⟨rfl, hb1, hq1, hlt1⟩
  have Q1 := hid hq1
  clear hb1 hq1
  go_wp2
  go_ret
  exact ⟨rfl, Q1.out⟩

set_option maxHeartbeats 16000000 in
set_option maxRecDepth 100000 in
theorem walk_small (sa ca ra : Option Addr) (sl sc cl cc rl rc : Nat) (zs : List Int) (z : Nat → Int × Int) (rs : List Int) (hs : sl ≤ 65536) (hl : zs.length = sl) (hsg : Seg W sa zs) (hsc : sl ≤ sc)
    (hzb : ∀ i, i < cl → (-9223372036854775808 ≤ (z i).1 ∧ (z i).1 ≤ 9223372036854775807) ∧ (-9223372036854775808 ≤ (z i).2 ∧ (z i).2 ≤ 9223372036854775807)) (hzs : SegC W ca cl z) (hcl : cl * 16 ≤ 140737488351232) (hrl : rs.length = rl) (hrs : SegN W ra rs) (hrn : rl * 8 ≤ 140737488351232) :
    Calls Try.prog 5 #[.slice sa sl sc, .slice ca cl cc, .slice ra rl rc] W fun e w' => e = .returned (.bool true) ∧ Below W.heap.size W w' := by
  obtain ⟨i5, i5i, i5a, i5b, i5c⟩ := info_parts info5
  have HL := hid hl
  have HZ := hid hsg
  have HZB := hid hzb
  have HZS := hid hzs
  have HRL := hid hrl
  have HRS := hid hrs
  have hb : ¬ (65536 : Int) < (sl : Int) := by omega
  clear hl hsg hzb hzs hrl hrs
  go_enter Try.func5, Try.ntmps5
  go_wp2_with fail
  refine (new_good 65536 W (by omega) (by omega)).mono ?_
  rintro e w1 ⟨rfl, hb1, hq1, hlt1⟩
  have IV0 := hid (show Inv W w1 W.heap.size none 0 0 s0 zs 0 none 0 from ⟨hb1, fed0 (by rw [HL.out]; exact hs), sub_nil _ _ _, (by
      intro i hi
      rcases hi with hi | hi
      · omega
      · cases hi), (by intro b hb; cases hb), hq1⟩)
  clear hb1 hq1
  generalize hrb : W.heap.size = rb at *
  have HRB := hid hrb
  clear hrb
  go_wp2
  go_loopw [41, 9, 10] (fun v gv kv wr => ∃ k : Nat, ∃ a n c : _, ∃ s : S, ∃ o : Nat, ∃ ga gc : _, k ≤ cl ∧ v = .int .i64 k ∧ gv = .slice ga o gc ∧ kv = .bool s.known ∧ Inv W wr rb a n c s zs o ga gc) (fun i _ _ _ => cl - (intOf i).toNat)
  case atStart => exact ⟨0, none, 0, 0, s0, 0, none, 0, Nat.zero_le _, rfl, rfl, rfl, IV0.out⟩
  case round =>
    obtain ⟨k, a, n, c, s, o, ga3, gc3, hk, rfl, rfl, rfl, hiv⟩ := hrel
    have IR := hid hiv
    clear hiv IV0
    by_cases hkn : k < cl
    · obtain ⟨b, off, rfl, hcc⟩ := (HZS.out.q IR.out.q) (by omega)
      obtain ⟨d0, d1⟩ := hcc k hkn
      have hlt' : (k : Int) < (cl : Int) := by omega
      have ZB := hid (HZB.out k hkn)
      clear hcc
      generalize z k = y at *
      obtain ⟨A, L⟩ := y
      simp only at d0 d1 ZB
      have QX := hid ((Q.refl wr).alloc (.cells #[.int .i64 A, .int .i64 L] 50))
      have IX := hid (IR.out.go QX.out)
      have PC := hid (piece_any sa sl sc zs A L (wr.alloc (.cells #[.int .i64 A, .int .i64 L] 50)) (HZ.out.q IX.out.q) HL.out hsc hs ZB.out.2)
      go_wp2_with fail
      refine PC.out.mono ?_
      rintro e w2 ⟨p, m, da, dc, hpm, rfl, hdc, hq2, hsg2, hbd⟩
      have I2 := hid (IX.out.go hq2)
      have PL := hid (show p + m ≤ zs.length from by rw [HL.out]; exact hpm)
      have PF := hid (show decide (p + m = sl) = true → p + m = zs.length from fun h => by rw [HL.out]; exact of_decide_eq_true h)
      have PT := hid (put_any rb 65536 s a n c p da m dc ((zs.drop p).take m) (decide (p + m = sl)) w2 I2.out.bf I2.out.fed.ok (by omega) hsg2 (Fed.cut_len PL.out) (fun b hb hF => by have := hbd b hb; have := IX.out.bf.lt b hF; omega) hdc)
      have PE := hid (I2.out.fed.err PL.out PF.out)
      have FP := hid (I2.out.fed.put PL.out PF.out)
      have KP := hid (putAll_known I2.out.fed PL.out PF.out)
      clear hq2 hsg2 hbd hdc QX PC IX
      go_wp2_with fail
      refine PT.out.mono ?_
      rintro e w3 ⟨a3, n3, c3, rfl, hb3, hk3, hbb3⟩
      rw [PE.out]
      have IV3 := hid (I2.out.put hk3 hb3 FP.out hbb3)
      clear hb3 hk3 hbb3 PT PE FP
      generalize freshOf 65536 s p ((zs.drop p).take m) (decide (p + m = sl)) = F3 at *
      generalize putAll 65536 s p ((zs.drop p).take m) (decide (p + m = sl)) = s3 at *
      generalize decide (p + m = sl) = lst at *
      have IV3' := IV3
      cases hkn0 : s.known
      · cases lst
        · have HK3 := hid (show s3.known = false from by rw [KP.out, hkn0]; rfl)
          by_cases hri : k < rl
          · obtain ⟨b3, o3, rfl, hcr⟩ := (HRS.out.q IV3.out.q) (by intro e; have := HRL.out; rw [e] at this; simp at this; omega)
            have dr := hcr k (by rw [HRL.out]; exact hri)
            have hri' : (k : Int) < (rl : Int) := by omega
            clear hcr
            generalize rs.getD k 0 = q at *
            have HRD := hid (read_any rb 65536 s3 a3 n3 c3 q w3 IV3.out.bf IV3.out.fed.ok)
            have FR := hid (IV3.out.fed.read q)
            have FV := hid (IV3.out.fed.vals (readM s3 q) (readM_le s3 q))
            have FQ := hid (show (0 : Int) ≤ q → (readM s3 q : Int) ≤ q from fun h => by unfold readM; omega)
            go_wp2_with fail
            refine HRD.out.mono ?_
            rintro e w4 ⟨a4, n4, c4, D, rfl, hb4, hs4, hD4, hk4, hbb4⟩
            rw [FV.out] at hs4
            have HM := hid (show o + readM s3 q ≤ 65536 from by have := FR.out.offle; have := FR.out.small; omega)
            have FE := hid FR.out.endOf
            have HG4 := hid (IV3.out.got.keep hk4 (fun b hb => (IV3.out.sep b hb).2))
            have HGL := hid (IV3.out.got.lt)
            have HF4 := hid (show ∀ i, Fp rb a4 i → Fp rb a3 i from by
              intro i hi
              rcases hi with hi | hi
              · exact .inl hi
              · exact .inr (hbb4 i hi))
            have HKN := hid (show (readSt s3 q).known = s3.known from rfl)
            have HSZ4 := hid hk4.size
            generalize readM s3 q = m2 at *
            generalize readSt s3 q = s4 at *
            have hone : ∀ u ∈ ((zs.drop o).take m2).map (Value.int .u8), u.oneCell' = true := ints_oneCell _ _
            obtain ⟨gg, og, eg, _, hcg⟩ : ∃ g off, (some (⟨D, 0, none⟩ : Addr)) = some ⟨g, off, none⟩ ∧ True ∧ ∀ j v, (((zs.drop o).take m2).map (Value.int .u8))[j]? = some v → w4.cell? ⟨g, off + j, none⟩ = some v := by
              by_cases h0 : 0 < m2
              · obtain ⟨g, off, e, _, h⟩ := hs4.some_ h0
                exact ⟨g, off, e, trivial, h⟩
              · have h1 := hs4.1
                refine ⟨D, 0, rfl, trivial, fun j v hj => ?_⟩
                rw [List.getElem?_eq_none (by rw [h1]; omega)] at hj; cases hj
            cases eg
            obtain ⟨ga5, gc5, w5, hrun, hs5, hk5, hbo5⟩ := sub_append (P := Try.prog) (w := w4) (t := 28) (tx := 28) (ty := 28) Try.underlying28 i5i i5a i5b i5c rfl HG4.out (Src.ofSlice w4 Try.underlying28 ⟨D, 0, none⟩ m2 m2 _ hs4.1 (fun j v hj => by rw [addr_add]; exact hcg j v hj) hone) (by have := HM.out; unfold maxLen; omega) (by have := HM.out; omega)
            rw [← List.map_append, take_more] at hs5
            have HS5 := hid hs5
            have IV5 := hid (show ∀ k, Inv W (w5.drewN k) rb a4 n4 c4 s4 zs (o + m2) ga5 gc5 from fun k => by
              have hsep : ∀ i, Fp rb a4 i → ¬ blk ga3 = some i := fun i hi e => (IV3.out.sep i e).2 (HF4.out i hi)
              have hq5 := (Q.refl w5).drewN k
              refine ⟨(hb4.keep hk5 hsep).q hq5, FR.out, hs5.q hq5, fun i hi => IV3.out.w1 i (HF4.out i hi), fun b hb => ?_, ?_⟩
              · rcases hbo5 with h | h
                · have hb' : blk ga3 = some b := by rw [← h]; exact hb
                  exact ⟨(IV3.out.sep b hb').1, fun hF => (IV3.out.sep b hb').2 (HF4.out b hF)⟩
                · rw [h] at hb
                  simp at hb
                  have h1 := IV3.out.q.size
                  have h2 := HSZ4.out
                  refine ⟨by omega, fun hF => ?_⟩
                  have := hb4.lt b hF
                  omega
              · have k' : Keep (fun b => W.heap.size ≤ b) W w5 := ((Keep.ofQ IV3.out.q).trans (hk4.mono (fun i _ e => IV3.out.w1 i e))).trans (hk5.mono (fun i _ e => (IV3.out.sep i e).1))
                exact (k'.toQ (fun i hi e => by omega)).drewN k)
            have hom : o + m2 ≤ sl := by have := FR.out.offle; have := HL.out; omega
            have HSS := hid ((HZ.out.q ((IV5.out 0).q)))
            have hom' : ¬ ((sl : Int) < ((o + m2 : Nat) : Int)) := by omega
            have hom2 : ((o + m2 : Nat) : Int) ≤ (sc : Int) := by omega
            have hom3 : o + m2 ≤ sc := by omega
            have hom4 : decide ((sl : Int) < ((o + m2 : Nat) : Int)) = false := by simp; omega
            have hom5 : decide ((sl : Int) < (o : Int) + (m2 : Int)) = false := by simp; omega
            clear hb4 hs4 hD4 hk4 hbb4 hs5 hk5 hbo5 hcg hone
            go_wp2_with (first | (at_builtin; refine Lib.wpList_append_run _ rfl _ _ _ _ rfl _ _ rfl rfl _ _ hrun ?_) | (fail))
            refine (same_any ga5 sa (o + m2) gc5 sc (zs.take (o + m2)) w5 HS5.out.seg (seg_take HSS.out _) (by rw [List.length_take, HL.out]; omega) (by have := HM.out; omega)).mono ?_
            rintro e w6 ⟨rfl, k6, rfl⟩
            have I6 := hid (IV5.out k6)
            generalize w5.drewN k6 = w6 at *
            rw [FE.out, HKN.out, HK3.out, HL.out]
            have EQ : (((o + m2 : Nat) : Int) == (sl : Int)) = decide (o + m2 = sl) := by
              by_cases e : o + m2 = sl
              · simp [e]
              · have e1 : (((o + m2 : Nat) : Int) == (sl : Int)) = false := by simp; omega
                simp only [e1, e, decide_false]
            generalize hB : decide (o + m2 = sl) = B at *
            have HBB := hid hB
            clear hB
            have EQ2 : (((o : Int) + (m2 : Int)) == (sl : Int)) = B := by
              have e9 : ((o + m2 : Nat) : Int) = (o : Int) + (m2 : Int) := by omega
              rw [← e9]; exact EQ
            have HQ0 := hid (FQ.out)
            cases B
            all_goals
              by_cases hq0 : (0 : Int) ≤ q
              · have hq1 : decide (q ≥ 0) = true := by simp <;> omega
                have hq2 : ¬ (q < (m2 : Int)) := by have := HQ0.out hq0; omega
                have hq3 : decide (q < (m2 : Int)) = false := by simp <;> omega
                go_wp2
                go_roundw
                case rel => exact ⟨k + 1, a4, n4, c4, s4, o + m2, ga5, gc5, by omega, by go_num, rfl, by rw [HKN.out, HK3.out], I6.out⟩
                case measure => simp [intOf]; omega
              · have hq1 : decide (q ≥ 0) = false := by simp <;> omega
                go_wp2
                go_roundw
                case rel => exact ⟨k + 1, a4, n4, c4, s4, o + m2, ga5, gc5, by omega, by go_num, rfl, by rw [HKN.out, HK3.out], I6.out⟩
                case measure => simp [intOf]; omega

          · have hri' : ¬ (k : Int) < (rl : Int) := by omega
            have HRD := hid (read_any rb 65536 s3 a3 n3 c3 (0 : Int) w3 IV3.out.bf IV3.out.fed.ok)
            have FR := hid (IV3.out.fed.read (0 : Int))
            have FV := hid (IV3.out.fed.vals (readM s3 (0 : Int)) (readM_le s3 (0 : Int)))
            have FQ := hid (show (0 : Int) ≤ (0 : Int) → (readM s3 (0 : Int) : Int) ≤ (0 : Int) from fun h => by unfold readM; omega)
            go_wp2_with fail
            refine HRD.out.mono ?_
            rintro e w4 ⟨a4, n4, c4, D, rfl, hb4, hs4, hD4, hk4, hbb4⟩
            rw [FV.out] at hs4
            have HM := hid (show o + readM s3 (0 : Int) ≤ 65536 from by have := FR.out.offle; have := FR.out.small; omega)
            have FE := hid FR.out.endOf
            have HG4 := hid (IV3.out.got.keep hk4 (fun b hb => (IV3.out.sep b hb).2))
            have HGL := hid (IV3.out.got.lt)
            have HF4 := hid (show ∀ i, Fp rb a4 i → Fp rb a3 i from by
              intro i hi
              rcases hi with hi | hi
              · exact .inl hi
              · exact .inr (hbb4 i hi))
            have HKN := hid (show (readSt s3 (0 : Int)).known = s3.known from rfl)
            have HSZ4 := hid hk4.size
            generalize readM s3 (0 : Int) = m2 at *
            generalize readSt s3 (0 : Int) = s4 at *
            have hone : ∀ u ∈ ((zs.drop o).take m2).map (Value.int .u8), u.oneCell' = true := ints_oneCell _ _
            obtain ⟨gg, og, eg, _, hcg⟩ : ∃ g off, (some (⟨D, 0, none⟩ : Addr)) = some ⟨g, off, none⟩ ∧ True ∧ ∀ j v, (((zs.drop o).take m2).map (Value.int .u8))[j]? = some v → w4.cell? ⟨g, off + j, none⟩ = some v := by
              by_cases h0 : 0 < m2
              · obtain ⟨g, off, e, _, h⟩ := hs4.some_ h0
                exact ⟨g, off, e, trivial, h⟩
              · have h1 := hs4.1
                refine ⟨D, 0, rfl, trivial, fun j v hj => ?_⟩
                rw [List.getElem?_eq_none (by rw [h1]; omega)] at hj; cases hj
            cases eg
            obtain ⟨ga5, gc5, w5, hrun, hs5, hk5, hbo5⟩ := sub_append (P := Try.prog) (w := w4) (t := 28) (tx := 28) (ty := 28) Try.underlying28 i5i i5a i5b i5c rfl HG4.out (Src.ofSlice w4 Try.underlying28 ⟨D, 0, none⟩ m2 m2 _ hs4.1 (fun j v hj => by rw [addr_add]; exact hcg j v hj) hone) (by have := HM.out; unfold maxLen; omega) (by have := HM.out; omega)
            rw [← List.map_append, take_more] at hs5
            have HS5 := hid hs5
            have IV5 := hid (show ∀ k, Inv W (w5.drewN k) rb a4 n4 c4 s4 zs (o + m2) ga5 gc5 from fun k => by
              have hsep : ∀ i, Fp rb a4 i → ¬ blk ga3 = some i := fun i hi e => (IV3.out.sep i e).2 (HF4.out i hi)
              have hq5 := (Q.refl w5).drewN k
              refine ⟨(hb4.keep hk5 hsep).q hq5, FR.out, hs5.q hq5, fun i hi => IV3.out.w1 i (HF4.out i hi), fun b hb => ?_, ?_⟩
              · rcases hbo5 with h | h
                · have hb' : blk ga3 = some b := by rw [← h]; exact hb
                  exact ⟨(IV3.out.sep b hb').1, fun hF => (IV3.out.sep b hb').2 (HF4.out b hF)⟩
                · rw [h] at hb
                  simp at hb
                  have h1 := IV3.out.q.size
                  have h2 := HSZ4.out
                  refine ⟨by omega, fun hF => ?_⟩
                  have := hb4.lt b hF
                  omega
              · have k' : Keep (fun b => W.heap.size ≤ b) W w5 := ((Keep.ofQ IV3.out.q).trans (hk4.mono (fun i _ e => IV3.out.w1 i e))).trans (hk5.mono (fun i _ e => (IV3.out.sep i e).1))
                exact (k'.toQ (fun i hi e => by omega)).drewN k)
            have hom : o + m2 ≤ sl := by have := FR.out.offle; have := HL.out; omega
            have HSS := hid ((HZ.out.q ((IV5.out 0).q)))
            have hom' : ¬ ((sl : Int) < ((o + m2 : Nat) : Int)) := by omega
            have hom2 : ((o + m2 : Nat) : Int) ≤ (sc : Int) := by omega
            have hom3 : o + m2 ≤ sc := by omega
            have hom4 : decide ((sl : Int) < ((o + m2 : Nat) : Int)) = false := by simp; omega
            have hom5 : decide ((sl : Int) < (o : Int) + (m2 : Int)) = false := by simp; omega
            clear hb4 hs4 hD4 hk4 hbb4 hs5 hk5 hbo5 hcg hone
            go_wp2_with (first | (at_builtin; refine Lib.wpList_append_run _ rfl _ _ _ _ rfl _ _ rfl rfl _ _ hrun ?_) | (fail))
            refine (same_any ga5 sa (o + m2) gc5 sc (zs.take (o + m2)) w5 HS5.out.seg (seg_take HSS.out _) (by rw [List.length_take, HL.out]; omega) (by have := HM.out; omega)).mono ?_
            rintro e w6 ⟨rfl, k6, rfl⟩
            have I6 := hid (IV5.out k6)
            generalize w5.drewN k6 = w6 at *
            rw [FE.out, HKN.out, HK3.out, HL.out]
            have EQ : (((o + m2 : Nat) : Int) == (sl : Int)) = decide (o + m2 = sl) := by
              by_cases e : o + m2 = sl
              · simp [e]
              · have e1 : (((o + m2 : Nat) : Int) == (sl : Int)) = false := by simp; omega
                simp only [e1, e, decide_false]
            generalize hB : decide (o + m2 = sl) = B at *
            have HBB := hid hB
            clear hB
            have EQ2 : (((o : Int) + (m2 : Int)) == (sl : Int)) = B := by
              have e9 : ((o + m2 : Nat) : Int) = (o : Int) + (m2 : Int) := by omega
              rw [← e9]; exact EQ
            have HQ0 := hid (FQ.out)
            cases B
            all_goals
              by_cases hq0 : (0 : Int) ≤ (0 : Int)
              · have hq1 : decide ((0 : Int) ≥ 0) = true := by simp
                have hq2 : ¬ ((0 : Int) < (m2 : Int)) := by have := HQ0.out hq0; omega
                have hq3 : decide ((0 : Int) < (m2 : Int)) = false := by simp <;> omega
                go_wp2
                go_roundw
                case rel => exact ⟨k + 1, a4, n4, c4, s4, o + m2, ga5, gc5, by omega, by go_num, rfl, by rw [HKN.out, HK3.out], I6.out⟩
                case measure => simp [intOf]; omega
              · exact absurd (Int.le_refl 0) hq0

        · have HK3 := hid (show s3.known = true from by rw [KP.out, hkn0]; rfl)
          by_cases hri : k < rl
          · obtain ⟨b3, o3, rfl, hcr⟩ := (HRS.out.q IV3.out.q) (by intro e; have := HRL.out; rw [e] at this; simp at this; omega)
            have dr := hcr k (by rw [HRL.out]; exact hri)
            have hri' : (k : Int) < (rl : Int) := by omega
            clear hcr
            generalize rs.getD k 0 = q at *
            have HRD := hid (read_any rb 65536 s3 a3 n3 c3 q w3 IV3.out.bf IV3.out.fed.ok)
            have FR := hid (IV3.out.fed.read q)
            have FV := hid (IV3.out.fed.vals (readM s3 q) (readM_le s3 q))
            have FQ := hid (show (0 : Int) ≤ q → (readM s3 q : Int) ≤ q from fun h => by unfold readM; omega)
            go_wp2_with fail
            refine HRD.out.mono ?_
            rintro e w4 ⟨a4, n4, c4, D, rfl, hb4, hs4, hD4, hk4, hbb4⟩
            rw [FV.out] at hs4
            have HM := hid (show o + readM s3 q ≤ 65536 from by have := FR.out.offle; have := FR.out.small; omega)
            have FE := hid FR.out.endOf
            have HG4 := hid (IV3.out.got.keep hk4 (fun b hb => (IV3.out.sep b hb).2))
            have HGL := hid (IV3.out.got.lt)
            have HF4 := hid (show ∀ i, Fp rb a4 i → Fp rb a3 i from by
              intro i hi
              rcases hi with hi | hi
              · exact .inl hi
              · exact .inr (hbb4 i hi))
            have HKN := hid (show (readSt s3 q).known = s3.known from rfl)
            have HSZ4 := hid hk4.size
            generalize readM s3 q = m2 at *
            generalize readSt s3 q = s4 at *
            have hone : ∀ u ∈ ((zs.drop o).take m2).map (Value.int .u8), u.oneCell' = true := ints_oneCell _ _
            obtain ⟨gg, og, eg, _, hcg⟩ : ∃ g off, (some (⟨D, 0, none⟩ : Addr)) = some ⟨g, off, none⟩ ∧ True ∧ ∀ j v, (((zs.drop o).take m2).map (Value.int .u8))[j]? = some v → w4.cell? ⟨g, off + j, none⟩ = some v := by
              by_cases h0 : 0 < m2
              · obtain ⟨g, off, e, _, h⟩ := hs4.some_ h0
                exact ⟨g, off, e, trivial, h⟩
              · have h1 := hs4.1
                refine ⟨D, 0, rfl, trivial, fun j v hj => ?_⟩
                rw [List.getElem?_eq_none (by rw [h1]; omega)] at hj; cases hj
            cases eg
            obtain ⟨ga5, gc5, w5, hrun, hs5, hk5, hbo5⟩ := sub_append (P := Try.prog) (w := w4) (t := 28) (tx := 28) (ty := 28) Try.underlying28 i5i i5a i5b i5c rfl HG4.out (Src.ofSlice w4 Try.underlying28 ⟨D, 0, none⟩ m2 m2 _ hs4.1 (fun j v hj => by rw [addr_add]; exact hcg j v hj) hone) (by have := HM.out; unfold maxLen; omega) (by have := HM.out; omega)
            rw [← List.map_append, take_more] at hs5
            have HS5 := hid hs5
            have IV5 := hid (show ∀ k, Inv W (w5.drewN k) rb a4 n4 c4 s4 zs (o + m2) ga5 gc5 from fun k => by
              have hsep : ∀ i, Fp rb a4 i → ¬ blk ga3 = some i := fun i hi e => (IV3.out.sep i e).2 (HF4.out i hi)
              have hq5 := (Q.refl w5).drewN k
              refine ⟨(hb4.keep hk5 hsep).q hq5, FR.out, hs5.q hq5, fun i hi => IV3.out.w1 i (HF4.out i hi), fun b hb => ?_, ?_⟩
              · rcases hbo5 with h | h
                · have hb' : blk ga3 = some b := by rw [← h]; exact hb
                  exact ⟨(IV3.out.sep b hb').1, fun hF => (IV3.out.sep b hb').2 (HF4.out b hF)⟩
                · rw [h] at hb
                  simp at hb
                  have h1 := IV3.out.q.size
                  have h2 := HSZ4.out
                  refine ⟨by omega, fun hF => ?_⟩
                  have := hb4.lt b hF
                  omega
              · have k' : Keep (fun b => W.heap.size ≤ b) W w5 := ((Keep.ofQ IV3.out.q).trans (hk4.mono (fun i _ e => IV3.out.w1 i e))).trans (hk5.mono (fun i _ e => (IV3.out.sep i e).1))
                exact (k'.toQ (fun i hi e => by omega)).drewN k)
            have hom : o + m2 ≤ sl := by have := FR.out.offle; have := HL.out; omega
            have HSS := hid ((HZ.out.q ((IV5.out 0).q)))
            have hom' : ¬ ((sl : Int) < ((o + m2 : Nat) : Int)) := by omega
            have hom2 : ((o + m2 : Nat) : Int) ≤ (sc : Int) := by omega
            have hom3 : o + m2 ≤ sc := by omega
            have hom4 : decide ((sl : Int) < ((o + m2 : Nat) : Int)) = false := by simp; omega
            have hom5 : decide ((sl : Int) < (o : Int) + (m2 : Int)) = false := by simp; omega
            clear hb4 hs4 hD4 hk4 hbb4 hs5 hk5 hbo5 hcg hone
            go_wp2_with (first | (at_builtin; refine Lib.wpList_append_run _ rfl _ _ _ _ rfl _ _ rfl rfl _ _ hrun ?_) | (fail))
            refine (same_any ga5 sa (o + m2) gc5 sc (zs.take (o + m2)) w5 HS5.out.seg (seg_take HSS.out _) (by rw [List.length_take, HL.out]; omega) (by have := HM.out; omega)).mono ?_
            rintro e w6 ⟨rfl, k6, rfl⟩
            have I6 := hid (IV5.out k6)
            generalize w5.drewN k6 = w6 at *
            rw [FE.out, HKN.out, HK3.out, HL.out]
            have EQ : (((o + m2 : Nat) : Int) == (sl : Int)) = decide (o + m2 = sl) := by
              by_cases e : o + m2 = sl
              · simp [e]
              · have e1 : (((o + m2 : Nat) : Int) == (sl : Int)) = false := by simp; omega
                simp only [e1, e, decide_false]
            generalize hB : decide (o + m2 = sl) = B at *
            have HBB := hid hB
            clear hB
            have EQ2 : (((o : Int) + (m2 : Int)) == (sl : Int)) = B := by
              have e9 : ((o + m2 : Nat) : Int) = (o : Int) + (m2 : Int) := by omega
              rw [← e9]; exact EQ
            have HQ0 := hid (FQ.out)
            cases B
            all_goals
              by_cases hq0 : (0 : Int) ≤ q
              · have hq1 : decide (q ≥ 0) = true := by simp <;> omega
                have hq2 : ¬ (q < (m2 : Int)) := by have := HQ0.out hq0; omega
                have hq3 : decide (q < (m2 : Int)) = false := by simp <;> omega
                go_wp2
                go_roundw
                case rel => exact ⟨k + 1, a4, n4, c4, s4, o + m2, ga5, gc5, by omega, by go_num, rfl, by rw [HKN.out, HK3.out], I6.out⟩
                case measure => simp [intOf]; omega
              · have hq1 : decide (q ≥ 0) = false := by simp <;> omega
                go_wp2
                go_roundw
                case rel => exact ⟨k + 1, a4, n4, c4, s4, o + m2, ga5, gc5, by omega, by go_num, rfl, by rw [HKN.out, HK3.out], I6.out⟩
                case measure => simp [intOf]; omega

          · have hri' : ¬ (k : Int) < (rl : Int) := by omega
            have HRD := hid (read_any rb 65536 s3 a3 n3 c3 (0 : Int) w3 IV3.out.bf IV3.out.fed.ok)
            have FR := hid (IV3.out.fed.read (0 : Int))
            have FV := hid (IV3.out.fed.vals (readM s3 (0 : Int)) (readM_le s3 (0 : Int)))
            have FQ := hid (show (0 : Int) ≤ (0 : Int) → (readM s3 (0 : Int) : Int) ≤ (0 : Int) from fun h => by unfold readM; omega)
            go_wp2_with fail
            refine HRD.out.mono ?_
            rintro e w4 ⟨a4, n4, c4, D, rfl, hb4, hs4, hD4, hk4, hbb4⟩
            rw [FV.out] at hs4
            have HM := hid (show o + readM s3 (0 : Int) ≤ 65536 from by have := FR.out.offle; have := FR.out.small; omega)
            have FE := hid FR.out.endOf
            have HG4 := hid (IV3.out.got.keep hk4 (fun b hb => (IV3.out.sep b hb).2))
            have HGL := hid (IV3.out.got.lt)
            have HF4 := hid (show ∀ i, Fp rb a4 i → Fp rb a3 i from by
              intro i hi
              rcases hi with hi | hi
              · exact .inl hi
              · exact .inr (hbb4 i hi))
            have HKN := hid (show (readSt s3 (0 : Int)).known = s3.known from rfl)
            have HSZ4 := hid hk4.size
            generalize readM s3 (0 : Int) = m2 at *
            generalize readSt s3 (0 : Int) = s4 at *
            have hone : ∀ u ∈ ((zs.drop o).take m2).map (Value.int .u8), u.oneCell' = true := ints_oneCell _ _
            obtain ⟨gg, og, eg, _, hcg⟩ : ∃ g off, (some (⟨D, 0, none⟩ : Addr)) = some ⟨g, off, none⟩ ∧ True ∧ ∀ j v, (((zs.drop o).take m2).map (Value.int .u8))[j]? = some v → w4.cell? ⟨g, off + j, none⟩ = some v := by
              by_cases h0 : 0 < m2
              · obtain ⟨g, off, e, _, h⟩ := hs4.some_ h0
                exact ⟨g, off, e, trivial, h⟩
              · have h1 := hs4.1
                refine ⟨D, 0, rfl, trivial, fun j v hj => ?_⟩
                rw [List.getElem?_eq_none (by rw [h1]; omega)] at hj; cases hj
            cases eg
            obtain ⟨ga5, gc5, w5, hrun, hs5, hk5, hbo5⟩ := sub_append (P := Try.prog) (w := w4) (t := 28) (tx := 28) (ty := 28) Try.underlying28 i5i i5a i5b i5c rfl HG4.out (Src.ofSlice w4 Try.underlying28 ⟨D, 0, none⟩ m2 m2 _ hs4.1 (fun j v hj => by rw [addr_add]; exact hcg j v hj) hone) (by have := HM.out; unfold maxLen; omega) (by have := HM.out; omega)
            rw [← List.map_append, take_more] at hs5
            have HS5 := hid hs5
            have IV5 := hid (show ∀ k, Inv W (w5.drewN k) rb a4 n4 c4 s4 zs (o + m2) ga5 gc5 from fun k => by
              have hsep : ∀ i, Fp rb a4 i → ¬ blk ga3 = some i := fun i hi e => (IV3.out.sep i e).2 (HF4.out i hi)
              have hq5 := (Q.refl w5).drewN k
              refine ⟨(hb4.keep hk5 hsep).q hq5, FR.out, hs5.q hq5, fun i hi => IV3.out.w1 i (HF4.out i hi), fun b hb => ?_, ?_⟩
              · rcases hbo5 with h | h
                · have hb' : blk ga3 = some b := by rw [← h]; exact hb
                  exact ⟨(IV3.out.sep b hb').1, fun hF => (IV3.out.sep b hb').2 (HF4.out b hF)⟩
                · rw [h] at hb
                  simp at hb
                  have h1 := IV3.out.q.size
                  have h2 := HSZ4.out
                  refine ⟨by omega, fun hF => ?_⟩
                  have := hb4.lt b hF
                  omega
              · have k' : Keep (fun b => W.heap.size ≤ b) W w5 := ((Keep.ofQ IV3.out.q).trans (hk4.mono (fun i _ e => IV3.out.w1 i e))).trans (hk5.mono (fun i _ e => (IV3.out.sep i e).1))
                exact (k'.toQ (fun i hi e => by omega)).drewN k)
            have hom : o + m2 ≤ sl := by have := FR.out.offle; have := HL.out; omega
            have HSS := hid ((HZ.out.q ((IV5.out 0).q)))
            have hom' : ¬ ((sl : Int) < ((o + m2 : Nat) : Int)) := by omega
            have hom2 : ((o + m2 : Nat) : Int) ≤ (sc : Int) := by omega
            have hom3 : o + m2 ≤ sc := by omega
            have hom4 : decide ((sl : Int) < ((o + m2 : Nat) : Int)) = false := by simp; omega
            have hom5 : decide ((sl : Int) < (o : Int) + (m2 : Int)) = false := by simp; omega
            clear hb4 hs4 hD4 hk4 hbb4 hs5 hk5 hbo5 hcg hone
            go_wp2_with (first | (at_builtin; refine Lib.wpList_append_run _ rfl _ _ _ _ rfl _ _ rfl rfl _ _ hrun ?_) | (fail))
            refine (same_any ga5 sa (o + m2) gc5 sc (zs.take (o + m2)) w5 HS5.out.seg (seg_take HSS.out _) (by rw [List.length_take, HL.out]; omega) (by have := HM.out; omega)).mono ?_
            rintro e w6 ⟨rfl, k6, rfl⟩
            have I6 := hid (IV5.out k6)
            generalize w5.drewN k6 = w6 at *
            rw [FE.out, HKN.out, HK3.out, HL.out]
            have EQ : (((o + m2 : Nat) : Int) == (sl : Int)) = decide (o + m2 = sl) := by
              by_cases e : o + m2 = sl
              · simp [e]
              · have e1 : (((o + m2 : Nat) : Int) == (sl : Int)) = false := by simp; omega
                simp only [e1, e, decide_false]
            generalize hB : decide (o + m2 = sl) = B at *
            have HBB := hid hB
            clear hB
            have EQ2 : (((o : Int) + (m2 : Int)) == (sl : Int)) = B := by
              have e9 : ((o + m2 : Nat) : Int) = (o : Int) + (m2 : Int) := by omega
              rw [← e9]; exact EQ
            have HQ0 := hid (FQ.out)
            cases B
            all_goals
              by_cases hq0 : (0 : Int) ≤ (0 : Int)
              · have hq1 : decide ((0 : Int) ≥ 0) = true := by simp
                have hq2 : ¬ ((0 : Int) < (m2 : Int)) := by have := HQ0.out hq0; omega
                have hq3 : decide ((0 : Int) < (m2 : Int)) = false := by simp <;> omega
                go_wp2
                go_roundw
                case rel => exact ⟨k + 1, a4, n4, c4, s4, o + m2, ga5, gc5, by omega, by go_num, rfl, by rw [HKN.out, HK3.out], I6.out⟩
                case measure => simp [intOf]; omega
              · exact absurd (Int.le_refl 0) hq0

      · have HK3 := hid (show s3.known = true from by rw [KP.out, hkn0]; rfl)
        by_cases hri : k < rl
        · obtain ⟨b3, o3, rfl, hcr⟩ := (HRS.out.q IV3.out.q) (by intro e; have := HRL.out; rw [e] at this; simp at this; omega)
          have dr := hcr k (by rw [HRL.out]; exact hri)
          have hri' : (k : Int) < (rl : Int) := by omega
          clear hcr
          generalize rs.getD k 0 = q at *
          have HRD := hid (read_any rb 65536 s3 a3 n3 c3 q w3 IV3.out.bf IV3.out.fed.ok)
          have FR := hid (IV3.out.fed.read q)
          have FV := hid (IV3.out.fed.vals (readM s3 q) (readM_le s3 q))
          have FQ := hid (show (0 : Int) ≤ q → (readM s3 q : Int) ≤ q from fun h => by unfold readM; omega)
          go_wp2_with fail
          refine HRD.out.mono ?_
          rintro e w4 ⟨a4, n4, c4, D, rfl, hb4, hs4, hD4, hk4, hbb4⟩
          rw [FV.out] at hs4
          have HM := hid (show o + readM s3 q ≤ 65536 from by have := FR.out.offle; have := FR.out.small; omega)
          have FE := hid FR.out.endOf
          have HG4 := hid (IV3.out.got.keep hk4 (fun b hb => (IV3.out.sep b hb).2))
          have HGL := hid (IV3.out.got.lt)
          have HF4 := hid (show ∀ i, Fp rb a4 i → Fp rb a3 i from by
            intro i hi
            rcases hi with hi | hi
            · exact .inl hi
            · exact .inr (hbb4 i hi))
          have HKN := hid (show (readSt s3 q).known = s3.known from rfl)
          have HSZ4 := hid hk4.size
          generalize readM s3 q = m2 at *
          generalize readSt s3 q = s4 at *
          have hone : ∀ u ∈ ((zs.drop o).take m2).map (Value.int .u8), u.oneCell' = true := ints_oneCell _ _
          obtain ⟨gg, og, eg, _, hcg⟩ : ∃ g off, (some (⟨D, 0, none⟩ : Addr)) = some ⟨g, off, none⟩ ∧ True ∧ ∀ j v, (((zs.drop o).take m2).map (Value.int .u8))[j]? = some v → w4.cell? ⟨g, off + j, none⟩ = some v := by
            by_cases h0 : 0 < m2
            · obtain ⟨g, off, e, _, h⟩ := hs4.some_ h0
              exact ⟨g, off, e, trivial, h⟩
            · have h1 := hs4.1
              refine ⟨D, 0, rfl, trivial, fun j v hj => ?_⟩
              rw [List.getElem?_eq_none (by rw [h1]; omega)] at hj; cases hj
          cases eg
          obtain ⟨ga5, gc5, w5, hrun, hs5, hk5, hbo5⟩ := sub_append (P := Try.prog) (w := w4) (t := 28) (tx := 28) (ty := 28) Try.underlying28 i5i i5a i5b i5c rfl HG4.out (Src.ofSlice w4 Try.underlying28 ⟨D, 0, none⟩ m2 m2 _ hs4.1 (fun j v hj => by rw [addr_add]; exact hcg j v hj) hone) (by have := HM.out; unfold maxLen; omega) (by have := HM.out; omega)
          rw [← List.map_append, take_more] at hs5
          have HS5 := hid hs5
          have IV5 := hid (show ∀ k, Inv W (w5.drewN k) rb a4 n4 c4 s4 zs (o + m2) ga5 gc5 from fun k => by
            have hsep : ∀ i, Fp rb a4 i → ¬ blk ga3 = some i := fun i hi e => (IV3.out.sep i e).2 (HF4.out i hi)
            have hq5 := (Q.refl w5).drewN k
            refine ⟨(hb4.keep hk5 hsep).q hq5, FR.out, hs5.q hq5, fun i hi => IV3.out.w1 i (HF4.out i hi), fun b hb => ?_, ?_⟩
            · rcases hbo5 with h | h
              · have hb' : blk ga3 = some b := by rw [← h]; exact hb
                exact ⟨(IV3.out.sep b hb').1, fun hF => (IV3.out.sep b hb').2 (HF4.out b hF)⟩
              · rw [h] at hb
                simp at hb
                have h1 := IV3.out.q.size
                have h2 := HSZ4.out
                refine ⟨by omega, fun hF => ?_⟩
                have := hb4.lt b hF
                omega
            · have k' : Keep (fun b => W.heap.size ≤ b) W w5 := ((Keep.ofQ IV3.out.q).trans (hk4.mono (fun i _ e => IV3.out.w1 i e))).trans (hk5.mono (fun i _ e => (IV3.out.sep i e).1))
              exact (k'.toQ (fun i hi e => by omega)).drewN k)
          have hom : o + m2 ≤ sl := by have := FR.out.offle; have := HL.out; omega
          have HSS := hid ((HZ.out.q ((IV5.out 0).q)))
          have hom' : ¬ ((sl : Int) < ((o + m2 : Nat) : Int)) := by omega
          have hom2 : ((o + m2 : Nat) : Int) ≤ (sc : Int) := by omega
          have hom3 : o + m2 ≤ sc := by omega
          have hom4 : decide ((sl : Int) < ((o + m2 : Nat) : Int)) = false := by simp; omega
          have hom5 : decide ((sl : Int) < (o : Int) + (m2 : Int)) = false := by simp; omega
          clear hb4 hs4 hD4 hk4 hbb4 hs5 hk5 hbo5 hcg hone
          go_wp2_with (first | (at_builtin; refine Lib.wpList_append_run _ rfl _ _ _ _ rfl _ _ rfl rfl _ _ hrun ?_) | (fail))
          refine (same_any ga5 sa (o + m2) gc5 sc (zs.take (o + m2)) w5 HS5.out.seg (seg_take HSS.out _) (by rw [List.length_take, HL.out]; omega) (by have := HM.out; omega)).mono ?_
          rintro e w6 ⟨rfl, k6, rfl⟩
          have I6 := hid (IV5.out k6)
          generalize w5.drewN k6 = w6 at *
          rw [FE.out, HKN.out, HK3.out, HL.out]
          have EQ : (((o + m2 : Nat) : Int) == (sl : Int)) = decide (o + m2 = sl) := by
            by_cases e : o + m2 = sl
            · simp [e]
            · have e1 : (((o + m2 : Nat) : Int) == (sl : Int)) = false := by simp; omega
              simp only [e1, e, decide_false]
          generalize hB : decide (o + m2 = sl) = B at *
          have HBB := hid hB
          clear hB
          have EQ2 : (((o : Int) + (m2 : Int)) == (sl : Int)) = B := by
            have e9 : ((o + m2 : Nat) : Int) = (o : Int) + (m2 : Int) := by omega
            rw [← e9]; exact EQ
          have HQ0 := hid (FQ.out)
          cases B
          all_goals
            by_cases hq0 : (0 : Int) ≤ q
            · have hq1 : decide (q ≥ 0) = true := by simp <;> omega
              have hq2 : ¬ (q < (m2 : Int)) := by have := HQ0.out hq0; omega
              have hq3 : decide (q < (m2 : Int)) = false := by simp <;> omega
              go_wp2
              go_roundw
              case rel => exact ⟨k + 1, a4, n4, c4, s4, o + m2, ga5, gc5, by omega, by go_num, rfl, by rw [HKN.out, HK3.out], I6.out⟩
              case measure => simp [intOf]; omega
            · have hq1 : decide (q ≥ 0) = false := by simp <;> omega
              go_wp2
              go_roundw
              case rel => exact ⟨k + 1, a4, n4, c4, s4, o + m2, ga5, gc5, by omega, by go_num, rfl, by rw [HKN.out, HK3.out], I6.out⟩
              case measure => simp [intOf]; omega

        · have hri' : ¬ (k : Int) < (rl : Int) := by omega
          have HRD := hid (read_any rb 65536 s3 a3 n3 c3 (0 : Int) w3 IV3.out.bf IV3.out.fed.ok)
          have FR := hid (IV3.out.fed.read (0 : Int))
          have FV := hid (IV3.out.fed.vals (readM s3 (0 : Int)) (readM_le s3 (0 : Int)))
          have FQ := hid (show (0 : Int) ≤ (0 : Int) → (readM s3 (0 : Int) : Int) ≤ (0 : Int) from fun h => by unfold readM; omega)
          go_wp2_with fail
          refine HRD.out.mono ?_
          rintro e w4 ⟨a4, n4, c4, D, rfl, hb4, hs4, hD4, hk4, hbb4⟩
          rw [FV.out] at hs4
          have HM := hid (show o + readM s3 (0 : Int) ≤ 65536 from by have := FR.out.offle; have := FR.out.small; omega)
          have FE := hid FR.out.endOf
          have HG4 := hid (IV3.out.got.keep hk4 (fun b hb => (IV3.out.sep b hb).2))
          have HGL := hid (IV3.out.got.lt)
          have HF4 := hid (show ∀ i, Fp rb a4 i → Fp rb a3 i from by
            intro i hi
            rcases hi with hi | hi
            · exact .inl hi
            · exact .inr (hbb4 i hi))
          have HKN := hid (show (readSt s3 (0 : Int)).known = s3.known from rfl)
          have HSZ4 := hid hk4.size
          generalize readM s3 (0 : Int) = m2 at *
          generalize readSt s3 (0 : Int) = s4 at *
          have hone : ∀ u ∈ ((zs.drop o).take m2).map (Value.int .u8), u.oneCell' = true := ints_oneCell _ _
          obtain ⟨gg, og, eg, _, hcg⟩ : ∃ g off, (some (⟨D, 0, none⟩ : Addr)) = some ⟨g, off, none⟩ ∧ True ∧ ∀ j v, (((zs.drop o).take m2).map (Value.int .u8))[j]? = some v → w4.cell? ⟨g, off + j, none⟩ = some v := by
            by_cases h0 : 0 < m2
            · obtain ⟨g, off, e, _, h⟩ := hs4.some_ h0
              exact ⟨g, off, e, trivial, h⟩
            · have h1 := hs4.1
              refine ⟨D, 0, rfl, trivial, fun j v hj => ?_⟩
              rw [List.getElem?_eq_none (by rw [h1]; omega)] at hj; cases hj
          cases eg
          obtain ⟨ga5, gc5, w5, hrun, hs5, hk5, hbo5⟩ := sub_append (P := Try.prog) (w := w4) (t := 28) (tx := 28) (ty := 28) Try.underlying28 i5i i5a i5b i5c rfl HG4.out (Src.ofSlice w4 Try.underlying28 ⟨D, 0, none⟩ m2 m2 _ hs4.1 (fun j v hj => by rw [addr_add]; exact hcg j v hj) hone) (by have := HM.out; unfold maxLen; omega) (by have := HM.out; omega)
          rw [← List.map_append, take_more] at hs5
          have HS5 := hid hs5
          have IV5 := hid (show ∀ k, Inv W (w5.drewN k) rb a4 n4 c4 s4 zs (o + m2) ga5 gc5 from fun k => by
            have hsep : ∀ i, Fp rb a4 i → ¬ blk ga3 = some i := fun i hi e => (IV3.out.sep i e).2 (HF4.out i hi)
            have hq5 := (Q.refl w5).drewN k
            refine ⟨(hb4.keep hk5 hsep).q hq5, FR.out, hs5.q hq5, fun i hi => IV3.out.w1 i (HF4.out i hi), fun b hb => ?_, ?_⟩
            · rcases hbo5 with h | h
              · have hb' : blk ga3 = some b := by rw [← h]; exact hb
                exact ⟨(IV3.out.sep b hb').1, fun hF => (IV3.out.sep b hb').2 (HF4.out b hF)⟩
              · rw [h] at hb
                simp at hb
                have h1 := IV3.out.q.size
                have h2 := HSZ4.out
                refine ⟨by omega, fun hF => ?_⟩
                have := hb4.lt b hF
                omega
            · have k' : Keep (fun b => W.heap.size ≤ b) W w5 := ((Keep.ofQ IV3.out.q).trans (hk4.mono (fun i _ e => IV3.out.w1 i e))).trans (hk5.mono (fun i _ e => (IV3.out.sep i e).1))
              exact (k'.toQ (fun i hi e => by omega)).drewN k)
          have hom : o + m2 ≤ sl := by have := FR.out.offle; have := HL.out; omega
          have HSS := hid ((HZ.out.q ((IV5.out 0).q)))
          have hom' : ¬ ((sl : Int) < ((o + m2 : Nat) : Int)) := by omega
          have hom2 : ((o + m2 : Nat) : Int) ≤ (sc : Int) := by omega
          have hom3 : o + m2 ≤ sc := by omega
          have hom4 : decide ((sl : Int) < ((o + m2 : Nat) : Int)) = false := by simp; omega
          have hom5 : decide ((sl : Int) < (o : Int) + (m2 : Int)) = false := by simp; omega
          clear hb4 hs4 hD4 hk4 hbb4 hs5 hk5 hbo5 hcg hone
          go_wp2_with (first | (at_builtin; refine Lib.wpList_append_run _ rfl _ _ _ _ rfl _ _ rfl rfl _ _ hrun ?_) | (fail))
          refine (same_any ga5 sa (o + m2) gc5 sc (zs.take (o + m2)) w5 HS5.out.seg (seg_take HSS.out _) (by rw [List.length_take, HL.out]; omega) (by have := HM.out; omega)).mono ?_
          rintro e w6 ⟨rfl, k6, rfl⟩
          have I6 := hid (IV5.out k6)
          generalize w5.drewN k6 = w6 at *
          rw [FE.out, HKN.out, HK3.out, HL.out]
          have EQ : (((o + m2 : Nat) : Int) == (sl : Int)) = decide (o + m2 = sl) := by
            by_cases e : o + m2 = sl
            · simp [e]
            · have e1 : (((o + m2 : Nat) : Int) == (sl : Int)) = false := by simp; omega
              simp only [e1, e, decide_false]
          generalize hB : decide (o + m2 = sl) = B at *
          have HBB := hid hB
          clear hB
          have EQ2 : (((o : Int) + (m2 : Int)) == (sl : Int)) = B := by
            have e9 : ((o + m2 : Nat) : Int) = (o : Int) + (m2 : Int) := by omega
            rw [← e9]; exact EQ
          have HQ0 := hid (FQ.out)
          cases B
          all_goals
            by_cases hq0 : (0 : Int) ≤ (0 : Int)
            · have hq1 : decide ((0 : Int) ≥ 0) = true := by simp
              have hq2 : ¬ ((0 : Int) < (m2 : Int)) := by have := HQ0.out hq0; omega
              have hq3 : decide ((0 : Int) < (m2 : Int)) = false := by simp <;> omega
              go_wp2
              go_roundw
              case rel => exact ⟨k + 1, a4, n4, c4, s4, o + m2, ga5, gc5, by omega, by go_num, rfl, by rw [HKN.out, HK3.out], I6.out⟩
              case measure => simp [intOf]; omega
            · exact absurd (Int.le_refl 0) hq0

    · obtain rfl : k = cl := by omega
      have hh := IR.out.bf.hd
      rw [IR.out.fed.off] at hh
      have HO := hid (show o ≤ 65536 from by have := IR.out.fed.offle; have := IR.out.fed.small; omega)
      go_wp2_with fail
      refine (offset_any rb 65536 _ _ _ _ _ _ a n c wr hh).mono ?_
      rintro e w7 ⟨rfl, rfl⟩
      have hee : ((o : Int) == (o : Int)) = true := by simp
      go_wp2_with fail
      refine (awake_any wr).mono ?_
      rintro e w8 ⟨rfl, hq8⟩
      have Q8 := hid (IR.out.q.trans hq8)
      clear hq8 hh
      go_wp2
      go_ret
      exact ⟨rfl, Q8.out⟩

theorem walk (sa ca ra : Option Addr) (sl sc cl cc rl rc : Nat) (zs : List Int) (z : Nat → Int × Int) (rs : List Int) (hl : zs.length = sl) (hsg : Seg W sa zs) (hsc : sl ≤ sc)
    (hzb : ∀ i, i < cl → (-9223372036854775808 ≤ (z i).1 ∧ (z i).1 ≤ 9223372036854775807) ∧ (-9223372036854775808 ≤ (z i).2 ∧ (z i).2 ≤ 9223372036854775807)) (hzs : SegC W ca cl z) (hrl : rs.length = rl) (hrs : SegN W ra rs) (hsn : sl ≤ 140737488351232) (hcl : cl * 16 ≤ 140737488351232) (hrn : rl * 8 ≤ 140737488351232) :
    Calls Try.prog 5 #[.slice sa sl sc, .slice ca cl cc, .slice ra rl rc] W fun e w' => e = .returned (.bool true) ∧ Below W.heap.size W w' := by
  by_cases h : sl ≤ 65536
  · exact walk_small sa ca ra sl sc cl cc rl rc zs z rs h hl hsg hsc hzb hzs hcl hrl hrs hrn
  · exact walk_big sa ca ra sl sc cl cc rl rc (by omega) hsn

set_option maxRecDepth 100000 in
theorem lifted (os : Os) (started : os.Started) (H : Type) (enc : TypeId × Value → H) :
    ReturnsInHanded {} Try.checked os 5 .any (Rows.reasmPrefixSpec.pre6 enc Try.prog Try.f5 Rows.reasmPrefixRow.domain false) (Rows.reasmPrefixSpec.post enc Try.prog Try.f5 false true false false) := by
  refine returnsInHanded_of_change_sized (C := Try.checked) own_knob started (by kernel_rfl) Try.func5
    (ChangeSpec.witness6 (enc := enc) (C := Try.checked) false ⟨#[], #[.slice none 0 0, .slice none 0 0, .slice none 0 0], []⟩ 8 (by kernel_rfl) (by kernel_rfl) (by kernel_rfl) (by kernel_rfl)) ?_
  intro W base args ds gs before hval0 hW hcnd hsz0 _
  have hval : ∀ (j : Nat) t v, Try.f5.params[j]? = some t → args[j]? = some v → Value.okWide Try.prog W .any base t v := hval0
  have hsz : (DataW.weightsEach Try.prog (Try.f5.params.toList ++ Rows.reasmPrefixSpec.plain.varTypes Try.prog) (ds ++ gs)).all (· ≤ reachBytes) = true := hsz0
  have hW' := hW
  obtain ⟨p, q, hA0, hV, rfl, hfz, hnd⟩ := hW
  have hA : DataW.TrodAll enc Try.prog W 0 (fun _ => true) true Try.f5.params.toList args.toList ds p := hA0
  rw [Try.params5] at hA hval hsz
  obtain ⟨v0, vs0, d0, ds0, p0, q0, hargs, rfl, rfl, h0, r0⟩ := trodAll_cons hA
  obtain ⟨v1, vs1, d1, ds1, p1, q1, rfl, rfl, rfl, h1, r1⟩ := trodAll_cons r0
  obtain ⟨v2, vs2, d2, ds2, p2, q2, rfl, rfl, rfl, h2, r2⟩ := trodAll_cons r1
  obtain ⟨rfl, rfl, rfl⟩ := trodAll_nil r2
  obtain rfl : args = #[v0, v1, v2] := by cases args; simp_all
  obtain ⟨rfl, rfl⟩ := trodVars_none hV
  obtain ⟨a0, len0, cap0, rfl⟩ := okWide_slice Try.underlying28 (hval 0 28 v0 rfl rfl)
  have k0 := h0
  have lt0 : ∀ x ∈ p0, x.block < W.heap.size := by obtain ⟨m, hm⟩ := k0; exact DataW.trod_lt m _ _ _ hm
  obtain ⟨z0, zl0, zs0, zb0, zc0, ze0, zd0⟩ := open_bytes h0
  have zn0 := len_le_bytes hsz (j := 0) rfl rfl zd0
  obtain ⟨a1, len1, cap1, rfl⟩ := okWide_slice Try.underlying47 (hval 1 47 v1 rfl rfl)
  have k1 := h1
  have lt1 : ∀ x ∈ p1, x.block < W.heap.size := by obtain ⟨m, hm⟩ := k1; exact DataW.trod_lt m _ _ _ hm
  obtain ⟨z1, zl1, zs1, zb1, zc1, ze1, zd1⟩ := open_cuts h1
  have zn1 := len_le_cuts hsz (j := 1) rfl rfl zd1
  obtain ⟨a2, len2, cap2, rfl⟩ := okWide_slice Try.underlying48 (hval 2 48 v2 rfl rfl)
  have k2 := h2
  have lt2 : ∀ x ∈ p2, x.block < W.heap.size := by obtain ⟨m, hm⟩ := k2; exact DataW.trod_lt m _ _ _ hm
  obtain ⟨z2, zl2, zs2, zb2, zc2, ze2, zd2⟩ := open_nums h2
  have zn2 := len_le_nums hsz (j := 2) rfl rfl zd2
  clear hA0 hval0
  refine (walk a0 a1 a2 len0 cap0 len1 cap1 len2 cap2 z0 z1 z2 zl0 zs0 zc0 zl1 zs1 zl2 zs2 zn0 zn1 zn2).mono fun e W' ⟨he, bel⟩ => ?_
  subst he
  exact ⟨_, rfl, _, _, _, [], _, [], hW', trodAll_mk1 (shut_bool Try.underlying4 _), (trodAll_cons_mk (Below.trod laid_out (by kernel_rfl) (of_decide_eq_true (by kernel_rfl)) k0 bel lt0) (trodAll_cons_mk (Below.trod laid_out (by kernel_rfl) (of_decide_eq_true (by kernel_rfl)) k1 bel lt1) (trodAll_cons_mk (Below.trod laid_out (by kernel_rfl) (of_decide_eq_true (by kernel_rfl)) k2 bel lt2) trodAll_mk0))), rfl, bel.frame _, fun h => by cases h⟩

theorem over : Rows.reasmPrefixRow.holds Try.pinned (OpenSpec.ofChange Rows.reasmPrefixSpec) :=
  OpenClaim.holds_of_wide 5 Try.f5 rfl rfl rfl rfl rfl rfl rfl ⟨rfl, rfl, rfl, rfl, rfl⟩ rfl rfl rfl rfl rfl (by kernel_rfl) Try.func5 (by kernel_rfl)
    (of_decide_eq_true (by kernel_rfl)) (by unfold Func.isWrapper; first | (rw [if_pos (by decide +kernel)]; kernel_rfl) | (rw [if_neg (by decide +kernel)]; exact ⟨rfl, rfl⟩))
    (fun os started H enc _ => lifted os started H enc)

end Go.Proofs.Ytdgkeidpoodmeaa.reasmPrefix
namespace Go.Proofs.Ytdgkeidpoodmeaa

/-- The statement. -/
theorem reasmPrefix_holds : Rows.ReasmPrefixSaid := reasmPrefix.over
#print axioms reasmPrefix_holds
end Go.Proofs.Ytdgkeidpoodmeaa
