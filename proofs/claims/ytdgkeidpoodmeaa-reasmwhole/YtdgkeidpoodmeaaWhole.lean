/-
  Proved: for all slices of bytes and of cuts (each within the form's own reach) the law turnpikelaw03.ReasmWhole returns true, and its arguments read as they did. No other condition.
-/
import Derived.Test.YtdgkeidpoodmeaaRows
import Derived.Test.YtdgkeidpoodmeaaAwake
import Derived.Test.YtdgkeidpoodmeaaPiece
import Derived.Test.YtdgkeidpoodmeaaCover
import Derived.WalkKit
import Derived.ProofKit
import Derived.OpenShut
import Derived.ShutString
import Derived.ChangeOld
import Derived.Below
import Derived.SizedLaws
namespace Go.Proofs.Ytdgkeidpoodmeaa.reasmWhole
open Go.ChangeShapes Go.WideShapes Go.ChangeAt Go.RowKit
open Go.ChangeMaps (open_string shut_string)
set_option linter.unusedVariables false

variable {W : World}

/-- append of one mark out of a new block of its own. -/
theorem app_mark {w : World} {v : Bool} {a : Option Addr} {n cap : Nat} {vs : List Value} {i0 : TypeInfo} (hi : Try.prog.info? 4 = some i0) (hz0 : i0.zero = some (.bool false)) (hz1 : i0.size = 1) (hz2 : i0.bytes = 1)
    (hs : Sub w 4 1 a n cap vs) (hn : n ≤ 65536) :
    ∃ a' cap' w', (Builtin.append_ #[36, 36] 36 #[.slice a n cap, .slice (some ⟨w.heap.size, 0, none⟩) 1 1]).run Try.prog (w.alloc (.cells #[.bool v] 4)) = .ok (.slice a' (n + 1) cap') w' ∧ Sub w' 4 1 a' (n + 1) cap' (vs ++ [.bool v]) ∧ Keep (fun b => blk a = some b) w w' ∧ (∀ b, blk a' = some b → blk a = some b ∨ w.heap.size ≤ b) := by
  have hq : Q w (w.alloc (.cells #[.bool v] 4)) := (Q.refl w).alloc _
  have hg : (w.alloc (.cells #[.bool v] 4)).heap[w.heap.size]? = some (.cells #[.bool v] 4 (0, 0)) := heap_alloc_new w _
  have hsrc : ∀ j u, [Value.bool v][j]? = some u → (w.alloc (.cells #[.bool v] 4)).cell? ((⟨w.heap.size, 0, none⟩ : Addr).add j) = some u := by
    intro j u hj
    rw [addr_add, cell_of_row _ _ _ _ 4 (0, 0) hg, Nat.zero_add]
    simpa using hj
  obtain ⟨a', cap', w', hr, h1, h2, h3⟩ := sub_append (P := Try.prog) (ty := 36) Try.underlying36 hi hz0 hz1 hz2 rfl (hs.q hq) (Src.ofSlice _ Try.underlying36 ⟨w.heap.size, 0, none⟩ 1 1 [.bool v] (by simp) hsrc (by intro u hu; rw [List.mem_singleton.1 hu]; rfl)) (by unfold maxLen; omega) (by omega)
  refine ⟨a', cap', w', hr, h1, (Keep.ofQ hq).trans h2, fun b hb => ?_⟩
  rcases h3 with h | h
  · exact .inl (by rw [← h]; exact hb)
  · rw [h] at hb
    simp at hb
    right
    have := hq.size
    omega

/-- A buffer fed with pieces of a source and not read, and the marks of what came. -/
structure Inv (W w : World) (rb : Nat) (a : Option Addr) (n c : Nat) (s : S) (zs : List Int) (bs : List Bool) (ha : Option Addr) (sl hc : Nat) : Prop where
  bf : Bf w rb a n c 65536 s
  fed : Fed zs 0 s
  got : Sub w 4 1 ha sl hc (bs.map Value.bool)
  len : bs.length = sl
  cov : Cov bs s.xs
  w1 : ∀ i, Fp rb a i → W.heap.size ≤ i
  sep : ∀ b, blk ha = some b → W.heap.size ≤ b ∧ ¬ Fp rb a b
  q : Q W w
theorem Inv.go {w w' : World} {rb : Nat} {a : Option Addr} {n c : Nat} {s : S} {zs : List Int} {bs : List Bool} {ha : Option Addr} {sl hc : Nat} (h : Inv W w rb a n c s zs bs ha sl hc) (k : Q w w') : Inv W w' rb a n c s zs bs ha sl hc :=
  ⟨h.bf.q k, h.fed, h.got.q k, h.len, h.cov, h.w1, h.sep, h.q.trans k⟩
/-- Behind a Put, and behind the marks that were set for it. -/
theorem Inv.put {w w' w'' : World} {rb : Nat} {a a' : Option Addr} {n c n' c' : Nat} {s s' : S} {zs : List Int} {bs bs' : List Bool} {ha : Option Addr} {sl hc : Nat} (h : Inv W w rb a n c s zs bs ha sl hc) (k : Keep (Fp rb a) w w') (b : Bf w' rb a' n' c' 65536 s') (f : Fed zs 0 s')
    (hf : ∀ b, blk a' = some b → blk a = some b ∨ w.heap.size ≤ b) (k2 : Keep (fun b => blk ha = some b) w' w'') (g : Sub w'' 4 1 ha sl hc (bs'.map Value.bool)) (l : bs'.length = sl) (cv : Cov bs' s'.xs) : Inv W w'' rb a' n' c' s' zs bs' ha sl hc := by
  have hs := h.q.size
  have hf' : ∀ i, Fp rb a' i → Fp rb a i ∨ w.heap.size ≤ i := by
    intro i hi
    rcases hi with hi | hi
    · exact .inl (.inl hi)
    · exact (hf i hi).imp (fun h => .inr h) id
  have hsep : ∀ b, blk ha = some b → ¬ Fp rb a' b := fun b hb hF => by
    rcases hf' b hF with hh | hh
    · exact (h.sep b hb).2 hh
    · have := h.got.lt b hb; omega
  refine ⟨b.keep k2 (fun i hi e => hsep i e hi), f, g, l, cv, fun i hi => ?_, fun b hb => ⟨(h.sep b hb).1, hsep b hb⟩, ?_⟩
  · rcases hf' i hi with hh | hh
    · exact h.w1 i hh
    · omega
  · have k' : Keep (fun b => W.heap.size ≤ b) W w'' := ((Keep.ofQ h.q).trans (k.mono (fun i _ e => h.w1 i e))).trans (k2.mono (fun i _ e => (h.sep i e).1))
    exact k'.toQ (fun i hi e => by omega)

set_option maxHeartbeats 1000000 in
set_option maxRecDepth 100000 in
theorem walk_big (sa ca : Option Addr) (sl sc cl cc : Nat) (hs : 65536 < sl) (hn : sl ≤ 140737488351232) : Calls Try.prog 6 #[.slice sa sl sc, .slice ca cl cc] W fun e w' => e = .returned (.bool true) ∧ Below W.heap.size W w' := by
  have hb : (65536 : Int) < (sl : Int) := by omega
  go_enter Try.func6, Try.ntmps6
  go_wp2_with fail
  refine (new_good 65536 W (by omega) (by omega)).mono ?_
  rintro e w1 ⟨rfl, hb1, hq1, hlt1⟩
  have Q1 := hid hq1
  clear hb1 hq1
  go_wp2
  go_ret
  exact ⟨rfl, Q1.out⟩

set_option maxHeartbeats 16000000 in
set_option maxRecDepth 100000 in
theorem walk_small (sa ca : Option Addr) (sl sc cl cc : Nat) (zs : List Int) (z : Nat → Int × Int) (hs : sl ≤ 65536) (hl : zs.length = sl) (hsg : Seg W sa zs) (hsc : sl ≤ sc)
    (hzb : ∀ i, i < cl → (-9223372036854775808 ≤ (z i).1 ∧ (z i).1 ≤ 9223372036854775807) ∧ (-9223372036854775808 ≤ (z i).2 ∧ (z i).2 ≤ 9223372036854775807)) (hzs : SegC W ca cl z) (hcl : cl * 16 ≤ 140737488351232) :
    Calls Try.prog 6 #[.slice sa sl sc, .slice ca cl cc] W fun e w' => e = .returned (.bool true) ∧ Below W.heap.size W w' := by
  obtain ⟨i4, i4i, i4a, i4b, i4c⟩ := info_parts info4
  have HL := hid hl
  have HZ := hid hsg
  have HZB := hid hzb
  have HZS := hid hzs
  have hb : ¬ (65536 : Int) < (sl : Int) := by omega
  clear hl hsg hzb hzs
  go_enter Try.func6, Try.ntmps6
  go_wp2_with fail
  refine (new_good 65536 W (by omega) (by omega)).mono ?_
  rintro e w1 ⟨rfl, hb1, hq1, hlt1⟩
  have HB1 := hid hb1
  have HQ1 := hid hq1
  clear hb1 hq1
  generalize hrb : W.heap.size = rb at *
  have HRB := hid hrb
  clear hrb
  go_wp2
  go_loopw [44, 7] (fun v hv wr => ∃ i : Nat, ∃ ha hc : _, i ≤ sl ∧ v = .int .i64 i ∧ hv = .slice ha i hc ∧ Sub wr 4 1 ha i hc ((List.replicate i false).map Value.bool) ∧ Q w1 wr ∧ (∀ b, blk ha = some b → w1.heap.size ≤ b)) (fun i _ _ => sl - (intOf i).toNat)
  case atStart => exact ⟨0, none, 0, Nat.zero_le _, rfl, rfl, sub_nil _ _ _, Q.refl _, fun b h => by cases h⟩
  case round =>
    obtain ⟨i, ha, hc, hi, rfl, rfl, hsi, hqi, hbi⟩ := hrel
    have HSI := hid hsi
    have HQI := hid hqi
    have HBI := hid hbi
    clear hsi hqi hbi
    by_cases hlt : i < sl
    · have hlt' : (i : Int) < (sl : Int) := by omega
      obtain ⟨ha', hc', w2, hrun, s2, k2, b2⟩ := app_mark (v := false) i4i i4a i4b i4c HSI.out (by omega)
      have S2 := hid s2
      have Q2 := hid (show Q w1 w2 from ((Keep.ofQ (F := fun b => w1.heap.size ≤ b) HQI.out).trans (k2.mono (fun j _ e => HBI.out j e))).toQ (fun j hj e => by omega))
      have B2 := hid (show ∀ b, blk ha' = some b → w1.heap.size ≤ b from fun b hb => by
        rcases b2 b hb with h | h
        · exact HBI.out b h
        · have := HQI.out.size; omega)
      clear s2 k2 b2
      go_wp2_with (at_builtin; refine Lib.wpList_append_run _ rfl _ _ _ _ rfl _ _ rfl rfl _ _ hrun ?_)
      go_roundw
      case rel => exact ⟨i + 1, ha', hc', by omega, by go_num, rfl, by rw [List.replicate_succ', List.map_append]; exact S2.out, Q2.out, B2.out⟩
      case measure => simp [intOf]; omega
    · obtain rfl : i = sl := by omega
      have IV0 := hid (show Inv W wr rb none 0 0 s0 zs (List.replicate i false) ha i hc from ⟨HB1.out.q HQI.out, fed0 (by rw [HL.out]; exact hs), HSI.out, by simp, cov0 i, (by
          intro j hj
          rcases hj with hj | hj
          · have := HRB.out; omega
          · cases hj), (fun b hb => ⟨by have := HBI.out b hb; have := HRB.out; omega, fun hF => by
            have := HBI.out b hb
            rcases hF with h | h
            · omega
            · cases h⟩), HQ1.out.trans HQI.out⟩)
      clear HSI HQI HBI hlt hi
      go_wp2
      generalize hws : wr = ws at *
      clear hws
      go_loopw [52, 8] (fun v fv wr => ∃ k : Nat, ∃ a n c : _, ∃ s : S, ∃ bs : List Bool, k ≤ cl ∧ v = .int .i64 k ∧ fv = .int .i64 (heldN s.xs) ∧ Inv W wr rb a n c s zs bs ha i hc) (fun i _ _ => cl - (intOf i).toNat)
      case atStart => exact ⟨0, none, 0, 0, s0, _, Nat.zero_le _, rfl, rfl, IV0.out⟩
      case round =>
        obtain ⟨k, a, n, c, s, bs, hk, rfl, rfl, hiv⟩ := hrel
        have IR := hid hiv
        have HHB := hid (show heldN s.xs ≤ 65536 from by have := held_le s.xs; have := hiv.fed.ok.len; omega)
        clear hiv IV0
        by_cases hkn : k < cl
        · obtain ⟨b, off, rfl, hcc⟩ := (HZS.out.q IR.out.q) (by omega)
          obtain ⟨d0, d1⟩ := hcc k hkn
          have hlt' : (k : Int) < (cl : Int) := by omega
          have ZB := hid (HZB.out k hkn)
          clear hcc
          generalize z k = y at *
          obtain ⟨A, L⟩ := y
          simp only at d0 d1 ZB
          have QX := hid ((Q.refl wr).alloc (.cells #[.int .i64 A, .int .i64 L] 50))
          have IX := hid (IR.out.go QX.out)
          have PC := hid (piece_any sa i sc zs A L (wr.alloc (.cells #[.int .i64 A, .int .i64 L] 50)) (HZ.out.q IX.out.q) HL.out hsc hs ZB.out.2)
          go_wp2_with fail
          refine PC.out.mono ?_
          rintro e w2 ⟨p, m, da, dc, hpm, rfl, hdc, hq2, hsg2, hbd⟩
          have I2 := hid (IX.out.go hq2)
          have PL := hid (show p + m ≤ zs.length from by rw [HL.out]; exact hpm)
          have PF := hid (show decide (p + m = i) = true → p + m = zs.length from fun h => by rw [HL.out]; exact of_decide_eq_true h)
          have PT := hid (put_any rb 65536 s a n c p da m dc ((zs.drop p).take m) (decide (p + m = i)) w2 I2.out.bf I2.out.fed.ok (by omega) hsg2 (Fed.cut_len PL.out) (fun b hb hF => by have := hbd b hb; have := IX.out.bf.lt b hF; omega) hdc)
          have PE := hid (I2.out.fed.err PL.out PF.out)
          have FP := hid (I2.out.fed.put PL.out PF.out)
          have CP := hid (I2.out.cov.put I2.out.fed PL.out (by rw [I2.out.len, HL.out]) PF.out)
          have FF := hid (show freshOf 65536 s p ((zs.drop p).take m) (decide (p + m = i)) = (heldN (putAll 65536 s p ((zs.drop p).take m) (decide (p + m = i))).xs : Int) - heldN s.xs from rfl)
          clear hq2 hsg2 hbd hdc QX PC IX
          go_wp2_with fail
          refine PT.out.mono ?_
          rintro e w3 ⟨a3, n3, c3, rfl, hb3, hk3, hbb3⟩
          rw [PE.out, FF.out]
          have HS3 := hid (I2.out.got.keep hk3 (fun b hb => (I2.out.sep b hb).2))
          have HB3 := hid hb3
          have HK3 := hid hk3
          have HF3 := hid hbb3
          clear hb3 hk3 hbb3 PT PE FF
          generalize decide (p + m = i) = lst at *
          generalize putAll 65536 s p ((zs.drop p).take m) lst = s3 at *
          have HH3 := hid (show heldN s3.xs ≤ 65536 from by have := held_le s3.xs; have := FP.out.ok.len; omega)
          have hwf : IntKind.i64.wrap ((heldN s.xs : Int) + ((heldN s3.xs : Int) - heldN s.xs)) = (heldN s3.xs : Int) := by rw [IntKind.wrap_i64]; have := HH3.out; omega
          go_wp2
          generalize hwt : wr = wt at *
          clear hwt
          go_loopw [78, 16] (fun v _ wr => ∃ j : Nat, j ≤ m ∧ v = .int .i64 j ∧ Sub wr 4 1 ha i hc ((mark bs p j).map Value.bool) ∧ Keep (fun b => blk ha = some b) w3 wr) (fun v _ _ => m - (intOf v).toNat)
          case atStart => exact ⟨0, Nat.zero_le _, rfl, HS3.out, Keep.refl _ _⟩
          case round =>
            obtain ⟨j, hj, rfl, hsj, hkj⟩ := hrel
            have HSJ := hid hsj
            have HKJ := hid hkj
            by_cases hjm : j < m
            · have hjm' : (j : Int) < (m : Int) := by omega
              obtain ⟨g, og, rfl, hfz, hcl2⟩ := hsj.some_ (show 0 < i by omega)
              have hml : (mark bs p j).length = i := by rw [mark_len, I2.out.len]
              have hcj : wr.cell? ⟨g, og + (p + j), none⟩ = some (.bool ((mark bs p j).getD (p + j) false)) := hcl2 (p + j) _ (by
                rw [List.getElem?_map, List.getD_eq_getElem?_getD, List.getElem?_eq_getElem (by omega)]; rfl)
              have fj := hfz (og + (p + j))
              have hwp : IntKind.i64.wrap ((p : Int) + (j : Int)) = ((p + j : Nat) : Int) := by rw [IntKind.wrap_i64]; omega
              have hpj : ((p + j : Nat) : Int) < (i : Int) := by omega
              have hpj2 : p + j < i := by omega
              have SS := hid (show Sub (wr.setCell ⟨g, og + (p + j), none⟩ (.bool true)) 4 1 (some ⟨g, og, none⟩) i hc ((mark bs p (j + 1)).map Value.bool) from by
                rw [mark, List.map_set]
                exact hsj.set rfl (by omega) _)
              have KS := hid (hkj.setCell g (og + (p + j)) (.bool true) (.inl rfl))
              clear hsj hkj hfz hcl2 hj
              generalize (mark bs p j).getD (p + j) false = vv at *
              go_wp2
              go_roundw
              case rel => exact ⟨j + 1, by omega, by go_num, SS.out, KS.out⟩
              case measure => simp [intOf]; omega
            · obtain rfl : j = m := by omega
              have IN := hid (I2.out.put HK3.out HB3.out FP.out HF3.out hkj hsj (by rw [mark_len, I2.out.len]) CP.out)
              clear hsj hkj hj hjm
              go_wp2
              go_roundw
              case rel => exact ⟨k + 1, a3, n3, c3, s3, mark bs p j, by omega, by go_num, rfl, IN.out⟩
              case measure => simp [intOf]; omega
        · obtain rfl : k = cl := by omega
          have LEN := hid IR.out.len
          have CH := hid (cov_held IR.out.cov (n := i) (by have := IR.out.fed.offle; have := HL.out; omega))
          have CR := hid (cov_ready IR.out.cov (n := i) (by have := IR.out.fed.offle; have := HL.out; omega))
          generalize hwt : wr = wt at *
          clear hwt
          go_wp2
          go_loopw [90, 17, 18, 19] (fun v hv rv _ wr => ∃ j : Nat, j ≤ i ∧ v = .int .i64 j ∧ hv = .int .i64 (cnt bs j) ∧ rv = .int .i64 (run bs j) ∧ wt = wr) (fun v _ _ _ _ => i - (intOf v).toNat)
          case atStart => exact ⟨0, Nat.zero_le _, rfl, rfl, rfl, rfl⟩
          case round =>
            obtain ⟨j, hj, rfl, rfl, rfl, rfl⟩ := hrel
            have hc1 := cnt_le bs j
            have hr1 := run_le bs j
            by_cases hji : j < i
            · have hji' : (j : Int) < (i : Int) := by omega
              obtain ⟨g, og, rfl, hfz, hcl2⟩ := IR.out.got.some_ (show 0 < i by omega)
              have hcj : wt.cell? ⟨g, og + j, none⟩ = some (.bool (bs.getD j false)) := hcl2 j _ (by
                rw [List.getElem?_map, List.getD_eq_getElem?_getD, List.getElem?_eq_getElem (by rw [LEN.out]; exact hji)]; rfl)
              have C1 := hid (show cnt bs (j + 1) = cnt bs j + if bs.getD j false then 1 else 0 from rfl)
              have R1 := hid (show run bs (j + 1) = if bs.getD j false = true ∧ run bs j = j then run bs j + 1 else run bs j from rfl)
              clear hfz hcl2
              generalize cnt bs j = cj at *
              generalize run bs j = rj at *
              cases hbj : bs.getD j false
              · rw [hbj] at hcj C1 R1
                clear hbj
                go_wp2
                go_roundw
                case rel => exact ⟨j + 1, by omega, by go_num, by rw [C1.out]; rfl, by rw [R1.out, if_neg (by simp)], trivial⟩
                case measure => simp [intOf]; omega
              · rw [hbj] at hcj C1 R1
                clear hbj
                by_cases hrj : rj = j
                · have hrb : ((rj : Int) == (j : Int)) = true := by simp [hrj]
                  have HRJ := hid hrj
                  clear hrj
                  go_wp2
                  go_roundw
                  case rel => exact ⟨j + 1, by omega, by go_num, by rw [C1.out]; go_num, by rw [R1.out, if_pos ⟨rfl, HRJ.out⟩]; go_num, trivial⟩
                  case measure => simp [intOf]; omega
                · have hrb : ((rj : Int) == (j : Int)) = false := by simp; omega
                  have HRJ := hid hrj
                  clear hrj
                  go_wp2
                  go_roundw
                  case rel => exact ⟨j + 1, by omega, by go_num, by rw [C1.out]; go_num, by rw [R1.out, if_neg (fun e => HRJ.out e.2)], trivial⟩
                  case measure => simp [intOf]; omega
            · obtain rfl : j = i := by omega
              rw [CH.out, CR.out]
              obtain ⟨FE0, FE1, FE2, FE3⟩ := fed_end IR.out.fed
              rw [HL.out] at FE0 FE1 FE2 FE3
              have F0 := hid FE0
              have F1 := hid FE1
              have F2 := hid FE2
              have F3 := hid FE3
              have y1 : ((heldN s.xs : Int) != (heldN s.xs : Int)) = false := by simp
              have y2 : ((rdy s.xs : Int) != (rdy s.xs : Int)) = false := by simp
              clear FE0 FE1 FE2 FE3 hc1 hr1
              have HB := hid IR.out.bf
              go_wp2_with fail
              refine (held_any rb 65536 _ _ _ _ _ _ a n c wt HB.out.hd).mono ?_
              rintro e w9 ⟨rfl, rfl⟩
              go_wp2_with fail
              refine (ready_any rb 65536 _ _ _ _ _ _ a n c wt HB.out.hd).mono ?_
              rintro e w9 ⟨rfl, rfl⟩
              have PT := hid (put_any rb 65536 s a n c (j : Int) none 0 0 [] true wt HB.out IR.out.fed.ok (by omega) (seg_nil _ _) rfl (fun b hb => by cases hb) (Nat.le_refl _))
              go_wp2_with fail
              refine PT.out.mono ?_
              rintro e w5 ⟨a5, n5, c5, rfl, hb5, hk5, hbb5⟩
              rw [F0.out]
              have HB5 := hid hb5
              have HK5 := hid (show Keep (fun b => W.heap.size ≤ b) W w5 from (Keep.ofQ IR.out.q).trans (hk5.mono (fun i _ e => IR.out.w1 i e)))
              have HF5 := hid (show ∀ i, Fp rb a5 i → W.heap.size ≤ i from fun i hi => by
                rcases hi with hi | hi
                · exact IR.out.w1 i (.inl hi)
                · rcases hbb5 i hi with h | h
                  · exact IR.out.w1 i (.inr h)
                  · have := IR.out.q.size; omega)
              clear hb5 hk5 hbb5 PT
              generalize freshOf 65536 s (j : Int) [] true = F5 at *
              generalize putAll 65536 s (j : Int) [] true = s5 at *
              have RM := hid (show readM s5 1048576 = rdy s.xs from by unfold readM; rw [F3.out]; have := rdy_le s.xs; have := IR.out.fed.ok.len; omega)
              have RD := hid (read_any rb 65536 s5 a5 n5 c5 1048576 w5 HB5.out F1.out.ok)
              have FV := hid (F1.out.vals (rdy s.xs) (by rw [F3.out]; exact Nat.le_refl _))
              have FN := hid ((F1.out.read 1048576).endOf)
              have RL := hid (show rdy s.xs ≤ j from by have := rdy_le s.xs; have := IR.out.fed.offle; have := HL.out; omega)
              go_wp2_with fail
              refine RD.out.mono ?_
              rintro e w6 ⟨a6, n6, c6, D, rfl, hb6, hs6, hD6, hk6, hbb6⟩
              rw [RM.out] at hs6 FN
              rw [FV.out, List.drop_zero] at hs6
              have HS6 := hid hs6.seg
              have HQ6 := hid (show Q W w6 from (HK5.out.trans (hk6.mono (fun i _ e => HF5.out i e))).toQ (fun i hi e => by omega))
              have HZ6 := hid (seg_take (HZ.out.q HQ6.out) (rdy s.xs))
              have HTL := hid (show (zs.take (rdy s.xs)).length = rdy s.xs from by rw [List.length_take, HL.out]; have := RL.out; omega)
              have EN := hid (show endOf (readSt s5 1048576) = decide (rdy s.xs = j) from by
                rw [FN.out, HL.out]
                show (s5.known && decide (0 + rdy s.xs = j)) = _
                rw [F2.out, Nat.zero_add]; rfl)
              rw [RM.out, EN.out]
              clear hb6 hs6 hD6 hk6 hbb6 RD
              have rl := RL.out
              have rl2 : rdy s.xs ≤ sc := by omega
              generalize rdy s.xs = r at *
              have y3 : ((r : Int) == (r : Int)) = true := by simp
              have rl3 : (r : Int) ≤ (sc : Int) := by omega
              go_wp2_with fail
              refine (same_any (some ⟨D, 0, none⟩) sa r r sc (zs.take r) w6 HS6.out HZ6.out HTL.out (by omega)).mono ?_
              rintro e w7 ⟨rfl, k7, rfl⟩
              have HQ7 := hid (HQ6.out.drewN k7)
              generalize w6.drewN k7 = w7 at *
              by_cases hrj : r = j
              · have z1 : ((r : Int) == (j : Int)) = true := by simp [hrj]
                have z2 : decide (r = j) = true := by simp [hrj]
                rw [z2]
                have z3 : (true == true) = true := rfl
                have HRJ := hid hrj
                clear hrj z2
                go_wp2_with fail
                refine (awake_any w7).mono ?_
                rintro e w8 ⟨rfl, hq8⟩
                have Q8 := hid (HQ7.out.trans hq8)
                clear hq8
                go_wp2
                go_ret
                exact ⟨rfl, Q8.out⟩
              · have z1 : ((r : Int) == (j : Int)) = false := by simp; omega
                have z2 : decide (r = j) = false := by simp [hrj]
                rw [z2]
                have z3 : (false == false) = true := rfl
                have HRJ := hid hrj
                clear hrj z2
                go_wp2_with fail
                refine (awake_any w7).mono ?_
                rintro e w8 ⟨rfl, hq8⟩
                have Q8 := hid (HQ7.out.trans hq8)
                clear hq8
                go_wp2
                go_ret
                exact ⟨rfl, Q8.out⟩

theorem walk (sa ca : Option Addr) (sl sc cl cc : Nat) (zs : List Int) (z : Nat → Int × Int) (hl : zs.length = sl) (hsg : Seg W sa zs) (hsc : sl ≤ sc)
    (hzb : ∀ i, i < cl → (-9223372036854775808 ≤ (z i).1 ∧ (z i).1 ≤ 9223372036854775807) ∧ (-9223372036854775808 ≤ (z i).2 ∧ (z i).2 ≤ 9223372036854775807)) (hzs : SegC W ca cl z) (hsn : sl ≤ 140737488351232) (hcl : cl * 16 ≤ 140737488351232) :
    Calls Try.prog 6 #[.slice sa sl sc, .slice ca cl cc] W fun e w' => e = .returned (.bool true) ∧ Below W.heap.size W w' := by
  by_cases h : sl ≤ 65536
  · exact walk_small sa ca sl sc cl cc zs z h hl hsg hsc hzb hzs hcl
  · exact walk_big sa ca sl sc cl cc (by omega) hsn

set_option maxRecDepth 100000 in
theorem lifted (os : Os) (started : os.Started) (H : Type) (enc : TypeId × Value → H) :
    ReturnsInHanded {} Try.checked os 6 .any (Rows.reasmWholeSpec.pre6 enc Try.prog Try.f6 Rows.reasmWholeRow.domain false) (Rows.reasmWholeSpec.post enc Try.prog Try.f6 false true false false) := by
  refine returnsInHanded_of_change_sized (C := Try.checked) own_knob started (by kernel_rfl) Try.func6
    (ChangeSpec.witness6 (enc := enc) (C := Try.checked) false ⟨#[], #[.slice none 0 0, .slice none 0 0], []⟩ 8 (by kernel_rfl) (by kernel_rfl) (by kernel_rfl) (by kernel_rfl)) ?_
  intro W base args ds gs before hval0 hW hcnd hsz0 _
  have hval : ∀ (j : Nat) t v, Try.f6.params[j]? = some t → args[j]? = some v → Value.okWide Try.prog W .any base t v := hval0
  have hsz : (DataW.weightsEach Try.prog (Try.f6.params.toList ++ Rows.reasmWholeSpec.plain.varTypes Try.prog) (ds ++ gs)).all (· ≤ reachBytes) = true := hsz0
  have hW' := hW
  obtain ⟨p, q, hA0, hV, rfl, hfz, hnd⟩ := hW
  have hA : DataW.TrodAll enc Try.prog W 0 (fun _ => true) true Try.f6.params.toList args.toList ds p := hA0
  rw [Try.params6] at hA hval hsz
  obtain ⟨v0, vs0, d0, ds0, p0, q0, hargs, rfl, rfl, h0, r0⟩ := trodAll_cons hA
  obtain ⟨v1, vs1, d1, ds1, p1, q1, rfl, rfl, rfl, h1, r1⟩ := trodAll_cons r0
  obtain ⟨rfl, rfl, rfl⟩ := trodAll_nil r1
  obtain rfl : args = #[v0, v1] := by cases args; simp_all
  obtain ⟨rfl, rfl⟩ := trodVars_none hV
  obtain ⟨a0, len0, cap0, rfl⟩ := okWide_slice Try.underlying28 (hval 0 28 v0 rfl rfl)
  have k0 := h0
  have lt0 : ∀ x ∈ p0, x.block < W.heap.size := by obtain ⟨m, hm⟩ := k0; exact DataW.trod_lt m _ _ _ hm
  obtain ⟨z0, zl0, zs0, zb0, zc0, ze0, zd0⟩ := open_bytes h0
  have zn0 := len_le_bytes hsz (j := 0) rfl rfl zd0
  obtain ⟨a1, len1, cap1, rfl⟩ := okWide_slice Try.underlying47 (hval 1 47 v1 rfl rfl)
  have k1 := h1
  have lt1 : ∀ x ∈ p1, x.block < W.heap.size := by obtain ⟨m, hm⟩ := k1; exact DataW.trod_lt m _ _ _ hm
  obtain ⟨z1, zl1, zs1, zb1, zc1, ze1, zd1⟩ := open_cuts h1
  have zn1 := len_le_cuts hsz (j := 1) rfl rfl zd1
  clear hA0 hval0
  refine (walk a0 a1 len0 cap0 len1 cap1 z0 z1 zl0 zs0 zc0 zl1 zs1 zn0 zn1).mono fun e W' ⟨he, bel⟩ => ?_
  subst he
  exact ⟨_, rfl, _, _, _, [], _, [], hW', trodAll_mk1 (shut_bool Try.underlying4 _), (trodAll_cons_mk (Below.trod laid_out (by kernel_rfl) (of_decide_eq_true (by kernel_rfl)) k0 bel lt0) (trodAll_cons_mk (Below.trod laid_out (by kernel_rfl) (of_decide_eq_true (by kernel_rfl)) k1 bel lt1) trodAll_mk0)), rfl, bel.frame _, fun h => by cases h⟩

theorem over : Rows.reasmWholeRow.holds Try.pinned (OpenSpec.ofChange Rows.reasmWholeSpec) :=
  OpenClaim.holds_of_wide 6 Try.f6 rfl rfl rfl rfl rfl rfl rfl ⟨rfl, rfl, rfl, rfl, rfl⟩ rfl rfl rfl rfl rfl (by kernel_rfl) Try.func6 (by kernel_rfl)
    (of_decide_eq_true (by kernel_rfl)) (by unfold Func.isWrapper; first | (rw [if_pos (by decide +kernel)]; kernel_rfl) | (rw [if_neg (by decide +kernel)]; exact ⟨rfl, rfl⟩))
    (fun os started H enc _ => lifted os started H enc)

end Go.Proofs.Ytdgkeidpoodmeaa.reasmWhole
namespace Go.Proofs.Ytdgkeidpoodmeaa

/-- The statement. -/
theorem reasmWhole_holds : Rows.ReasmWholeSaid := reasmWhole.over
#print axioms reasmWhole_holds
end Go.Proofs.Ytdgkeidpoodmeaa
