/-
  What the document's own Copy and Same and the law's own put do: contracts that the statements' walks use.
-/
import Derived.Test.YtdgkeidpoodmeaaRead
import Derived.Laws.CopyOwn
namespace Go.Proofs.Ytdgkeidpoodmeaa
open Go.RowKit
set_option linter.unusedVariables false

theorem copy_src {w w1 : World} {a : Option Addr} {zs : List Int} (h : Seg w a zs) (hq : Q w w1) :
    0 < (zs.map (Value.int .u8)).length → ∃ ad, a = some ad ∧ ∀ j v, (zs.map (Value.int .u8))[j]? = some v → w1.cell? (ad.add j) = some v := by
  intro hp
  obtain ⟨b, off, rfl, hc⟩ := (h.q hq) (by intro e; simp [e] at hp)
  refine ⟨_, rfl, fun j v hj => ?_⟩
  have hj' : j < zs.length := by
    by_cases hh : j < zs.length
    · exact hh
    · rw [List.getElem?_eq_none (by simp; omega)] at hj; cases hj
  have := hc j hj'
  simp only [List.getElem?_map, List.getElem?_eq_getElem hj', Option.map_some, Option.some.injEq] at hj
  rw [addr_add, this, ← hj, List.getD_eq_getElem?_getD, List.getElem?_eq_getElem hj']
  rfl

theorem sub_full {w : World} {g n : Nat} {zs : List Int} (hl : zs.length = n) (hm : n ≤ maxLen) (hg : w.heap[g]? = some (.cells (zs.map (Value.int .u8)).toArray 5 (0, 0))) : Sub w 5 1 (some ⟨g, 0, none⟩) n n (zs.map (Value.int .u8)) :=
  ⟨by simp [hl], .inr ⟨g, 0, _, rfl, hg, Nat.le_refl _, hm, by simp [hl], fun j hj => by simp⟩⟩

theorem copy_run {w w1 : World} {a : Option Addr} {g n c : Nat} {zs : List Int} {i0 : TypeInfo} (h : Seg w a zs) (hl : zs.length = n) (hm : n ≤ maxLen) (hq : Q w w1) (hb : w1.heap[g]? = some (.cells ((List.replicate n 0).map (Value.int .u8)).toArray 5 (0, 0))) (hg : w.heap.size ≤ g)
    (hi : Try.prog.info? 5 = some i0) (hz : i0.size = 1) :
    ∃ w2, (Builtin.copy_ #[28, 28] 3 #[.slice (some ⟨g, 0, none⟩) n n, .slice a n c]).run Try.prog w1 = .ok (goInt n) w2 ∧ Q w w2 ∧ Sub w2 5 1 (some ⟨g, 0, none⟩) n n (zs.map (Value.int .u8)) := by
  by_cases h0 : n = 0
  · subst h0
    obtain rfl : zs = [] := List.eq_nil_of_length_eq_zero hl
    refine ⟨w1, ?_, hq, sub_full rfl hm (by simpa using hb)⟩
    have := run_copy_none (P := Try.prog) w1 28 28 3 5 (some ⟨g, 0, none⟩) a 0 0 0 c Try.underlying28 (by rw [hi]; simp [hz]) (by simp)
    simpa using this
  · have hs := copy_src h hq (by simp; omega)
    obtain ⟨ad, rfl, hsrc⟩ := hs
    have := run_copy_row (P := Try.prog) w1 28 28 3 5 g 0 n n ad n c _ 5 (zs.map (Value.int .u8)) Try.underlying28 (by rw [hi]; simp [hz]) hb (by simp [hl]) hsrc (by simp [hl]) (ints_oneCell _ _)
    rw [show (zs.map (Value.int .u8)).length = n from by simp [hl]] at this
    refine ⟨_, this, below_setRow hq hg _, sub_full hl hm ?_⟩
    rw [setRow_heap w1 g _ _ 5 _ hb]
    simp

set_option maxHeartbeats 400000 in
theorem copy_any (a : Option Addr) (n c : Nat) (zs : List Int) (w : World) (hl : zs.length = n) (hn : n ≤ 140737488355328) (hseg : Seg w a zs) :
    Calls Try.prog 26 #[.slice a n c] w fun e w' => ∃ g, e = .returned (.slice (some ⟨g, 0, none⟩) n n) ∧ Q w w' ∧ Sub w' 5 1 (some ⟨g, 0, none⟩) n n (zs.map (Value.int .u8)) ∧ w.heap.size ≤ g := by
  obtain ⟨i0, hi, hz0, hz1, hz2⟩ := info_parts info5
  have HL := hid hl
  have HSG := hid hseg
  clear hl hseg
  go_enter Try.func26, Try.ntmps26
  go_wp2_with (at_make; refine wpList_make_full _ rfl _ _ 28 rfl w.heap.size 5 i0 (.int .u8 0) 1 Try.underlying28 hi hz0 hz1 .i64 .i64 _ _ n rfl rfl rfl rfl (by rw [hz2]; omega) (by unfold maxLen; omega) (Nat.le_refl _) ?_; intro w1 hown hgr)
  have hq : Q w w1 := (Q.refl w).grown hgr
  rw [made_zero] at hown
  have hblk : w1.heap[w.heap.size]? = some (.cells ((List.replicate n 0).map (Value.int .u8)).toArray 5 (0, 0)) := by
    rcases hown.2 with ⟨h2, h3⟩ | ⟨g', cap', cur, hv, hb, hg, h1, h2, h3, h4⟩
    · simp at h2
    · simp only [Value.slice.injEq, Option.some.injEq, Addr.mk.injEq, and_true, true_and] at hv
      obtain ⟨rfl, rfl⟩ := hv
      rw [hg, ← h4, List.take_of_length_le (by simp; omega)]
  obtain ⟨w2, hrun, hq2, ho2⟩ := copy_run (c := c) HSG.out HL.out (by unfold maxLen; omega) hq hblk (Nat.le_refl _) hi hz1
  have H2 := hid hq2
  have O2 := hid ho2
  clear hown hgr hq hq2 ho2 hblk
  rw [hrun]
  clear hrun
  go_wp2
  go_ret
  exact ⟨w.heap.size, rfl, H2.out, O2.out, Nat.le_refl _⟩

/-- .. where only bytes that are there must stay. -/
theorem Seg.keep' {F : Nat → Prop} {w w' : World} {a : Option Addr} {zs : List Int} (h : Seg w a zs) (k : Keep F w w') (hF : zs ≠ [] → ∀ b, blk a = some b → ¬ F b) : Seg w' a zs := fun hne => h.keep k (hF hne) hne

theorem seg_at {w : World} {a : Option Addr} {zs : List Int} {n k : Nat} (hs : Seg w a zs) (hl : zs.length = n) (hk : k < n) : ∃ b off, a = some ⟨b, off, none⟩ ∧ w.cell? ⟨b, off + k, none⟩ = some (.int .u8 (zs.getD k 0)) := by
  obtain ⟨b, off, ha, hc⟩ := hs (by intro e; rw [e] at hl; simp at hl; omega)
  exact ⟨b, off, ha, hc k (by omega)⟩

set_option maxHeartbeats 1000000 in
theorem same_any (a1 a2 : Option Addr) (n c1 c2 : Nat) (zs : List Int) (w : World) (h1 : Seg w a1 zs) (h2 : Seg w a2 zs) (hl : zs.length = n) (hn : n ≤ 140737488355328) :
    Calls Try.prog 20 #[.slice a1 n c1, .slice a2 n c2] w fun e w' => e = .returned (.bool true) ∧ ∃ k, w' = w.drewN k := by
  have H1 := hid h1
  have H2 := hid h2
  have HL := hid hl
  clear h1 h2 hl
  have hne : ((n : Int) != n) = false := by simp
  go_enter Try.func20, Try.ntmps20
  go_wp2
  go_loopw [5] (fun i wr => ∃ k : Nat, k ≤ n ∧ i = .int .i64 k ∧ ∃ m, wr = w.drewN m) (fun i _ => n - (intOf i).toNat)
  case atStart => exact ⟨0, Nat.zero_le _, rfl, 0, rfl⟩
  case round =>
    obtain ⟨k, hk, rfl, m, rfl⟩ := hrel
    by_cases hlt : k < n
    · obtain ⟨b1, o1, rfl, d0⟩ := seg_at (H1.out.q ((Q.refl w).drewN m)) HL.out hlt
      obtain ⟨b2, o2, rfl, g0⟩ := seg_at (H2.out.q ((Q.refl w).drewN m)) HL.out hlt
      have hlt' : (k : Int) < (n : Int) := by omega
      generalize zs.getD k 0 = y at *
      generalize hwm : w.drewN m = wm at *
      have HW := hid hwm
      clear hwm
      go_wp2
      go_quiet (fail)
      go_wp2
      go_roundw
      case rel => exact ⟨k + 1, by omega, by go_num, m + nq, by rw [← HW.out]; simp [World.drewN, Nat.add_assoc]⟩
      case measure => simp [intOf]; omega
    · obtain rfl : k = n := by omega
      go_wp2
      go_ret
      exact ⟨rfl, m, rfl⟩

set_option maxHeartbeats 2000000 in
/-- The law's own put: a copy is handed in, and written over behind it. -/
theorem lput_any (rb : Nat) (room : Int) (s : S) (a : Option Addr) (n c : Nat) (kd p : Int) (da : Option Addr) (dn dc : Nat) (zs : List Int) (f : Bool) (w : World) (hB : Bf w rb a n c room s) (hO : Ok room s) (hdn : dn ≤ 140737488355328)
    (hz : Seg w da zs) (hl : zs.length = dn) (hd : zs ≠ [] → ∀ b, blk da = some b → ¬ Fp rb a b) :
    Calls Try.prog 17 #[.pointer (some ⟨rb, 0, none⟩), .agg #[.int .i64 kd, .int .i64 p, .slice da dn dc, .bool f]] w fun r w' => ∃ a' n' c', r = .returned (.tuple #[.int .i64 (freshOf room s p zs f), .int .i64 (errOf room s p dn f), .bool true]) ∧ Bf w' rb a' n' c' room (putAll room s p zs f) ∧ Keep (Fp rb a) w w' ∧ (∀ b, blk a' = some b → blk a = some b ∨ w.heap.size ≤ b) := by
  have HB := hid hB
  have HO := hid hO
  have HZ := hid hz
  have HL := hid hl
  have HD := hid hd
  clear hB hO hz hl hd
  have hrow : (w.alloc (.cells #[.int .i64 kd, .int .i64 p, .slice da dn dc, .bool f] 40)).heap[w.heap.size]? = some (.cells #[.int .i64 kd, .int .i64 p, .slice da dn dc, .bool f] 40 (0, 0)) := heap_alloc_new w _
  have hq0 : Q w (w.alloc (.cells #[.int .i64 kd, .int .i64 p, .slice da dn dc, .bool f] 40)) := (Q.refl w).alloc _
  have HW := hid hrow
  have HQ0 := hid hq0
  clear hrow hq0
  go_enter Try.func17, Try.ntmps17
  go_wp2_with fail
  generalize w.alloc (.cells #[.int .i64 kd, .int .i64 p, .slice da dn dc, .bool f] 40) = w0 at *
  refine (copy_any da dn dc zs w0 HL.out hdn (HZ.out.q HQ0.out)).mono ?_
  rintro e w1 ⟨g, rfl, hq1, hs1, hg⟩
  have hrow1 := (Below.block hq1 w.heap.size (lt_of_block HW.out)).trans HW.out
  have k1 : w1.cell? ⟨w.heap.size, 1, none⟩ = some (.int .i64 p) := by rw [cell_of_row w1 _ 1 _ 40 (0, 0) hrow1]; rfl
  have k2 : w1.cell? ⟨w.heap.size, 2, none⟩ = some (.slice da dn dc) := by rw [cell_of_row w1 _ 2 _ 40 (0, 0) hrow1]; rfl
  have k3 : w1.cell? ⟨w.heap.size, 3, none⟩ = some (.bool f) := by rw [cell_of_row w1 _ 3 _ 40 (0, 0) hrow1]; rfl
  have HQ1 := hid (HQ0.out.trans hq1)
  have HG := hid (show w.heap.size < g from by have := lt_of_block HW.out; omega)
  have HS1 := hid hs1
  clear hq1 hs1 hrow1 hg
  go_wp2_with fail
  refine (put_any rb room s a n c p (some ⟨g, 0, none⟩) dn dn zs f w1 (HB.out.q HQ1.out) HO.out hdn HS1.out.seg HL.out (fun b hb e => by
    have e' : g = b := by simpa [blk] using hb
    have := HB.out.lt b e; have := HG.out; omega) (Nat.le_refl _)).mono ?_
  rintro e w2 ⟨a', n', c', rfl, hb2, hk2, hbb⟩
  have hnf : ¬ Fp rb a w.heap.size := fun e => by have := HB.out.lt _ e; omega
  have hng : ¬ Fp rb a g := fun e => by have := HB.out.lt _ e; have := HG.out; omega
  have m1 := hk2.cell k1 hnf
  have m2 := hk2.cell k2 hnf
  have m3 := hk2.cell k3 hnf
  have HB2 := hid hb2
  have HK2 := hid ((Keep.ofQ HQ1.out).trans hk2)
  have HBB := hid (show ∀ b, blk a' = some b → blk a = some b ∨ (w.heap.size ≤ b ∧ b ≠ g) from fun b hb => by
    rcases hbb b hb with h | h
    · exact .inl h
    · refine .inr ⟨Nat.le_trans HQ1.out.size h, fun e => ?_⟩
      have := HS1.out.lt g rfl; omega)
  have HS2 := hid (HS1.out.keep hk2 (fun b hb => by
    have e' : g = b := by simpa [blk] using hb
    rw [← e']; exact hng))
  have HZ2 := hid ((HZ.out.q HQ1.out).keep' hk2 HD.out)
  clear hb2 hk2 hbb k1 k2 k3 HS1
  go_wp2_with fail
  refine (same_any (some ⟨g, 0, none⟩) da dn dn dc zs w2 HS2.out.seg HZ2.out HL.out hdn).mono ?_
  rintro e w3 ⟨rfl, k, rfl⟩
  have HS3 := hid (HS2.out.q ((Q.refl w2).drewN k))
  have HB3 := hid (HB2.out.q ((Q.refl w2).drewN k))
  have HK3 := hid (HK2.out.drewN k)
  clear m1 m2 m3 HS2 HB2 HK2 HZ2
  generalize w2.drewN k = w3 at *
  go_wp2
  go_loopw [31, 11] (fun i _ wr => ∃ j : Nat, j ≤ dn ∧ i = .int .i64 j ∧ (∃ us : List Int, Sub wr 5 1 (some ⟨g, 0, none⟩) dn dn (us.map (.int .u8))) ∧ Keep (fun k => k = g) w3 wr) (fun i _ _ => dn - (intOf i).toNat)
  case atStart => exact ⟨0, Nat.zero_le _, rfl, ⟨zs, HS3.out⟩, Keep.refl _ _⟩
  case round =>
    obtain ⟨j, hj, rfl, ⟨us, hsj⟩, hkj⟩ := hrel
    have HKJ := hid hkj
    by_cases hlt : j < dn
    · have hlt' : (j : Int) < (dn : Int) := by omega
      have hul : us.length = dn := by simpa using hsj.1
      have hwi : IntKind.i64.wrap ((j : Int) + 1) = ((j + 1 : Nat) : Int) := by rw [IntKind.wrap_i64]; omega
      obtain ⟨g', o', e', hfz', hc'⟩ := hsj.some_ (show 0 < dn by omega)
      cases e'
      have hcj : wr.cell? ⟨g, 0 + j, none⟩ = some (.int .u8 (us.getD j 0)) := hc' j _ (by
        rw [List.getElem?_map, List.getD_eq_getElem?_getD, List.getElem?_eq_getElem (by omega)]; rfl)
      have fj := hfz' (0 + j)
      have HSS := hid (show ∀ y, Sub (wr.setCell ⟨g, j, none⟩ (.int .u8 y)) 5 1 (some ⟨g, 0, none⟩) dn dn ((us.set j y).map (.int .u8)) from fun y => by
        have := hsj.set rfl (show j < dn * 1 by omega) (.int .u8 y)
        rw [Nat.zero_add] at this
        rwa [List.map_set])
      have HKK := hid (show ∀ y, Keep (fun k => k = g) w3 (wr.setCell ⟨g, j, none⟩ (.int .u8 y)) from fun y => hkj.setCell g j _ (.inl rfl))
      simp only [Nat.zero_add] at hcj fj
      clear hfz' hc' hsj hkj hj
      generalize us.getD j 0 = y0 at *
      go_wp2
      go_roundw
      case rel => exact ⟨j + 1, by omega, by go_num, ⟨_, HSS.out _⟩, HKK.out _⟩
      case measure => simp [intOf]; omega
    · obtain rfl : j = dn := by omega
      have FIN := hid (show Bf wr rb a' n' c' room (putAll room s p zs f) ∧ Keep (Fp rb a) w wr from ⟨HB3.out.keep hkj (fun i hi e => by
          subst e
          rcases hi with h | h
          · have := HB.out.lt rb (.inl rfl); have := HG.out; omega
          · rcases HBB.out _ h with h | h
            · have := HB.out.lt _ (.inr h); have := HG.out; omega
            · exact h.2 rfl), HK3.out.trans' hkj (fun i hi e => by subst e; have := HG.out; omega)⟩)
      clear hsj hkj hj hlt
      go_wp2
      go_ret3
      exact ⟨a', n', c', rfl, FIN.out.1, FIN.out.2, fun b hb => (HBB.out b hb).imp id (fun h => h.1)⟩
end Go.Proofs.Ytdgkeidpoodmeaa
