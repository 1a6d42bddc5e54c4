/-
  What the document's own Copy and Same do: contracts that the statements' walks use.
-/
import Derived.Test.YtppemfdoogmeeaaSend
import Derived.Laws.CopyOwn
namespace Go.Proofs.Ytppemfdoogmeeaa
open Go.RowKit
set_option linter.unusedVariables false

theorem Sub.seg {w : World} {a : Option Addr} {n cap : Nat} {zs : List Int} (h : Sub w 5 1 a n cap (zs.map (Value.int .u8))) : Seg w a zs := by
  intro hne
  have hl : zs.length = n := by simpa using h.1
  have hp : 0 < n := by
    cases zs with
    | nil => exact absurd rfl hne
    | cons x r => simp at hl; omega
  obtain ⟨g, off, rfl, _, hc⟩ := h.some_ hp
  refine ⟨g, off, rfl, fun i hi => hc i _ ?_⟩
  rw [List.getElem?_map, List.getD_eq_getElem?_getD, List.getElem?_eq_getElem hi]; rfl

theorem copy_src {w w1 : World} {a : Option Addr} {zs : List Int} (h : Seg w a zs) (hq : Q w w1) :
    0 < (zs.map (Value.int .u8)).length → ∃ ad, a = some ad ∧ ∀ j v, (zs.map (Value.int .u8))[j]? = some v → w1.cell? (ad.add j) = some v := by
  intro hp
  obtain ⟨b, off, rfl, hc⟩ := (h.q hq) (by intro e; simp [e] at hp)
  refine ⟨_, rfl, fun j v hj => ?_⟩
  have hj' : j < zs.length := by
    by_cases hh : j < zs.length
    · exact hh
    · rw [List.getElem?_eq_none (by simp; omega)] at hj; cases hj
  have := hc j hj'
  simp only [List.getElem?_map, List.getElem?_eq_getElem hj', Option.map_some, Option.some.injEq] at hj
  rw [addr_add, this, ← hj, List.getD_eq_getElem?_getD, List.getElem?_eq_getElem hj']
  rfl

theorem sub_full {w : World} {g n : Nat} {zs : List Int} (hl : zs.length = n) (hm : n ≤ maxLen) (hg : w.heap[g]? = some (.cells (zs.map (Value.int .u8)).toArray 5 (0, 0))) : Sub w 5 1 (some ⟨g, 0, none⟩) n n (zs.map (Value.int .u8)) :=
  ⟨by simp [hl], .inr ⟨g, 0, _, rfl, hg, Nat.le_refl _, hm, by simp [hl], fun j hj => by simp⟩⟩

theorem copy_run {w w1 : World} {a : Option Addr} {g n c : Nat} {zs : List Int} {i0 : TypeInfo} (h : Seg w a zs) (hl : zs.length = n) (hm : n ≤ maxLen) (hq : Q w w1) (hb : w1.heap[g]? = some (.cells ((List.replicate n 0).map (Value.int .u8)).toArray 5 (0, 0))) (hg : w.heap.size ≤ g)
    (hi : Try.prog.info? 5 = some i0) (hz : i0.size = 1) :
    ∃ w2, (Builtin.copy_ #[27, 27] 3 #[.slice (some ⟨g, 0, none⟩) n n, .slice a n c]).run Try.prog w1 = .ok (goInt n) w2 ∧ Q w w2 ∧ Sub w2 5 1 (some ⟨g, 0, none⟩) n n (zs.map (Value.int .u8)) := by
  by_cases h0 : n = 0
  · subst h0
    obtain rfl : zs = [] := List.eq_nil_of_length_eq_zero hl
    refine ⟨w1, ?_, hq, sub_full rfl hm (by simpa using hb)⟩
    have := run_copy_none (P := Try.prog) w1 27 27 3 5 (some ⟨g, 0, none⟩) a 0 0 0 c Try.underlying27 (by rw [hi]; simp [hz]) (by simp)
    simpa using this
  · have hs := copy_src h hq (by simp; omega)
    obtain ⟨ad, rfl, hsrc⟩ := hs
    have := run_copy_row (P := Try.prog) w1 27 27 3 5 g 0 n n ad n c _ 5 (zs.map (Value.int .u8)) Try.underlying27 (by rw [hi]; simp [hz]) hb (by simp [hl]) hsrc (by simp [hl]) (ints_oneCell _ _)
    rw [show (zs.map (Value.int .u8)).length = n from by simp [hl]] at this
    refine ⟨_, this, below_setRow hq hg _, sub_full hl hm ?_⟩
    rw [setRow_heap w1 g _ _ 5 _ hb]
    simp

set_option maxHeartbeats 400000 in
theorem copy_any (a : Option Addr) (n c : Nat) (zs : List Int) (w : World) (hl : zs.length = n) (hn : n ≤ 140737488355328) (hseg : Seg w a zs) :
    Calls Try.prog 19 #[.slice a n c] w fun e w' => ∃ g, e = .returned (.slice (some ⟨g, 0, none⟩) n n) ∧ Q w w' ∧ Sub w' 5 1 (some ⟨g, 0, none⟩) n n (zs.map (Value.int .u8)) ∧ w.heap.size ≤ g := by
  obtain ⟨i0, hi, hz0, hz1, hz2⟩ := info_parts info5
  have HL := hid hl
  have HSG := hid hseg
  clear hl hseg
  go_enter Try.func19, Try.ntmps19
  go_wp2_with (at_make; refine wpList_make_full _ rfl _ _ 27 rfl w.heap.size 5 i0 (.int .u8 0) 1 Try.underlying27 hi hz0 hz1 .i64 .i64 _ _ n rfl rfl rfl rfl (by rw [hz2]; omega) (by unfold maxLen; omega) (Nat.le_refl _) ?_; intro w1 hown hgr)
  have hq : Q w w1 := (Q.refl w).grown hgr
  rw [made_zero] at hown
  have hblk : w1.heap[w.heap.size]? = some (.cells ((List.replicate n 0).map (Value.int .u8)).toArray 5 (0, 0)) := by
    rcases hown.2 with ⟨h2, h3⟩ | ⟨g', cap', cur, hv, hb, hg, h1, h2, h3, h4⟩
    · simp at h2
    · simp only [Value.slice.injEq, Option.some.injEq, Addr.mk.injEq, and_true, true_and] at hv
      obtain ⟨rfl, rfl⟩ := hv
      rw [hg, ← h4, List.take_of_length_le (by simp; omega)]
  obtain ⟨w2, hrun, hq2, ho2⟩ := copy_run (c := c) HSG.out HL.out (by unfold maxLen; omega) hq hblk (Nat.le_refl _) hi hz1
  have H2 := hid hq2
  have O2 := hid ho2
  clear hown hgr hq hq2 ho2 hblk
  rw [hrun]
  clear hrun
  go_wp2
  go_ret
  exact ⟨w.heap.size, rfl, H2.out, O2.out, Nat.le_refl _⟩

/-- .. where only bytes that are there must stay. -/
theorem Seg.keep' {F : Nat → Prop} {w w' : World} {a : Option Addr} {zs : List Int} (h : Seg w a zs) (k : Keep F w w') (hF : zs ≠ [] → ∀ b, blk a = some b → ¬ F b) : Seg w' a zs := fun hne => h.keep k (hF hne) hne

theorem seg_at {w : World} {a : Option Addr} {zs : List Int} {n k : Nat} (hs : Seg w a zs) (hl : zs.length = n) (hk : k < n) : ∃ b off, a = some ⟨b, off, none⟩ ∧ w.cell? ⟨b, off + k, none⟩ = some (.int .u8 (zs.getD k 0)) := by
  obtain ⟨b, off, ha, hc⟩ := hs (by intro e; rw [e] at hl; simp at hl; omega)
  exact ⟨b, off, ha, hc k (by omega)⟩

set_option maxHeartbeats 1000000 in
theorem same_any (a1 a2 : Option Addr) (n c1 c2 : Nat) (zs : List Int) (w : World) (h1 : Seg w a1 zs) (h2 : Seg w a2 zs) (hl : zs.length = n) (hn : n ≤ 140737488355328) :
    Calls Try.prog 21 #[.slice a1 n c1, .slice a2 n c2] w fun e w' => e = .returned (.bool true) ∧ ∃ k, w' = w.drewN k := by
  have H1 := hid h1
  have H2 := hid h2
  have HL := hid hl
  clear h1 h2 hl
  have hne : ((n : Int) != n) = false := by simp
  go_enter Try.func21, Try.ntmps21
  go_wp2
  go_loopw [5] (fun i wr => ∃ k : Nat, k ≤ n ∧ i = .int .i64 k ∧ ∃ m, wr = w.drewN m) (fun i _ => n - (intOf i).toNat)
  case atStart => exact ⟨0, Nat.zero_le _, rfl, 0, rfl⟩
  case round =>
    obtain ⟨k, hk, rfl, m, rfl⟩ := hrel
    by_cases hlt : k < n
    · obtain ⟨b1, o1, rfl, d0⟩ := seg_at (H1.out.q ((Q.refl w).drewN m)) HL.out hlt
      obtain ⟨b2, o2, rfl, g0⟩ := seg_at (H2.out.q ((Q.refl w).drewN m)) HL.out hlt
      have hlt' : (k : Int) < (n : Int) := by omega
      generalize zs.getD k 0 = y at *
      generalize hwm : w.drewN m = wm at *
      have HW := hid hwm
      clear hwm
      go_wp2
      go_quiet (fail)
      go_wp2
      go_roundw
      case rel => exact ⟨k + 1, by omega, by go_num, m + nq, by rw [← HW.out]; simp [World.drewN, Nat.add_assoc]⟩
      case measure => simp [intOf]; omega
    · obtain rfl : k = n := by omega
      go_wp2
      go_ret
      exact ⟨rfl, m, rfl⟩

end Go.Proofs.Ytppemfdoogmeeaa
