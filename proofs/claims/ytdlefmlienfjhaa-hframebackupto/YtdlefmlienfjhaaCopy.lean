/-
  What the two copies of bytes (the document's own Copy, varint.copyOf) do: new memory with the same bytes. Contracts that the statements' walks use.
-/
import Derived.Test.YtdlefmlienfjhaaBase
import Derived.Laws.CopyOwn
namespace Go.Proofs.Ytdlefmlienfjhaa
open Go.RowKit
set_option maxRecDepth 20000
set_option linter.unusedVariables false

theorem own_block {w : World} {base g n : Nat} {zs : List Int} (h : Own w base (some ⟨g, 0, none⟩) n n zs) : w.heap[g]? = some (.cells (zs.map (Value.int .u8)).toArray 5 (0, 0)) := by
  have hl := h.len
  rcases h.2 with ⟨h2, h3⟩ | ⟨g', cap', cur, hv, hb, hg, h1, h2, h3, h4⟩
  · simp at h2
  · simp only [Value.slice.injEq, Option.some.injEq, Addr.mk.injEq, and_true, true_and] at hv
    obtain ⟨rfl, rfl⟩ := hv
    rw [hg, ← h4, List.take_of_length_le (by simp; omega)]

theorem own_of_block {w : World} {base g n : Nat} {zs : List Int} (hl : zs.length = n) (hm : n ≤ maxLen) (hg : w.heap[g]? = some (.cells (zs.map (Value.int .u8)).toArray 5 (0, 0))) (hb : base ≤ g := by exact Nat.le_refl _) :
    Own w base (some ⟨g, 0, none⟩) n n zs :=
  ⟨by simp [hl], .inr ⟨g, n, _, rfl, hb, hg, Nat.le_refl _, hm, by simp [hl], by simp only [Nat.mul_one]; exact List.take_of_length_le (by simp [hl])⟩⟩

theorem splice_all {α : Type} (L cs : List α) (h : cs.length = L.length) : splice L 0 cs = cs := by simp [splice, h]

theorem copy_src {w w1 : World} {a : Option Addr} {zs : List Int} (h : Seg w a zs) (hq : Q w w1) :
    0 < (zs.map (Value.int .u8)).length → ∃ ad, a = some ad ∧ ∀ j v, (zs.map (Value.int .u8))[j]? = some v → w1.cell? (ad.add j) = some v := by
  intro hp
  obtain ⟨b, off, rfl, hc⟩ := (h.q hq) (by intro e; simp [e] at hp)
  refine ⟨_, rfl, fun j v hj => ?_⟩
  have hj' : j < zs.length := by
    by_cases hh : j < zs.length
    · exact hh
    · rw [List.getElem?_eq_none (by simp; omega)] at hj; cases hj
  have := hc j hj'
  have ea : (⟨b, off, none⟩ : Addr).add j = ⟨b, off + j, none⟩ := by
    by_cases h0 : j = 0
    · simp [Addr.add, h0]
    · simp [Addr.add, h0]
  simp only [List.getElem?_map, List.getElem?_eq_getElem hj', Option.map_some, Option.some.injEq] at hj
  rw [ea, this, ← hj, List.getD_eq_getElem?_getD, List.getElem?_eq_getElem hj']
  rfl

theorem copy_run {w w1 : World} {a : Option Addr} {g n c : Nat} {zs : List Int} {i0 : TypeInfo} (h : Seg w a zs) (hl : zs.length = n) (hm : n ≤ maxLen) (hq : Q w w1) (ho : Own w1 w.heap.size (some ⟨g, 0, none⟩) n n (List.replicate n 0)) (hg : w.heap.size ≤ g)
    (hi : Try.prog.info? 5 = some i0) (hz : i0.size = 1) :
    ∃ w2, (Builtin.copy_ #[30, 30] 3 #[.slice (some ⟨g, 0, none⟩) n n, .slice a n c]).run Try.prog w1 = .ok (goInt n) w2 ∧ Q w w2 ∧ Own w2 w.heap.size (some ⟨g, 0, none⟩) n n zs ∧ True := by
  have hb := own_block ho
  by_cases h0 : n = 0
  · subst h0
    obtain rfl : zs = [] := List.eq_nil_of_length_eq_zero hl
    refine ⟨w1, ?_, hq, by simpa using ho, trivial⟩
    have := run_copy_none (P := Try.prog) w1 30 30 3 5 (some ⟨g, 0, none⟩) a 0 0 0 c Try.underlying30 (by rw [hi]; simp [hz]) (by simp)
    simpa using this
  · have hs := copy_src h hq (by simp; omega)
    obtain ⟨ad, rfl, hsrc⟩ := hs
    have := run_copy_row (P := Try.prog) w1 30 30 3 5 g 0 n n ad n c _ 5 (zs.map (Value.int .u8)) Try.underlying30 (by rw [hi]; simp [hz]) hb (by simp [hl]) hsrc (by simp [hl]) (ints_oneCell _ _)
    rw [show (zs.map (Value.int .u8)).length = n from by simp [hl]] at this
    refine ⟨_, this, below_setRow hq hg _, own_of_block hl hm ?_ hg, trivial⟩
    rw [setRow_heap w1 g _ _ 5 _ hb]
    simp

set_option maxHeartbeats 400000 in
theorem rcopy_any (a : Option Addr) (n c : Nat) (zs : List Int) (w : World) (hl : zs.length = n) (hn : n ≤ 140737488355328) (hseg : Seg w a zs) :
    Calls Try.prog 11 #[.slice a n c] w fun e w' => ∃ g, e = .returned (.slice (some ⟨g, 0, none⟩) n n) ∧ Q w w' ∧ Own w' w.heap.size (some ⟨g, 0, none⟩) n n zs ∧ w.heap.size ≤ g := by
  obtain ⟨i0, hi, hz0, hz1, hz2⟩ := info_parts info5
  have HL := hid hl
  have HSG := hid hseg
  clear hl hseg
  go_enter Try.func11, Try.ntmps11
  go_wp2_with (at_make; refine wpList_make_full _ rfl _ _ 30 rfl w.heap.size 5 i0 (.int .u8 0) 1 Try.underlying30 hi hz0 hz1 .i64 .i64 _ _ n rfl rfl rfl rfl (by rw [hz2]; omega) (by unfold maxLen; omega) (Nat.le_refl _) ?_; intro w1 hown hgr)
  have hq : Q w w1 := (Q.refl w).grown hgr
  rw [made_zero] at hown
  obtain ⟨w2, hrun, hq2, ho2, _⟩ := copy_run (c := c) HSG.out HL.out (by unfold maxLen; omega) hq (show Own w1 w.heap.size (some ⟨w.heap.size, 0, none⟩) n n (List.replicate n 0) from hown) (Nat.le_refl _) hi hz1
  have H2 := hid hq2
  have O2 := hid ho2
  clear hown hgr hq hq2 ho2
  rw [hrun]
  clear hrun
  go_wp2
  go_ret
  exact ⟨w.heap.size, rfl, H2.out, O2.out, Nat.le_refl _⟩

set_option maxHeartbeats 400000 in
theorem copy_any (a : Option Addr) (n c : Nat) (zs : List Int) (w : World) (hl : zs.length = n) (hn : n ≤ 140737488355328) (hseg : Seg w a zs) :
    Calls Try.prog 60 #[.slice a n c] w fun e w' => ∃ g, e = .returned (.slice (some ⟨g, 0, none⟩) n n) ∧ Q w w' ∧ Own w' w.heap.size (some ⟨g, 0, none⟩) n n zs ∧ w.heap.size ≤ g := by
  obtain ⟨i0, hi, hz0, hz1, hz2⟩ := info_parts info5
  have HL := hid hl
  have HSG := hid hseg
  clear hl hseg
  go_enter Try.func60, Try.ntmps60
  go_wp2_with (at_make; refine wpList_make_full _ rfl _ _ 30 rfl w.heap.size 5 i0 (.int .u8 0) 1 Try.underlying30 hi hz0 hz1 .i64 .i64 _ _ n rfl rfl rfl rfl (by rw [hz2]; omega) (by unfold maxLen; omega) (Nat.le_refl _) ?_; intro w1 hown hgr)
  have hq : Q w w1 := (Q.refl w).grown hgr
  rw [made_zero] at hown
  obtain ⟨w2, hrun, hq2, ho2, _⟩ := copy_run (c := c) HSG.out HL.out (by unfold maxLen; omega) hq (show Own w1 w.heap.size (some ⟨w.heap.size, 0, none⟩) n n (List.replicate n 0) from hown) (Nat.le_refl _) hi hz1
  have H2 := hid hq2
  have O2 := hid ho2
  clear hown hgr hq hq2 ho2
  rw [hrun]
  clear hrun
  go_wp2
  go_ret
  exact ⟨w.heap.size, rfl, H2.out, O2.out, Nat.le_refl _⟩

end Go.Proofs.Ytdlefmlienfjhaa
