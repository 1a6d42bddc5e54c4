/-
  What slices.Grow and slices.Concat do on bytes: contracts that the statements' walks use.
-/
import Derived.Test.YtdlefmlienfjhaaMem
import Derived.Test.YtdlefmlienfjhaaRef
import Derived.Lib.BytesEntry
import Derived.Deep.RegionLaw
namespace Go.Proofs.Ytdlefmlienfjhaa
open Go.RowKit
set_option linter.unusedVariables false
set_option maxRecDepth 20000

/-- What a slice of bytes brings to append or copy. -/
theorem src_seg {w : World} {a : Option Addr} {n c : Nat} {zs : List Int} (h : Seg w a zs) (hl : zs.length = n) : Src Try.prog 1 30 (.slice a n c) n (u8s zs) w := by
  by_cases h0 : zs = []
  · subst h0
    obtain rfl : n = 0 := by simpa using hl.symm
    cases a with
    | none => exact Src.ofNil w Try.underlying30 c
    | some ad => exact Src.ofSlice (size := 1) w Try.underlying30 ad 0 c [] (by simp) (by intro j u hj; cases hj) (by intro u hu; cases hu)
  · obtain ⟨b, off, rfl, hc⟩ := h h0
    refine Src.ofSlice (size := 1) w Try.underlying30 ⟨b, off, none⟩ n c (u8s zs) (by simp [hl]) (fun j u hj => ?_) (ints_oneCell _ _)
    have hj' : j < zs.length := by
      rcases Nat.lt_or_ge j zs.length with hh | hh
      · exact hh
      · rw [List.getElem?_eq_none (by simpa using hh)] at hj; cases hj
    rw [addr_add, hc j hj']
    rw [List.getElem?_map, List.getElem?_eq_getElem hj'] at hj
    simp only [Option.map_some, Option.some.injEq] at hj
    rw [← hj, List.getD_eq_getElem?_getD, List.getElem?_eq_getElem hj']; rfl

theorem row_append {w : World} {d : Sv} {zs ys : List Int} {x : Value} {m : Nat} {ty : TypeId} (h : Row w d zs) (hs : Src Try.prog 1 30 x m (u8s ys) w) (hn : d.n + m ≤ 1000000) :
    ∃ d' w', (Builtin.append_ #[30, 30] ty #[.slice d.a d.n d.c, x]).run Try.prog w = .ok (.slice d'.a d'.n d'.c) w' ∧ Row w' d' (zs ++ ys) ∧ Keep (fun b => blk d.a = some b) w w' ∧ (blk d'.a = blk d.a ∨ blk d'.a = some w.heap.size) := by
  obtain ⟨i0, hi, hz0, hz1, hz2⟩ := info_parts info5
  obtain ⟨a', c', w', h1, h2, h3, h4⟩ := sub_append (P := Try.prog) (ty := ty) Try.underlying30 hi hz0 hz1 hz2 rfl h hs (by unfold maxLen; omega) (by omega)
  exact ⟨⟨a', d.n + m, c'⟩, w', h1, by show Sub _ _ _ _ _ _ (u8s _); rw [show u8s (zs ++ ys) = u8s zs ++ u8s ys from List.map_append]; exact h2, h3, h4⟩

theorem zeros_u8 (m : Nat) : (Builtin.zeroCells (Value.int .u8 0).cells m).toList = u8s (List.replicate m 0) := by
  have := toList_madeCells_one
  apply List.ext_getElem?
  intro j
  by_cases hj : j < m
  · simp [Builtin.zeroCells, Value.cells, hj, Nat.mod_one]
  · rw [List.getElem?_eq_none (by simp [Builtin.zeroCells, Value.cells]; omega), List.getElem?_eq_none (by simp; omega)]

/-- .. of zeros. -/
theorem row_zeros {w : World} {d : Sv} {zs : List Int} {m : Nat} {ty : TypeId} (h : Row w d zs) (hm : 0 < m) (hn : d.n + m ≤ 1000000) :
    ∃ d' w', (Builtin.append_ #[30, 3] ty #[.slice d.a d.n d.c, .int .i64 m]).run Try.prog w = .ok (.slice d'.a d'.n d'.c) w' ∧ Row w' d' (zs ++ List.replicate m 0) ∧ Keep (fun b => blk d.a = some b) w w' ∧ (blk d'.a = blk d.a ∨ blk d'.a = some w.heap.size) := by
  obtain ⟨i0, hi, hz0, hz1, hz2⟩ := info_parts info5
  have ho : ∀ v ∈ (Value.int .u8 0).cells.toList, v.oneCell' = true := by
    intro v hv; simp [Value.cells] at hv; rw [hv]; rfl
  obtain ⟨a', c', w', h1, h2, h3, h4⟩ := sub_append_zeros (P := Try.prog) (ty := ty) (kq := .i64) Try.underlying30 Try.underlying3 hi hz0 hz1 hz2 rfl (by omega) ho h (m := m) hm (by unfold maxLen; omega) (by omega)
  refine ⟨⟨a', d.n + m, c'⟩, w', h1, ?_, h3, h4⟩
  show Sub _ _ _ _ _ _ (u8s _)
  rw [show u8s (zs ++ List.replicate m 0) = u8s zs ++ u8s (List.replicate m 0) from List.map_append, ← zeros_u8]; exact h2

theorem new_step {B : Nat} {w wr w' : World} {x y : Sv} (hB : B = w.heap.size) (hq : Q w wr) (hx : New B x) (k : Keep (fun b => blk x.a = some b) wr w') (h : blk y.a = blk x.a ∨ blk y.a = some wr.heap.size) : Q w w' ∧ New B y := by
  subst hB
  refine ⟨k.below hq hq.size (fun i hi => hx i hi), fun b hb => ?_⟩
  rcases h with h | h
  · exact hx b (by rw [← h]; exact hb)
  · rw [h] at hb; cases hb; exact hq.size

/-- The first j pieces one behind the other. -/
def cat (Z : Nat → List Int) : Nat → List Int
  | 0 => []
  | j + 1 => cat Z j ++ Z j

theorem cat_le {Z : Nat → List Int} {m : Nat} : ∀ {j : Nat}, j ≤ m → (cat Z j).length ≤ (cat Z m).length := by
  intro j hj
  induction m with
  | zero => obtain rfl : j = 0 := by omega
            exact Nat.le_refl _
  | succ m ih =>
    rcases Nat.lt_or_ge j (m + 1) with h | h
    · have := ih (by omega); simp only [cat, List.length_append]; omega
    · obtain rfl : j = m + 1 := by omega
      exact Nat.le_refl _


theorem row_cut {w : World} {x : Sv} {zs : List Int} (h : Row w x zs) : Row w ⟨x.a, 0, x.c⟩ [] := by
  refine ⟨by simp, ?_⟩
  rcases h.2 with ⟨h1, h2, h3⟩ | ⟨g, off, cur, ha, hg, h1, h2, h3, h4⟩
  · exact .inl ⟨h1, rfl, h3⟩
  · exact .inr ⟨g, off, cur, ha, hg, Nat.zero_le _, h2, h3, fun j hj => by simp at hj⟩
theorem slice_none (u : World) : (Instr.slice 30 (.slice none 0 0) none (some (.int .i64 0)) none).run Try.prog u = .ok (.slice none 0 0) u := by
  have h := run_slice_h (P := Try.prog) u 30 none 0 0 Try.underlying30 .i64 0 (by omega) (by omega)
  rw [h]
  obtain ⟨i0, hi, hz0, hz1, hz2⟩ := info_parts info5
  have e : Try.prog.elem 30 = 5 := by kernel_rfl
  simp [sizeOf, typeInfo, e, hi, hz1, sliced, Result.andThen]
theorem slice_zero (a : Option Addr) (n c : Nat) (u : World) : (Instr.slice 30 (.slice a n c) none (some (.int .i64 0)) none).run Try.prog u = .ok (.slice a 0 c) u := by
  have h := run_slice_h (P := Try.prog) u 30 a n c Try.underlying30 .i64 0 (by omega) (by omega)
  rw [h]
  obtain ⟨i0, hi, hz0, hz1, hz2⟩ := info_parts info5
  have e : Try.prog.elem 30 = 5 := by kernel_rfl
  simp [sizeOf, typeInfo, e, hi, hz1, sliced, Result.andThen]
  try (cases a <;> simp [Addr.add])
set_option maxHeartbeats 1600000 in
theorem grow_nil (k : Nat) (w : World) (hk : k ≤ 1000000) : Calls Try.prog 49 #[.slice none 0 0, .int .i64 k] w fun e w' => ∃ r : Sv, e = .returned (.slice r.a r.n r.c) ∧ Q w w' ∧ Row w' r [] ∧ New w.heap.size r := by
  by_cases h0 : k = 0
  · subst h0
    go_enter Try.func49, Try.ntmps49
    go_wp2
    go_ret
    exact ⟨nilS, rfl, Q.refl _, sub_nil _ _ _, new_nil _⟩
  have hk0 : (0 : Int) < (k : Int) := by omega
  have s1 := slice_none
  obtain ⟨⟨ya, yn, yc⟩, w2, hrun, hrow, hkp, hb⟩ := row_zeros (ty := 30) (w := w) (d := nilS) (zs := []) (m := k) (sub_nil _ _ _) (by omega) (by show 0 + k ≤ 1000000; omega)
  have hns := new_step (x := nilS) (y := ⟨ya, yn, yc⟩) rfl (Q.refl w) (new_nil _) hkp hb
  have s2 := slice_zero ya yn yc
  have HX := hid (show Q w w2 ∧ Row w2 ⟨ya, 0, yc⟩ [] ∧ New w.heap.size ⟨ya, 0, yc⟩ from ⟨hns.1, row_cut hrow, hns.2⟩)
  have hrun' : (Builtin.append_ #[30, 3] 30 #[.slice none 0 0, .int .i64 k]).run Try.prog w = .ok (.slice ya yn yc) w2 := hrun
  clear hrow hkp hb hns hrun
  go_enter Try.func49, Try.ntmps49
  go_wp2_with (at_builtin; refine Lib.wpList_append_run _ rfl _ _ _ _ rfl _ _ rfl rfl _ _ hrun' ?_)
  go_ret
  exact ⟨⟨ya, 0, yc⟩, rfl, HX.out⟩
set_option maxHeartbeats 4000000 in
theorem concat_any (pb m c : Nat) (P : Nat → Sv) (Z : Nat → List Int) (w : World) (hp : ∀ j, j < m → w.cell? ⟨pb, j, none⟩ = some (.slice (P j).a (P j).n (P j).c)) (hz : ∀ j, j < m → Seg w (P j).a (Z j) ∧ (Z j).length = (P j).n) (hm : m ≤ 100) (ht : (cat Z m).length ≤ 1000000) :
    Calls Try.prog 35 #[.slice (some ⟨pb, 0, none⟩) m c] w fun e w' => ∃ x : Sv, e = .returned (.slice x.a x.n x.c) ∧ Q w w' ∧ Row w' x (cat Z m) ∧ New w.heap.size x := by
  have HP := hid hp
  have HZ := hid hz
  have HT := hid ht
  clear hp hz ht
  go_enter Try.func35, Try.ntmps35
  go_wp2
  go_loop [3, 11] (fun sz i => ∃ j : Nat, j ≤ m ∧ i = .int .i64 j ∧ sz = .int .i64 ((cat Z j).length : Nat)) (fun _ i => ((m : Int) - intOf i).toNat)
  case atStart => exact ⟨0, Nat.zero_le _, rfl, rfl⟩
  case round =>
    obtain ⟨j, hj, rfl, rfl⟩ := hrel
    by_cases hjn : j < m
    · have hc := HP.out j hjn
      have hz := (HZ.out j hjn).2
      have hji : (j : Int) < (m : Int) := by omega
      have hle := cat_le (Z := Z) (j := j + 1) (m := m) (by omega)
      have hT := HT.out
      have HE := hid (show (cat Z (j + 1)).length = (cat Z j).length + (P j).n from by rw [show cat Z (j + 1) = cat Z j ++ Z j from rfl, List.length_append, hz])
      have hb : (cat Z j).length + (P j).n ≤ 1000000 := by rw [← HE.out]; omega
      clear hz hle hT
      generalize P j = p at *
      generalize (cat Z j).length = sz at *
      have hneg : ¬ ((sz : Int) + (p.n : Int)) < 0 := by omega
      have hneg' : decide ((sz : Int) + (p.n : Int) < 0) = false := by simp; omega
      go_wp2
      go_round
      case rel => exact ⟨j + 1, by omega, by go_num, by rw [HE.out]; go_num⟩
      case measure => simp [intOf]; omega
    · obtain rfl : j = m := by omega
      have hji : ¬ (j : Int) < (j : Int) := by omega
      go_wp2_with fail
      refine (grow_nil (cat Z j).length w HT.out).mono ?_
      rintro e w1 ⟨⟨x0a, x0n, x0c⟩, rfl, hq1, hr1, hn1⟩
      have HQ1 := hid hq1
      have HR1 := hid hr1
      have HN1 := hid hn1
      clear hq1 hr1 hn1
      go_wp2
      go_loopw [6, 27] (fun fo i wr => Q w wr ∧ ∃ (k : Nat) (x : Sv), k ≤ j ∧ i = .int .i64 k ∧ fo = .slice x.a x.n x.c ∧ Row wr x (cat Z k) ∧ New w.heap.size x) (fun _ i _ => ((j : Int) - intOf i).toNat)
      case atStart => exact ⟨HQ1.out, 0, ⟨x0a, x0n, x0c⟩, Nat.zero_le _, rfl, rfl, HR1.out, HN1.out⟩
      case round =>
        obtain ⟨hq, k, ⟨xa, xn, xc⟩, hk, rfl, rfl, hr, hnew⟩ := hrel
        have HQ := hid hq
        have HR := hid hr
        have HN := hid hnew
        clear hq hr hnew
        by_cases hkn : k < j
        · have hc := HP.out k hkn
          rw [← HQ.out.cell (lt_of_cell hc)] at hc
          have hz := HZ.out k hkn
          have hki : (k : Int) < (j : Int) := by omega
          have hle := cat_le (Z := Z) (j := k + 1) (m := j) (by omega)
          have hT := HT.out
          have hxl := Row.len HR.out
          rw [show cat Z (k + 1) = cat Z k ++ Z k from rfl, List.length_append] at hle
          obtain ⟨⟨ya, yn, yc⟩, w2, hrun, hrow, hkp, hb⟩ := row_append (ty := 30) (d := ⟨xa, xn, xc⟩) (x := .slice (P k).a (P k).n (P k).c) (m := (P k).n) (ys := Z k) HR.out (src_seg (hz.1.q HQ.out) hz.2) (by rw [← hz.2, ← hxl]; omega)
          have hns := new_step rfl HQ.out HN.out hkp hb
          have HX := hid hns
          have HY := hid (show Row w2 ⟨ya, yn, yc⟩ (cat Z (k + 1)) from hrow)
          clear hz hle hT hxl hkp hb hns hrow
          generalize P k = p at *
          go_wp2_with (at_builtin; refine Lib.wpList_append_run _ rfl _ _ _ _ rfl _ _ rfl rfl _ _ hrun ?_)
          go_roundw
          case rel => exact ⟨HX.out.1, k + 1, ⟨ya, yn, yc⟩, by omega, by go_num, rfl, HY.out, HX.out.2⟩
          case measure => simp [intOf]; omega
        · obtain rfl : k = j := by omega
          have hki : ¬ (k : Int) < (k : Int) := by omega
          go_wp2
          go_ret
          exact ⟨⟨xa, xn, xc⟩, rfl, HQ.out, HR.out, HN.out⟩
end Go.Proofs.Ytdlefmlienfjhaa
