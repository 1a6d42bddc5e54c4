/-
  What slices.Concat does: a contract that the statements' walks use.
-/
import Derived.Test.YtdlefmlienfjhaaHfB
namespace Go.Proofs.Ytdlefmlienfjhaa
open Go.RowKit
set_option linter.unusedVariables false
set_option maxRecDepth 20000

theorem row_appendB {w : World} {d : Sv} {zs ys : List Int} {x : Value} {m : Nat} {ty : TypeId} (h : Row w d zs) (hs : Src Try.prog 1 30 x m (u8s ys) w) (hn : d.n + m ≤ 140737488355328) :
    ∃ d' w', (Builtin.append_ #[30, 30] ty #[.slice d.a d.n d.c, x]).run Try.prog w = .ok (.slice d'.a d'.n d'.c) w' ∧ Row w' d' (zs ++ ys) ∧ Keep (fun b => blk d.a = some b) w w' ∧ (blk d'.a = blk d.a ∨ blk d'.a = some w.heap.size) := by
  obtain ⟨i0, hi, hz0, hz1, hz2⟩ := info_parts info5
  obtain ⟨a', c', w', h1, h2, h3, h4⟩ := sub_append (P := Try.prog) (ty := ty) Try.underlying30 hi hz0 hz1 hz2 rfl h hs (by unfold maxLen; omega) (by omega)
  exact ⟨⟨a', d.n + m, c'⟩, w', h1, by show Sub _ _ _ _ _ _ (u8s _); rw [show u8s (zs ++ ys) = u8s zs ++ u8s ys from List.map_append]; exact h2, h3, h4⟩

theorem row_zerosB {w : World} {d : Sv} {zs : List Int} {m : Nat} {ty : TypeId} (h : Row w d zs) (hm : 0 < m) (hn : d.n + m ≤ 140737488355328) :
    ∃ d' w', (Builtin.append_ #[30, 3] ty #[.slice d.a d.n d.c, .int .i64 m]).run Try.prog w = .ok (.slice d'.a d'.n d'.c) w' ∧ Row w' d' (zs ++ List.replicate m 0) ∧ Keep (fun b => blk d.a = some b) w w' ∧ (blk d'.a = blk d.a ∨ blk d'.a = some w.heap.size) := by
  obtain ⟨i0, hi, hz0, hz1, hz2⟩ := info_parts info5
  have ho : ∀ v ∈ (Value.int .u8 0).cells.toList, v.oneCell' = true := by
    intro v hv; simp [Value.cells] at hv; rw [hv]; rfl
  obtain ⟨a', c', w', h1, h2, h3, h4⟩ := sub_append_zeros (P := Try.prog) (ty := ty) (kq := .i64) Try.underlying30 Try.underlying3 hi hz0 hz1 hz2 rfl (by omega) ho h (m := m) hm (by unfold maxLen; omega) (by omega)
  refine ⟨⟨a', d.n + m, c'⟩, w', h1, ?_, h3, h4⟩
  show Sub _ _ _ _ _ _ (u8s _)
  rw [show u8s (zs ++ List.replicate m 0) = u8s zs ++ u8s (List.replicate m 0) from List.map_append, ← zeros_u8]; exact h2

theorem slice_noneB (u : World) : (Instr.slice 30 (.slice none 0 0) none (some (.int .i64 0)) none).run Try.prog u = .ok (.slice none 0 0) u := by
  have h := run_slice_h (P := Try.prog) u 30 none 0 0 Try.underlying30 .i64 0 (by omega) (by omega)
  rw [h]
  obtain ⟨i0, hi, hz0, hz1, hz2⟩ := info_parts info5
  have e : Try.prog.elem 30 = 5 := by kernel_rfl
  simp [sizeOf, typeInfo, e, hi, hz1, sliced, Result.andThen]
theorem slice_zeroB (a : Option Addr) (n c : Nat) (u : World) : (Instr.slice 30 (.slice a n c) none (some (.int .i64 0)) none).run Try.prog u = .ok (.slice a 0 c) u := by
  have h := run_slice_h (P := Try.prog) u 30 a n c Try.underlying30 .i64 0 (by omega) (by omega)
  rw [h]
  obtain ⟨i0, hi, hz0, hz1, hz2⟩ := info_parts info5
  have e : Try.prog.elem 30 = 5 := by kernel_rfl
  simp [sizeOf, typeInfo, e, hi, hz1, sliced, Result.andThen]
  try (cases a <;> simp [Addr.add])
set_option maxHeartbeats 1600000 in
theorem grow_nilB (k : Nat) (w : World) (hk : k ≤ 140737488355328) : Calls Try.prog 49 #[.slice none 0 0, .int .i64 k] w fun e w' => ∃ r : Sv, e = .returned (.slice r.a r.n r.c) ∧ Q w w' ∧ Row w' r [] ∧ New w.heap.size r := by
  by_cases h0 : k = 0
  · subst h0
    go_enter Try.func49, Try.ntmps49
    go_wp2
    go_ret
    exact ⟨nilS, rfl, Q.refl _, sub_nil _ _ _, new_nil _⟩
  have hk0 : (0 : Int) < (k : Int) := by omega
  have s1 := slice_noneB
  obtain ⟨⟨ya, yn, yc⟩, w2, hrun, hrow, hkp, hb⟩ := row_zerosB (ty := 30) (w := w) (d := nilS) (zs := []) (m := k) (sub_nil _ _ _) (by omega) (by show 0 + k ≤ 140737488355328; omega)
  have hns := new_step (x := nilS) (y := ⟨ya, yn, yc⟩) rfl (Q.refl w) (new_nil _) hkp hb
  have s2 := slice_zeroB ya yn yc
  have HX := hid (show Q w w2 ∧ Row w2 ⟨ya, 0, yc⟩ [] ∧ New w.heap.size ⟨ya, 0, yc⟩ from ⟨hns.1, row_cut hrow, hns.2⟩)
  have hrun' : (Builtin.append_ #[30, 3] 30 #[.slice none 0 0, .int .i64 k]).run Try.prog w = .ok (.slice ya yn yc) w2 := hrun
  clear hrow hkp hb hns hrun
  go_enter Try.func49, Try.ntmps49
  go_wp2_with (at_builtin; refine Lib.wpList_append_run _ rfl _ _ _ _ rfl _ _ rfl rfl _ _ hrun' ?_)
  go_ret
  exact ⟨⟨ya, 0, yc⟩, rfl, HX.out⟩
set_option maxHeartbeats 4000000 in
theorem concatB (pb m c : Nat) (P : Nat → Sv) (Z : Nat → List Int) (w : World) (hp : ∀ j, j < m → w.cell? ⟨pb, j, none⟩ = some (.slice (P j).a (P j).n (P j).c)) (hz : ∀ j, j < m → Seg w (P j).a (Z j) ∧ (Z j).length = (P j).n) (hm : m ≤ 100) (ht : (cat Z m).length ≤ 140737488355328) :
    Calls Try.prog 35 #[.slice (some ⟨pb, 0, none⟩) m c] w fun e w' => ∃ x : Sv, e = .returned (.slice x.a x.n x.c) ∧ Q w w' ∧ Row w' x (cat Z m) ∧ New w.heap.size x := by
  have HP := hid hp
  have HZ := hid hz
  have HT := hid ht
  clear hp hz ht
  go_enter Try.func35, Try.ntmps35
  go_wp2
  go_loop [3, 11] (fun sz i => ∃ j : Nat, j ≤ m ∧ i = .int .i64 j ∧ sz = .int .i64 ((cat Z j).length : Nat)) (fun _ i => ((m : Int) - intOf i).toNat)
  case atStart => exact ⟨0, Nat.zero_le _, rfl, rfl⟩
  case round =>
    obtain ⟨j, hj, rfl, rfl⟩ := hrel
    by_cases hjn : j < m
    · have hc := HP.out j hjn
      have hz := (HZ.out j hjn).2
      have hji : (j : Int) < (m : Int) := by omega
      have hle := cat_le (Z := Z) (j := j + 1) (m := m) (by omega)
      have hT := HT.out
      have HE := hid (show (cat Z (j + 1)).length = (cat Z j).length + (P j).n from by rw [show cat Z (j + 1) = cat Z j ++ Z j from rfl, List.length_append, hz])
      have hb : (cat Z j).length + (P j).n ≤ 140737488355328 := by rw [← HE.out]; omega
      clear hz hle hT
      generalize P j = p at *
      generalize (cat Z j).length = sz at *
      have hneg : ¬ ((sz : Int) + (p.n : Int)) < 0 := by omega
      have hneg' : decide ((sz : Int) + (p.n : Int) < 0) = false := by simp; omega
      go_wp2
      go_round
      case rel => exact ⟨j + 1, by omega, by go_num, by rw [HE.out]; go_num⟩
      case measure => simp [intOf]; omega
    · obtain rfl : j = m := by omega
      have hji : ¬ (j : Int) < (j : Int) := by omega
      go_wp2_with fail
      refine (grow_nilB (cat Z j).length w HT.out).mono ?_
      rintro e w1 ⟨⟨x0a, x0n, x0c⟩, rfl, hq1, hr1, hn1⟩
      have HQ1 := hid hq1
      have HR1 := hid hr1
      have HN1 := hid hn1
      clear hq1 hr1 hn1
      go_wp2
      go_loopw [6, 27] (fun fo i wr => Q w wr ∧ ∃ (k : Nat) (x : Sv), k ≤ j ∧ i = .int .i64 k ∧ fo = .slice x.a x.n x.c ∧ Row wr x (cat Z k) ∧ New w.heap.size x) (fun _ i _ => ((j : Int) - intOf i).toNat)
      case atStart => exact ⟨HQ1.out, 0, ⟨x0a, x0n, x0c⟩, Nat.zero_le _, rfl, rfl, HR1.out, HN1.out⟩
      case round =>
        obtain ⟨hq, k, ⟨xa, xn, xc⟩, hk, rfl, rfl, hr, hnew⟩ := hrel
        have HQ := hid hq
        have HR := hid hr
        have HN := hid hnew
        clear hq hr hnew
        by_cases hkn : k < j
        · have hc := HP.out k hkn
          rw [← HQ.out.cell (lt_of_cell hc)] at hc
          have hz := HZ.out k hkn
          have hki : (k : Int) < (j : Int) := by omega
          have hle := cat_le (Z := Z) (j := k + 1) (m := j) (by omega)
          have hT := HT.out
          have hxl := Row.len HR.out
          rw [show cat Z (k + 1) = cat Z k ++ Z k from rfl, List.length_append] at hle
          obtain ⟨⟨ya, yn, yc⟩, w2, hrun, hrow, hkp, hb⟩ := row_appendB (ty := 30) (d := ⟨xa, xn, xc⟩) (x := .slice (P k).a (P k).n (P k).c) (m := (P k).n) (ys := Z k) HR.out (src_seg (hz.1.q HQ.out) hz.2) (by rw [← hz.2, ← hxl]; omega)
          have hns := new_step rfl HQ.out HN.out hkp hb
          have HX := hid hns
          have HY := hid (show Row w2 ⟨ya, yn, yc⟩ (cat Z (k + 1)) from hrow)
          clear hz hle hT hxl hkp hb hns hrow
          generalize P k = p at *
          go_wp2_with (at_builtin; refine Lib.wpList_append_run _ rfl _ _ _ _ rfl _ _ rfl rfl _ _ hrun ?_)
          go_roundw
          case rel => exact ⟨HX.out.1, k + 1, ⟨ya, yn, yc⟩, by omega, by go_num, rfl, HY.out, HX.out.2⟩
          case measure => simp [intOf]; omega
        · obtain rfl : k = j := by omega
          have hki : ¬ (k : Int) < (k : Int) := by omega
          go_wp2
          go_ret
          exact ⟨⟨xa, xn, xc⟩, rfl, HQ.out, HR.out, HN.out⟩

/-- Concat of two pieces that are laid as a literal row, and of three. -/
def thr {α : Type} (x y z : α) : Nat → α
  | 0 => x
  | 1 => y
  | _ => z
theorem concat_two (W : World) (x y : Sv) (X Y : List Int) (hx : Seg W x.a X ∧ X.length = x.n) (hy : Seg W y.a Y ∧ Y.length = y.n) (hb : X.length + Y.length ≤ 140737488355328) :
    Calls Try.prog 35 #[.slice (some ⟨W.heap.size, 0, none⟩) 2 2] (W.alloc (.cells #[.slice x.a x.n x.c, .slice y.a y.n y.c] 30)) fun e w' => ∃ r : Sv, e = .returned (.slice r.a r.n r.c) ∧ Q W w' ∧ Row w' r (X ++ Y) ∧ New W.heap.size r := by
  have hb0 := heap_alloc_new W (.cells #[.slice x.a x.n x.c, .slice y.a y.n y.c] 30)
  have hq2 : Q W (W.alloc (.cells #[.slice x.a x.n x.c, .slice y.a y.n y.c] 30)) := (Q.refl W).alloc _
  have hc : cat (thr X Y []) 2 = X ++ Y := by simp [cat, thr]
  refine (concatB W.heap.size 2 2 (thr x y nilS) (thr X Y []) _ (fun j hj => ?_) (fun j hj => ?_) (by omega) (by rw [hc, List.length_append]; omega)).mono ?_
  · rw [cell_of_row _ _ _ _ 30 (0, 0) hb0]
    rcases (show j = 0 ∨ j = 1 by omega) with rfl | rfl <;> rfl
  · rcases (show j = 0 ∨ j = 1 by omega) with rfl | rfl
    · exact ⟨hx.1.q hq2, hx.2⟩
    · exact ⟨hy.1.q hq2, hy.2⟩
  · rintro e w' ⟨r, rfl, q, rr, nw⟩
    rw [hc] at rr
    exact ⟨r, rfl, hq2.trans q, rr, nw.mono hq2.size⟩
theorem concat_three (W : World) (x y z : Sv) (X Y Z : List Int) (hx : Seg W x.a X ∧ X.length = x.n) (hy : Seg W y.a Y ∧ Y.length = y.n) (hz : Seg W z.a Z ∧ Z.length = z.n) (hb : X.length + Y.length + Z.length ≤ 140737488355328) :
    Calls Try.prog 35 #[.slice (some ⟨W.heap.size, 0, none⟩) 3 3] (W.alloc (.cells #[.slice x.a x.n x.c, .slice y.a y.n y.c, .slice z.a z.n z.c] 30)) fun e w' => ∃ r : Sv, e = .returned (.slice r.a r.n r.c) ∧ Q W w' ∧ Row w' r (X ++ (Y ++ Z)) ∧ New W.heap.size r := by
  have hb0 := heap_alloc_new W (.cells #[.slice x.a x.n x.c, .slice y.a y.n y.c, .slice z.a z.n z.c] 30)
  have hq2 : Q W (W.alloc (.cells #[.slice x.a x.n x.c, .slice y.a y.n y.c, .slice z.a z.n z.c] 30)) := (Q.refl W).alloc _
  have hc : cat (thr X Y Z) 3 = X ++ (Y ++ Z) := by simp [cat, thr]
  refine (concatB W.heap.size 3 3 (thr x y z) (thr X Y Z) _ (fun j hj => ?_) (fun j hj => ?_) (by omega) (by rw [hc, List.length_append, List.length_append]; omega)).mono ?_
  · rw [cell_of_row _ _ _ _ 30 (0, 0) hb0]
    rcases (show j = 0 ∨ j = 1 ∨ j = 2 by omega) with rfl | rfl | rfl <;> rfl
  · rcases (show j = 0 ∨ j = 1 ∨ j = 2 by omega) with rfl | rfl | rfl
    · exact ⟨hx.1.q hq2, hx.2⟩
    · exact ⟨hy.1.q hq2, hy.2⟩
    · exact ⟨hz.1.q hq2, hz.2⟩
  · rintro e w' ⟨r, rfl, q, rr, nw⟩
    rw [hc] at rr
    exact ⟨r, rfl, hq2.trans q, rr, nw.mono hq2.size⟩
set_option maxHeartbeats 4000000 in
theorem joinB (pb m c : Nat) (P : Nat → Sv) (Z : Nat → List Int) (w : World) (hp : ∀ j, j < m → w.cell? ⟨pb, j, none⟩ = some (.slice (P j).a (P j).n (P j).c)) (hz : ∀ j, j < m → Seg w (P j).a (Z j) ∧ (Z j).length = (P j).n) (hm : m ≤ 100) (ht : (cat Z m).length ≤ 140737488355328) :
    Calls Try.prog 29 #[.slice (some ⟨pb, 0, none⟩) m c] w fun e w' => ∃ x : Sv, e = .returned (.slice x.a x.n x.c) ∧ Q w w' ∧ Row w' x (cat Z m) ∧ New w.heap.size x := by
  have HP := hid hp
  have HZ := hid hz
  have HT := hid ht
  clear hp hz ht
  go_enter Try.func29, Try.ntmps29
  go_wp2
  generalize hw1 : World.alloc w _ = w1
  have HQ1 := hid (show Q w w1 from by rw [← hw1]; exact (Q.refl w).alloc _)
  have HR1 := hid (show Row w1 ⟨some ⟨w.heap.size, 0, none⟩, 0, 0⟩ [] from by rw [← hw1]; exact row_empty w)
  clear hw1
  go_loopw [3, 4] (fun fo i wr => Q w wr ∧ ∃ (k : Nat) (x : Sv), k ≤ m ∧ i = .int .i64 k ∧ fo = .slice x.a x.n x.c ∧ Row wr x (cat Z k) ∧ New w.heap.size x) (fun _ i _ => ((m : Int) - intOf i).toNat)
  case atStart => exact ⟨HQ1.out, 0, ⟨some ⟨w.heap.size, 0, none⟩, 0, 0⟩, Nat.zero_le _, rfl, rfl, HR1.out, fun b e => by cases e; exact Nat.le_refl _⟩
  case round =>
    obtain ⟨hq, k, ⟨xa, xn, xc⟩, hk, rfl, rfl, hr, hnew⟩ := hrel
    have HQ := hid hq
    have HR := hid hr
    have HN := hid hnew
    clear hq hr hnew
    by_cases hkn : k < m
    · have hc := HP.out k hkn
      rw [← HQ.out.cell (lt_of_cell hc)] at hc
      have hz := HZ.out k hkn
      have hki : (k : Int) < (m : Int) := by omega
      have hle := cat_le (Z := Z) (j := k + 1) (m := m) (by omega)
      have hT := HT.out
      have hxl := Row.len HR.out
      rw [show cat Z (k + 1) = cat Z k ++ Z k from rfl, List.length_append] at hle
      obtain ⟨⟨ya, yn, yc⟩, w2, hrun, hrow, hkp, hb⟩ := row_appendB (ty := 30) (d := ⟨xa, xn, xc⟩) (x := .slice (P k).a (P k).n (P k).c) (m := (P k).n) (ys := Z k) HR.out (src_seg (hz.1.q HQ.out) hz.2) (by rw [← hz.2, ← hxl]; omega)
      have hns := new_step rfl HQ.out HN.out hkp hb
      have HX := hid hns
      have HY := hid (show Row w2 ⟨ya, yn, yc⟩ (cat Z (k + 1)) from hrow)
      clear hz hle hT hxl hkp hb hns hrow
      generalize P k = p at *
      go_wp2_with (at_builtin; refine Lib.wpList_append_run _ rfl _ _ _ _ rfl _ _ rfl rfl _ _ hrun ?_)
      go_roundw
      case rel => exact ⟨HX.out.1, k + 1, ⟨ya, yn, yc⟩, by omega, by go_num, rfl, HY.out, HX.out.2⟩
      case measure => simp [intOf]; omega
    · obtain rfl : k = m := by omega
      have hki : ¬ (k : Int) < (k : Int) := by omega
      go_wp2
      go_ret
      exact ⟨⟨xa, xn, xc⟩, rfl, HQ.out, HR.out, HN.out⟩
theorem nil_row (w : World) : Row w ⟨none, 0, 0⟩ [] := ⟨by simp, .inl ⟨rfl, rfl, rfl⟩⟩
theorem slice_toB (a : Option Addr) (n c k : Nat) (hk : k ≤ c) (hk' : k < 9223372036854775808) (u : World) : (Instr.slice 30 (.slice a n c) none (some (.int .i64 (k : Int))) none).run Try.prog u = .ok (.slice a k c) u := by
  have h := run_slice_h (P := Try.prog) u 30 a n c Try.underlying30 .i64 (k : Int) (by omega) (by omega)
  rw [h]
  rw [show (sizeOf (Try.prog.elem 30)).run Try.prog u = .ok 1 u from by kernel_rfl]
  simp [Result.andThen, sliced]
  intro _
  cases a <;> simp [Addr.add]
theorem row_empty' (w : World) : Row (w.alloc (.cells #[] 5)) ⟨some ⟨w.heap.size, 0, none⟩, 0, 0⟩ [] :=
  ⟨rfl, .inr ⟨w.heap.size, 0, #[], rfl, heap_alloc_new w _, Nat.le_refl _, Nat.zero_le _, Nat.le_refl _, fun j hj => by simp at hj⟩⟩
theorem seg_none' {w : World} {zs : List Int} (h : Seg w none zs) : zs = [] := by
  cases zs with
  | nil => rfl
  | cons a r =>
    obtain ⟨b, o, e, _⟩ := h (by simp)
    cases e
theorem sl_nil_t (n c : Nat) (W : World) : (binOp BinOp.eql 30 (.slice none n c) (.slice none 0 0)).run Try.prog W = .ok (.bool true) W := by kernel_rfl
theorem sl_nil_f (a : Addr) (n c : Nat) (W : World) : (binOp BinOp.eql 30 (.slice (some a) n c) (.slice none 0 0)).run Try.prog W = .ok (.bool false) W := by kernel_rfl
set_option maxHeartbeats 2000000 in
theorem clone_any (x : Sv) (zs : List Int) (w : World) (hs : Seg w x.a zs) (hl : zs.length = x.n) (bx : x.n ≤ 140737488355328) :
    Calls Try.prog 41 #[.slice x.a x.n x.c] w fun e w' => ∃ y : Sv, e = .returned (.slice y.a y.n y.c) ∧ Q w w' ∧ Row w' y zs ∧ New w.heap.size y := by
  obtain ⟨xa, xn, xc⟩ := x
  have HX := hid hs
  have HL := hid hl
  dsimp only at *
  clear hs hl
  cases xa with
  | none =>
    have hz := seg_none' HX.out
    subst hz
    have hnl := sl_nil_t xn xc
    go_enter Try.func41, Try.ntmps41
    go_wp2
    go_ret
    exact ⟨⟨none, 0, 0⟩, rfl, Q.refl _, nil_row _, fun b e => by cases e⟩
  | some ad =>
    have hnl := sl_nil_f ad xn xc
    go_enter Try.func41, Try.ntmps41
    obtain ⟨⟨ya, yn, yc⟩, w2, hrun, hrow, hkp, hb⟩ := row_appendB (ty := 30) (x := .slice (some ad) xn xc) (m := xn) (ys := zs) (row_empty' w) (src_seg (HX.out.q ((Q.refl w).alloc _)) HL.out) (by show 0 + xn ≤ 140737488355328; omega)
    have HK := hid hkp
    have HB := hid hb
    have HR := hid hrow
    clear hkp hb hrow
    dsimp only at hrun
    go_wp2_with (at_builtin; refine Lib.wpList_append_run _ rfl _ _ _ _ rfl _ _ rfl rfl _ _ hrun ?_)
    go_ret
    refine ⟨⟨ya, yn, yc⟩, rfl, ?_, HR.out, ?_⟩
    · exact HK.out.below ((Q.refl w).alloc _) (by simp) (fun i e => by simp [blk] at e; omega)
    · intro b e
      rcases HB.out with h | h
      · rw [h] at e; simp [blk] at e; omega
      · rw [h] at e; simp at e; omega
theorem slice_fromB (a : Option Addr) (n c k : Nat) (h1 : k ≤ n) (u : World) :
    (Instr.slice 30 (.slice a n c) (some (.int .i64 (k : Int))) none none).run Try.prog u = .ok (.slice (if c = k then a else a.map (·.add k)) (n - k) (c - k)) u := by
  have h := run_slice_l (P := Try.prog) u 30 a n c Try.underlying30 .i64 (k : Int) (by omega) (by omega)
  rw [h]
  obtain ⟨i0, hi, hz1⟩ := Option.map_eq_some_iff.1 (show (Try.prog.info? 5).map (·.size) = some 1 from by kernel_rfl)
  have e : Try.prog.elem 30 = 5 := by kernel_rfl
  simp [sizeOf, typeInfo, e, hi, hz1, sliced, Result.andThen]
theorem seg_from {w : World} {a : Option Addr} {n c k : Nat} {zs : List Int} (h : Seg w a zs) (hl : zs.length = n) (hk : k ≤ n) (hc : n ≤ c) : Seg w (if c = k then a else a.map (·.add k)) (zs.drop k) := by
  by_cases e : c = k
  · have : zs.drop k = [] := List.drop_of_length_le (by omega)
    rw [this]
    intro hne
    exact absurd rfl hne
  · rw [if_neg e]
    cases a with
    | none =>
      have := seg_none' h
      subst this
      intro hne
      simp at hne
    | some ad =>
      rw [show (some ad).map (fun x : Addr => x.add k) = some (ad.add k) from rfl]
      intro hne
      have hz : zs ≠ [] := by intro hh; rw [hh] at hne; simp at hne
      obtain ⟨g, o, ha, _⟩ := h hz
      cases ha
      have h9 := seg_drop h k
      rw [addr_add]
      exact h9 hne
end Go.Proofs.Ytdlefmlienfjhaa
