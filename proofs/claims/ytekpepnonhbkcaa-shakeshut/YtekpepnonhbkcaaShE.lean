/-
  What slices.Clone does on bytes and on strings: contracts that the statements' walks use.
-/
import Derived.Test.YtekpepnonhbkcaaShD
namespace Go.Proofs.Ytekpepnonhbkcaa
open Go.RowKit
set_option linter.unusedVariables false
set_option maxRecDepth 20000

theorem row_empty (w : World) : Row (w.alloc (.cells #[] 5)) ⟨some ⟨w.heap.size, 0, none⟩, 0, 0⟩ [] :=
  ⟨by simp, .inr ⟨w.heap.size, 0, #[], rfl, heap_alloc_new w _, Nat.le_refl _, Nat.zero_le _, by simp, fun j hj => by simp at hj⟩⟩
theorem seg_none {w : World} {zs : List Int} (h : Seg w none zs) : zs = [] := by
  by_cases hz : zs = []
  · exact hz
  · obtain ⟨b, o, e, _⟩ := h hz
    cases e
theorem eq_nil (n c : Nat) (w : World) : (binOp .eql 24 (.slice none n c) (.slice none 0 0)).run Try.prog w = .ok (.bool true) w := by kernel_rfl
theorem eq_some (ad : Addr) (n c : Nat) (w : World) : (binOp .eql 24 (.slice (some ad) n c) (.slice none 0 0)).run Try.prog w = .ok (.bool false) w := by kernel_rfl
theorem eq_nilT (n c : Nat) (w : World) : (binOp .eql 23 (.slice none n c) (.slice none 0 0)).run Try.prog w = .ok (.bool true) w := by kernel_rfl
theorem eq_someT (ad : Addr) (n c : Nat) (w : World) : (binOp .eql 23 (.slice (some ad) n c) (.slice none 0 0)).run Try.prog w = .ok (.bool false) w := by kernel_rfl
attribute [local go_sem] eq_nil eq_some eq_nilT eq_someT
set_option maxHeartbeats 4000000 in
theorem clone_any (x : Sv) (zs : List Int) (w : World) (hs : Seg w x.a zs) (hl : zs.length = x.n) (bx : x.n ≤ 900000) :
    Calls Try.prog 23 #[.slice x.a x.n x.c] w fun e w' => ∃ y : Sv, e = .returned (.slice y.a y.n y.c) ∧ Q w w' ∧ Row w' y zs ∧ New w.heap.size y := by
  obtain ⟨xa, xn, xc⟩ := x
  have HX := hid hs
  have HL := hid (show zs.length = xn from hl)
  dsimp only at *
  clear hs hl
  cases xa with
  | none =>
    have hz := seg_none HX.out
    subst hz
    go_enter Try.func23, Try.ntmps23
    go_wp2
    go_ret
    exact ⟨nilS, rfl, Q.refl _, sub_nil _ _ _, new_nil _⟩
  | some ad =>
    go_enter Try.func23, Try.ntmps23
    obtain ⟨⟨ya, yn, yc⟩, w2, hrun, hrow, hkp, hb⟩ := row_append (ty := 24) (x := .slice (some ad) xn xc) (m := xn) (ys := zs) (row_empty w) (src_seg (HX.out.q ((Q.refl w).alloc _)) HL.out) (by show 0 + xn ≤ 1000000; omega)
    have HK := hid hkp
    have HB := hid hb
    have HR := hid hrow
    clear hkp hb hrow
    dsimp only at hrun
    go_wp2_with (at_builtin; refine Lib.wpList_append_run _ rfl _ _ _ _ rfl _ _ rfl rfl _ _ hrun ?_)
    go_ret
    refine ⟨⟨ya, yn, yc⟩, rfl, ?_, HR.out, ?_⟩
    · exact HK.out.below ((Q.refl w).alloc _) (by simp) (fun i e => by simp [blk] at e; omega)
    · intro b e
      rcases HB.out with h | h
      · rw [h] at e; simp [blk] at e; omega
      · rw [h] at e; simp at e; omega
/-- A row of strings of the call's own. -/
abbrev tvs (ss : List ByteArray) : List Value := ss.map .string
abbrev RowT (w : World) (d : Sv) (ss : List ByteArray) : Prop := Sub w 9 1 d.a d.n d.c (tvs ss)
theorem RowT.len {w : World} {d : Sv} {ss : List ByteArray} (h : RowT w d ss) : ss.length = d.n := by
  have := Sub.len h
  simpa using this
theorem RowT.seg {w : World} {d : Sv} {ss : List ByteArray} (h : RowT w d ss) : SegT w d.a ss := by
  intro hne
  have hn : 0 < d.n := by
    have := RowT.len h
    have := List.length_pos_iff.2 hne
    omega
  obtain ⟨g, off, e, _, hc⟩ := Sub.some_ h hn
  refine ⟨g, off, e, fun i hi => hc i _ ?_⟩
  rw [List.getElem?_map, List.getElem?_eq_getElem hi, List.getD_eq_getElem?_getD, List.getElem?_eq_getElem hi]
  rfl
theorem tvs_oneCell (ss : List ByteArray) : ∀ u ∈ tvs ss, u.oneCell' = true := by
  intro u hu
  obtain ⟨s, _, rfl⟩ := List.mem_map.1 hu
  rfl
theorem src_segT {w : World} {a : Option Addr} {n c : Nat} {ss : List ByteArray} (h : SegT w a ss) (hl : ss.length = n) : Src Try.prog 1 23 (.slice a n c) n (tvs ss) w := by
  by_cases h0 : ss = []
  · subst h0
    obtain rfl : n = 0 := by simpa using hl.symm
    cases a with
    | none => exact Src.ofNil w Try.underlying23 c
    | some ad => exact Src.ofSlice (size := 1) w Try.underlying23 ad 0 c [] (by simp) (by intro j u hj; cases hj) (by intro u hu; cases hu)
  · obtain ⟨b, off, rfl, hc⟩ := h h0
    refine Src.ofSlice (size := 1) w Try.underlying23 ⟨b, off, none⟩ n c (tvs ss) (by simp [hl]) (fun j u hj => ?_) (tvs_oneCell _)
    have hj' : j < ss.length := by
      rcases Nat.lt_or_ge j ss.length with hh | hh
      · exact hh
      · rw [List.getElem?_eq_none (by simpa using hh)] at hj; cases hj
    rw [addr_add, hc j hj']
    rw [List.getElem?_map, List.getElem?_eq_getElem hj'] at hj
    simp only [Option.map_some, Option.some.injEq] at hj
    rw [← hj, List.getD_eq_getElem?_getD, List.getElem?_eq_getElem hj']; rfl
theorem info9 : (Try.prog.info? 9).map (fun i => (i.zero, i.size, i.bytes)) = some (some (.string ByteArray.empty), 1, 16) := by kernel_rfl
theorem rowT_append {w : World} {d : Sv} {zs ys : List ByteArray} {x : Value} {m : Nat} {ty : TypeId} (h : RowT w d zs) (hs : Src Try.prog 1 23 x m (tvs ys) w) (hn : d.n + m ≤ 1000000) :
    ∃ d' w', (Builtin.append_ #[23, 23] ty #[.slice d.a d.n d.c, x]).run Try.prog w = .ok (.slice d'.a d'.n d'.c) w' ∧ RowT w' d' (zs ++ ys) ∧ Keep (fun b => blk d.a = some b) w w' ∧ (blk d'.a = blk d.a ∨ blk d'.a = some w.heap.size) := by
  obtain ⟨i0, hi, hz0, hz1, hz2⟩ := info_parts info9
  obtain ⟨a', c', w', h1, h2, h3, h4⟩ := sub_append (P := Try.prog) (ty := ty) Try.underlying23 hi hz0 hz1 hz2 rfl h hs (by unfold maxLen; omega) (by omega)
  exact ⟨⟨a', d.n + m, c'⟩, w', h1, by show Sub _ _ _ _ _ _ (tvs _); rw [show tvs (zs ++ ys) = tvs zs ++ tvs ys from List.map_append]; exact h2, h3, h4⟩
theorem rowT_empty (w : World) : RowT (w.alloc (.cells #[] 9)) ⟨some ⟨w.heap.size, 0, none⟩, 0, 0⟩ [] :=
  ⟨by simp, .inr ⟨w.heap.size, 0, #[], rfl, heap_alloc_new w _, Nat.le_refl _, Nat.zero_le _, by simp, fun j hj => by simp at hj⟩⟩
theorem segT_none {w : World} {ss : List ByteArray} (h : SegT w none ss) : ss = [] := by
  by_cases hz : ss = []
  · exact hz
  · obtain ⟨b, o, e, _⟩ := h hz
    cases e
set_option maxHeartbeats 4000000 in
theorem clones_any (x : Sv) (ss : List ByteArray) (w : World) (hs : SegT w x.a ss) (hl : ss.length = x.n) (bx : x.n ≤ 900000) :
    Calls Try.prog 22 #[.slice x.a x.n x.c] w fun e w' => ∃ y : Sv, e = .returned (.slice y.a y.n y.c) ∧ Q w w' ∧ RowT w' y ss ∧ New w.heap.size y := by
  obtain ⟨xa, xn, xc⟩ := x
  have HX := hid hs
  have HL := hid (show ss.length = xn from hl)
  dsimp only at *
  clear hs hl
  cases xa with
  | none =>
    have hz := segT_none HX.out
    subst hz
    go_enter Try.func22, Try.ntmps22
    go_wp2
    go_ret
    exact ⟨nilS, rfl, Q.refl _, sub_nil _ _ _, new_nil _⟩
  | some ad =>
    go_enter Try.func22, Try.ntmps22
    obtain ⟨⟨ya, yn, yc⟩, w2, hrun, hrow, hkp, hb⟩ := rowT_append (ty := 23) (x := .slice (some ad) xn xc) (m := xn) (ys := ss) (rowT_empty w) (src_segT (HX.out.q ((Q.refl w).alloc _)) HL.out) (by show 0 + xn ≤ 1000000; omega)
    have HK := hid hkp
    have HB := hid hb
    have HR := hid hrow
    clear hkp hb hrow
    dsimp only at hrun
    go_wp2_with (at_builtin; refine Lib.wpList_append_run _ rfl _ _ _ _ rfl _ _ rfl rfl _ _ hrun ?_)
    go_ret
    refine ⟨⟨ya, yn, yc⟩, rfl, ?_, HR.out, ?_⟩
    · exact HK.out.below ((Q.refl w).alloc _) (by simp) (fun i e => by simp [blk] at e; omega)
    · intro b e
      rcases HB.out with h | h
      · rw [h] at e; simp [blk] at e; omega
      · rw [h] at e; simp at e; omega
end Go.Proofs.Ytekpepnonhbkcaa
