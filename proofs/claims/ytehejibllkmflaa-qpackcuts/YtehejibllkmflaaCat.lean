/-
  Rows of bytes that grow: what append brings. Nothing is proved of a statement here.
-/
import Derived.Test.YtehejibllkmflaaMem
import Derived.Lib.BytesEntry
import Derived.Deep.RegionLaw
namespace Go.Proofs.Ytehejibllkmflaa
open Go.RowKit
set_option linter.unusedVariables false
set_option maxRecDepth 20000

/-- What a slice of bytes brings to append or copy. -/
theorem src_seg {w : World} {a : Option Addr} {n c : Nat} {zs : List Int} (h : Seg w a zs) (hl : zs.length = n) : Src Try.prog 1 30 (.slice a n c) n (u8s zs) w := by
  by_cases h0 : zs = []
  · subst h0
    obtain rfl : n = 0 := by simpa using hl.symm
    cases a with
    | none => exact Src.ofNil w Try.underlying30 c
    | some ad => exact Src.ofSlice (size := 1) w Try.underlying30 ad 0 c [] (by simp) (by intro j u hj; cases hj) (by intro u hu; cases hu)
  · obtain ⟨b, off, rfl, hc⟩ := h h0
    refine Src.ofSlice (size := 1) w Try.underlying30 ⟨b, off, none⟩ n c (u8s zs) (by simp [hl]) (fun j u hj => ?_) (ints_oneCell _ _)
    have hj' : j < zs.length := by
      rcases Nat.lt_or_ge j zs.length with hh | hh
      · exact hh
      · rw [List.getElem?_eq_none (by simpa using hh)] at hj; cases hj
    rw [addr_add, hc j hj']
    rw [List.getElem?_map, List.getElem?_eq_getElem hj'] at hj
    simp only [Option.map_some, Option.some.injEq] at hj
    rw [← hj, List.getD_eq_getElem?_getD, List.getElem?_eq_getElem hj']; rfl

theorem row_append {w : World} {d : Sv} {zs ys : List Int} {x : Value} {m : Nat} {ty : TypeId} (h : Row w d zs) (hs : Src Try.prog 1 30 x m (u8s ys) w) (hn : d.n + m ≤ 10000000) :
    ∃ d' w', (Builtin.append_ #[30, 30] ty #[.slice d.a d.n d.c, x]).run Try.prog w = .ok (.slice d'.a d'.n d'.c) w' ∧ Row w' d' (zs ++ ys) ∧ Keep (fun b => blk d.a = some b) w w' ∧ (blk d'.a = blk d.a ∨ blk d'.a = some w.heap.size) := by
  obtain ⟨i0, hi, hz0, hz1, hz2⟩ := info_parts info5
  obtain ⟨a', c', w', h1, h2, h3, h4⟩ := sub_append (P := Try.prog) (ty := ty) Try.underlying30 hi hz0 hz1 hz2 rfl h hs (by unfold maxLen; omega) (by omega)
  exact ⟨⟨a', d.n + m, c'⟩, w', h1, by show Sub _ _ _ _ _ _ (u8s _); rw [show u8s (zs ++ ys) = u8s zs ++ u8s ys from List.map_append]; exact h2, h3, h4⟩

theorem zeros_u8 (m : Nat) : (Builtin.zeroCells (Value.int .u8 0).cells m).toList = u8s (List.replicate m 0) := by
  have := toList_madeCells_one
  apply List.ext_getElem?
  intro j
  by_cases hj : j < m
  · simp [Builtin.zeroCells, Value.cells, hj, Nat.mod_one]
  · rw [List.getElem?_eq_none (by simp [Builtin.zeroCells, Value.cells]; omega), List.getElem?_eq_none (by simp; omega)]

/-- .. of zeros. -/
theorem row_zeros {w : World} {d : Sv} {zs : List Int} {m : Nat} {ty : TypeId} (h : Row w d zs) (hm : 0 < m) (hn : d.n + m ≤ 10000000) :
    ∃ d' w', (Builtin.append_ #[30, 3] ty #[.slice d.a d.n d.c, .int .i64 m]).run Try.prog w = .ok (.slice d'.a d'.n d'.c) w' ∧ Row w' d' (zs ++ List.replicate m 0) ∧ Keep (fun b => blk d.a = some b) w w' ∧ (blk d'.a = blk d.a ∨ blk d'.a = some w.heap.size) := by
  obtain ⟨i0, hi, hz0, hz1, hz2⟩ := info_parts info5
  have ho : ∀ v ∈ (Value.int .u8 0).cells.toList, v.oneCell' = true := by
    intro v hv; simp [Value.cells] at hv; rw [hv]; rfl
  obtain ⟨a', c', w', h1, h2, h3, h4⟩ := sub_append_zeros (P := Try.prog) (ty := ty) (kq := .i64) Try.underlying30 Try.underlying3 hi hz0 hz1 hz2 rfl (by omega) ho h (m := m) hm (by unfold maxLen; omega) (by omega)
  refine ⟨⟨a', d.n + m, c'⟩, w', h1, ?_, h3, h4⟩
  show Sub _ _ _ _ _ _ (u8s _)
  rw [show u8s (zs ++ List.replicate m 0) = u8s zs ++ u8s (List.replicate m 0) from List.map_append, ← zeros_u8]; exact h2

theorem new_step {B : Nat} {w wr w' : World} {x y : Sv} (hB : B = w.heap.size) (hq : Q w wr) (hx : New B x) (k : Keep (fun b => blk x.a = some b) wr w') (h : blk y.a = blk x.a ∨ blk y.a = some wr.heap.size) : Q w w' ∧ New B y := by
  subst hB
  refine ⟨k.below hq hq.size (fun i hi => hx i hi), fun b hb => ?_⟩
  rcases h with h | h
  · exact hx b (by rw [← h]; exact hb)
  · rw [h] at hb; cases hb; exact hq.size

/-- The first j pieces one behind the other. -/
def cat (Z : Nat → List Int) : Nat → List Int
  | 0 => []
  | j + 1 => cat Z j ++ Z j

theorem cat_le {Z : Nat → List Int} {m : Nat} : ∀ {j : Nat}, j ≤ m → (cat Z j).length ≤ (cat Z m).length := by
  intro j hj
  induction m with
  | zero => obtain rfl : j = 0 := by omega
            exact Nat.le_refl _
  | succ m ih =>
    rcases Nat.lt_or_ge j (m + 1) with h | h
    · have := ih (by omega); simp only [cat, List.length_append]; omega
    · obtain rfl : j = m + 1 := by omega
      exact Nat.le_refl _


theorem row_cut {w : World} {x : Sv} {zs : List Int} (h : Row w x zs) : Row w ⟨x.a, 0, x.c⟩ [] := by
  refine ⟨by simp, ?_⟩
  rcases h.2 with ⟨h1, h2, h3⟩ | ⟨g, off, cur, ha, hg, h1, h2, h3, h4⟩
  · exact .inl ⟨h1, rfl, h3⟩
  · exact .inr ⟨g, off, cur, ha, hg, Nat.zero_le _, h2, h3, fun j hj => by simp at hj⟩
theorem app_one {w : World} {t e : TypeId} {z v : Value} {a : Option Addr} {n cap by_ : Nat} {vs : List Value} {i0 : TypeInfo} (ht : Try.prog.underlying t = some (.slice e)) (hi : Try.prog.info? e = some i0) (hz0 : i0.zero = some z) (hz1 : i0.size = 1) (hz2 : i0.bytes = by_) (hby : by_ ≤ 8) (hzs : z.cells.size = 1) (hv : v.oneCell' = true)
    (hs : Sub w e 1 a n cap vs) (hn : n ≤ 1099511627776) :
    ∃ a' cap' w', (Builtin.append_ #[t, t] t #[.slice a n cap, .slice (some ⟨w.heap.size, 0, none⟩) 1 1]).run Try.prog (w.alloc (.cells #[v] e)) = .ok (.slice a' (n + 1) cap') w' ∧ Sub w' e 1 a' (n + 1) cap' (vs ++ [v]) ∧ Keep (fun b => blk a = some b) w w' ∧ (∀ b, blk a' = some b → blk a = some b ∨ w.heap.size ≤ b) := by
  have hq : Q w (w.alloc (.cells #[v] e)) := (Q.refl w).alloc _
  have hg : (w.alloc (.cells #[v] e)).heap[w.heap.size]? = some (.cells #[v] e (0, 0)) := heap_alloc_new w _
  have hsrc : ∀ j u, [v][j]? = some u → (w.alloc (.cells #[v] e)).cell? ((⟨w.heap.size, 0, none⟩ : Addr).add j) = some u := by
    intro j u hj
    rw [addr_add, cell_of_row _ _ _ _ e (0, 0) hg, Nat.zero_add]
    simpa using hj
  have hmul : (n + 1 + (n + 1) / 4 + 192) * by_ ≤ 281474976710656 := Nat.le_trans (Nat.mul_le_mul_left _ hby) (by omega)
  obtain ⟨a', cap', w', hr, h1, h2, h3⟩ := sub_append (P := Try.prog) (ty := t) ht hi hz0 hz1 hz2 hzs (hs.q hq) (Src.ofSlice _ ht ⟨w.heap.size, 0, none⟩ 1 1 [v] (by simp) hsrc (by intro u hu; rw [List.mem_singleton.1 hu]; exact hv)) (by unfold maxLen; omega) hmul
  refine ⟨a', cap', w', hr, h1, (Keep.ofQ hq).trans h2, fun b hb => ?_⟩
  rcases h3 with h | h
  · exact .inl (by rw [← h]; exact hb)
  · rw [h] at hb
    simp at hb
    right
    have := hq.size
    omega
theorem row_one {w : World} {d : Sv} {zs : List Int} (v : Int) (h : Row w d zs) (hn : d.n ≤ 1099511627776) :
    ∃ d' w', (Builtin.append_ #[30, 30] 30 #[.slice d.a d.n d.c, .slice (some ⟨w.heap.size, 0, none⟩) 1 1]).run Try.prog (w.alloc (.cells #[.int .u8 v] 5)) = .ok (.slice d'.a d'.n d'.c) w' ∧ Row w' d' (zs ++ [v]) ∧ Keep (fun b => blk d.a = some b) w w' ∧ (∀ b, blk d'.a = some b → blk d.a = some b ∨ w.heap.size ≤ b) := by
  obtain ⟨i0, hi, hz0, hz1, hz2⟩ := info_parts info5
  obtain ⟨a', c', w', h1, h2, h3, h4⟩ := app_one (v := .int .u8 v) Try.underlying30 hi hz0 hz1 hz2 (by omega) rfl rfl h hn
  exact ⟨⟨a', d.n + 1, c'⟩, w', h1, by show Sub _ _ _ _ _ _ (u8s _); rw [show u8s (zs ++ [v]) = u8s zs ++ [.int .u8 v] from List.map_append]; exact h2, h3, h4⟩

structure In (w : World) (x : Sv) (zs : List Int) : Prop where
  s : Seg w x.a zs
  l : zs.length = x.n
  z : ∀ y ∈ zs, 0 ≤ y ∧ y < 256
theorem In.q {w w' : World} {x : Sv} {zs : List Int} (h : In w x zs) (k : Q w w') : In w' x zs := ⟨h.s.q k, h.l, h.z⟩

end Go.Proofs.Ytehejibllkmflaa
