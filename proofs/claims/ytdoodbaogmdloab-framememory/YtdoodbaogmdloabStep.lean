/-
  append and copy on rows of bytes, as one step of a region that draws its order. Nothing is proved of a statement here.
-/
import Derived.Test.YtdoodbaogmdloabCheck
import Derived.Deep.RegionLaw
namespace Go.Proofs.Ytdoodbaogmdloab
open Go.RowKit
set_option linter.unusedVariables false


/-- What a slice of bytes brings to append or copy. -/
theorem src_seg {w : World} {a : Option Addr} {n c : Nat} {zs : List Int} (h : Seg w a zs) (hl : zs.length = n) : Src Try.prog 1 22 (.slice a n c) n (u8s zs) w := by
  by_cases h0 : zs = []
  · subst h0
    obtain rfl : n = 0 := by simpa using hl.symm
    cases a with
    | none => exact Src.ofNil w Try.underlying22 c
    | some ad => exact Src.ofSlice (size := 1) w Try.underlying22 ad 0 c [] (by simp) (by intro j u hj; cases hj) (by intro u hu; cases hu)
  · obtain ⟨b, off, rfl, hc⟩ := h h0
    refine Src.ofSlice (size := 1) w Try.underlying22 ⟨b, off, none⟩ n c (u8s zs) (by simp [hl]) (fun j u hj => ?_) (ints_oneCell _ _)
    have hj' : j < zs.length := by
      rcases Nat.lt_or_ge j zs.length with hh | hh
      · exact hh
      · rw [List.getElem?_eq_none (by simpa using hh)] at hj; cases hj
    rw [addr_add, hc j hj']
    rw [List.getElem?_map, List.getElem?_eq_getElem hj'] at hj
    simp only [Option.map_some, Option.some.injEq] at hj
    rw [← hj, List.getD_eq_getElem?_getD, List.getElem?_eq_getElem hj']; rfl

theorem row_append {w : World} {d : Sv} {zs ys : List Int} {x : Value} {m : Nat} {ty : TypeId} (h : Row w d zs) (hs : Src Try.prog 1 22 x m (u8s ys) w) (hn : d.n + m ≤ 1000000) :
    ∃ d' w', (Builtin.append_ #[22, 22] ty #[.slice d.a d.n d.c, x]).run Try.prog w = .ok (.slice d'.a d'.n d'.c) w' ∧ Row w' d' (zs ++ ys) ∧ Keep (fun b => blk d.a = some b) w w' ∧ (blk d'.a = blk d.a ∨ blk d'.a = some w.heap.size) := by
  obtain ⟨i0, hi, hz0, hz1, hz2⟩ := info_parts info5
  obtain ⟨a', c', w', h1, h2, h3, h4⟩ := sub_append (P := Try.prog) (ty := ty) Try.underlying22 hi hz0 hz1 hz2 rfl h hs (by unfold maxLen; omega) (by omega)
  exact ⟨⟨a', d.n + m, c'⟩, w', h1, by show Sub _ _ _ _ _ _ (u8s _); rw [show u8s (zs ++ ys) = u8s zs ++ u8s ys from List.map_append]; exact h2, h3, h4⟩

theorem zeros_u8 (m : Nat) : (Builtin.zeroCells (Value.int .u8 0).cells m).toList = u8s (List.replicate m 0) := by
  have := toList_madeCells_one
  apply List.ext_getElem?
  intro j
  by_cases hj : j < m
  · simp [Builtin.zeroCells, Value.cells, hj, Nat.mod_one]
  · rw [List.getElem?_eq_none (by simp [Builtin.zeroCells, Value.cells]; omega), List.getElem?_eq_none (by simp; omega)]

/-- .. of zeros. -/
theorem row_zeros {w : World} {d : Sv} {zs : List Int} {m : Nat} {ty : TypeId} (h : Row w d zs) (hm : 0 < m) (hn : d.n + m ≤ 1000000) :
    ∃ d' w', (Builtin.append_ #[22, 3] ty #[.slice d.a d.n d.c, .int .i64 m]).run Try.prog w = .ok (.slice d'.a d'.n d'.c) w' ∧ Row w' d' (zs ++ List.replicate m 0) ∧ Keep (fun b => blk d.a = some b) w w' ∧ (blk d'.a = blk d.a ∨ blk d'.a = some w.heap.size) := by
  obtain ⟨i0, hi, hz0, hz1, hz2⟩ := info_parts info5
  have ho : ∀ v ∈ (Value.int .u8 0).cells.toList, v.oneCell' = true := by
    intro v hv; simp [Value.cells] at hv; rw [hv]; rfl
  obtain ⟨a', c', w', h1, h2, h3, h4⟩ := sub_append_zeros (P := Try.prog) (ty := ty) (kq := .i64) Try.underlying22 Try.underlying3 hi hz0 hz1 hz2 rfl (by omega) ho h (m := m) hm (by unfold maxLen; omega) (by omega)
  refine ⟨⟨a', d.n + m, c'⟩, w', h1, ?_, h3, h4⟩
  show Sub _ _ _ _ _ _ (u8s _)
  rw [show u8s (zs ++ List.replicate m 0) = u8s zs ++ u8s (List.replicate m 0) from List.map_append, ← zeros_u8]; exact h2

section
variable {ops : Array Oper} {rest : List Oper} {o : Oper} {a : Act} {w : World} {K : Act → World → Prop} {R : Exit → Act → World → Prop} {E : Prop}

/-- append and copy by their run's equation, as one step of a region that draws. -/
theorem step_append (hg : o.guard = none) (s x : Operand) (t1 t2 : TypeId) (hop : o.op = Op.call { callee := Callee.builtin Builtin.append, args := #[s, x], argTypes := #[t1, t2] })
    {sv xv v : Value} {w2 : World} (hs : a.eval s = sv) (hx : a.eval x = xv) (hr : (Builtin.append_ #[t1, t2] o.type #[sv, xv]).run Try.prog w = .ok v w2) (hK : K (a.put o.dst v) w2) :
    if Region.wanted o (yielded ops a.tmps) = true then Oper.wp Try.prog o a w K R else E := by
  have hw : Region.wanted o (yielded ops a.tmps) = true := by simp [Region.wanted, hg]
  rw [if_pos hw]
  unfold Oper.wp
  simp [execOp, hop, resolve, invoke, builtin, hs, hx, hr, Result.andThen]
  exact hK
theorem step_copy (hg : o.guard = none) (s x : Operand) (t1 t2 : TypeId) (hop : o.op = Op.call { callee := Callee.builtin Builtin.copy, args := #[s, x], argTypes := #[t1, t2] })
    {sv xv v : Value} {w2 : World} (hs : a.eval s = sv) (hx : a.eval x = xv) (hr : (Builtin.copy_ #[t1, t2] o.type #[sv, xv]).run Try.prog w = .ok v w2) (hK : K (a.put o.dst v) w2) :
    if Region.wanted o (yielded ops a.tmps) = true then Oper.wp Try.prog o a w K R else E := by
  have hw : Region.wanted o (yielded ops a.tmps) = true := by simp [Region.wanted, hg]
  rw [if_pos hw]
  unfold Oper.wp
  simp [execOp, hop, resolve, invoke, builtin, hs, hx, hr, Result.andThen]
  exact hK

theorem copy_run1 (w : World) (ty : TypeId) (D n : Nat) (ad : Addr) (sLen sCap : Nat) (cs : List Value) (hcur : w.heap[D]? = some (.cells (u8s (List.replicate n 0)).toArray 5 (0, 0)))
    (hl : cs.length = n) (hm : n ≤ sLen) (hsrc : ∀ j v, cs[j]? = some v → w.cell? (ad.add j) = some v) (h1 : ∀ v ∈ cs, v.oneCell' = true) :
    (Builtin.copy_ #[22, 22] ty #[.slice (some ⟨D, 0, none⟩) n n, .slice (some ad) sLen sCap]).run Try.prog w = .ok (goInt (n : Int)) (w.setRow D cs.toArray) := by
  obtain ⟨i0, hi, hz0, hz1, hz2⟩ := info_parts info5
  have hf := run_firstCells_some (P := Try.prog) w 1 n ad sLen sCap cs (by omega) hsrc
  have hst := run_storeCells_at Try.prog D 0 5 cs 0 _ w hcur (by simp; omega) h1
  have e : min sLen n = n := Nat.min_eq_right hm
  have e2 : List.drop cs.length (u8s (List.replicate n 0)) = [] := List.drop_of_length_le (by simp; omega)
  simp only [Nat.add_zero, Nat.zero_add, List.take_zero, List.nil_append, e2, List.append_nil] at hst
  simp [Builtin.copy_, run_underlying Try.underlying22, Builtin.lenOf, sizeOf, typeInfo, hi, hz1, e, hf, hst]

theorem row_copy (w : World) (ty : TypeId) (D n : Nat) (ad : Addr) (sLen sCap : Nat) (hcur : w.heap[D]? = some (.cells (u8s (List.replicate n 0)).toArray 5 (0, 0))) (zs : List Int)
    (hl : zs.length = n) (hm : n ≤ sLen) (hmax : n ≤ maxLen) (hsrc : ∀ j v, (u8s zs)[j]? = some v → w.cell? (ad.add j) = some v) :
    ∃ w2, (Builtin.copy_ #[22, 22] ty #[.slice (some ⟨D, 0, none⟩) n n, .slice (some ad) sLen sCap]).run Try.prog w = .ok (goInt (n : Int)) w2 ∧ Keep (fun k => k = D) w w2 ∧ Row w2 ⟨some ⟨D, 0, none⟩, n, n⟩ zs := by
  have hk := keep_row hcur (u8s zs)
  exact ⟨_, copy_run1 w ty D n ad sLen sCap (u8s zs) hcur (by simp [hl]) hm hsrc (ints_oneCell _ _), hk.1, ⟨by simp [hl], .inr ⟨D, 0, _, rfl, hk.2, Nat.le_refl _, hmax, by simp [hl], fun j hj => by simp⟩⟩⟩
end
end Go.Proofs.Ytdoodbaogmdloab
