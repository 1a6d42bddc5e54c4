/-
  append of one packet, of one span, of one number to a row of the program's own, also as one step of a region that draws its order. Nothing is proved of a statement here.
-/
import Derived.Test.YtjhihcmemnhbbaaUnd
import Derived.Deep.RegionLaw
import Derived.BigRegion
namespace Go.Proofs.Ytjhihcmemnhbbaa
open Go.RowKit
set_option linter.unusedVariables false
set_option maxRecDepth 20000

/-- append of one struct out of a new block of its own. -/
theorem app_st {w : World} {t e : TypeId} {z : Value} {cs : Array Value} {a : Option Addr} {n cap by_ size : Nat} {vs : List Value} {i0 : TypeInfo} (ht : Try.prog.underlying t = some (.slice e)) (hi : Try.prog.info? e = some i0) (hz0 : i0.zero = some z) (hz1 : i0.size = size) (hz2 : i0.bytes = by_) (hby : by_ ≤ 32) (hzs : z.cells.size = size) (hc : cs.size = size) (hv : ∀ v ∈ cs.toList, v.oneCell' = true)
    (hs : Sub w e size a n cap vs) (hn : n ≤ 4398046511104) :
    ∃ a' cap' w', (Builtin.append_ #[t, t] t #[.slice a n cap, .slice (some ⟨w.heap.size, 0, none⟩) 1 1]).run Try.prog (w.alloc (.cells cs e)) = .ok (.slice a' (n + 1) cap') w' ∧ Sub w' e size a' (n + 1) cap' (vs ++ cs.toList) ∧ Keep (fun b => blk a = some b) w w' ∧ (∀ b, blk a' = some b → blk a = some b ∨ w.heap.size ≤ b) := by
  have hq : Q w (w.alloc (.cells cs e)) := (Q.refl w).alloc _
  have hg : (w.alloc (.cells cs e)).heap[w.heap.size]? = some (.cells cs e (0, 0)) := heap_alloc_new w _
  have hsrc : ∀ j u, cs.toList[j]? = some u → (w.alloc (.cells cs e)).cell? ((⟨w.heap.size, 0, none⟩ : Addr).add j) = some u := by
    intro j u hj
    rw [addr_add, cell_of_row _ _ _ _ e (0, 0) hg, Nat.zero_add]
    simpa using hj
  have hmul : (n + 1 + (n + 1) / 4 + 192) * by_ ≤ 281474976710656 := Nat.le_trans (Nat.mul_le_mul_left _ hby) (by omega)
  obtain ⟨a', cap', w', hr, h1, h2, h3⟩ := sub_append (P := Try.prog) (ty := t) ht hi hz0 hz1 hz2 hzs (hs.q hq) (Src.ofSlice _ ht ⟨w.heap.size, 0, none⟩ 1 1 cs.toList (by simp [hc]) hsrc hv) (by unfold maxLen; omega) hmul
  refine ⟨a', cap', w', hr, h1, (Keep.ofQ hq).trans h2, fun b hb => ?_⟩
  rcases h3 with h | h
  · exact .inl (by rw [← h]; exact hb)
  · rw [h] at hb
    simp at hb
    right
    have := hq.size
    omega
theorem rowP_one {w : World} {d : Sv} {l : List Pk} (p : Pk) (h : RowP w d l) (hn : d.n ≤ 4398046511104) :
    ∃ d' w', (Builtin.append_ #[59, 59] 59 #[.slice d.a d.n d.c, .slice (some ⟨w.heap.size, 0, none⟩) 1 1]).run Try.prog (w.alloc (.cells #[.int .i64 p.n, .int .i64 p.s, .int .i64 p.a, .bool p.e] 73)) = .ok (.slice d'.a d'.n d'.c) w' ∧ RowP w' d' (l ++ [p]) ∧ Keep (fun b => blk d.a = some b) w w' ∧ (∀ b, blk d'.a = some b → blk d.a = some b ∨ w.heap.size ≤ b) := by
  obtain ⟨i0, hi, hz0, hz1, hz2⟩ := info_parts info73
  obtain ⟨a', c', w', h1, h2, h3, h4⟩ := app_st (cs := #[.int .i64 p.n, .int .i64 p.s, .int .i64 p.a, .bool p.e]) Try.underlying59 hi hz0 hz1 hz2 (by omega) rfl rfl (pcl_one p) h hn
  exact ⟨⟨a', d.n + 1, c'⟩, w', h1, by show Sub _ _ _ _ _ _ (flt pcl _); rw [flt_append]; exact h2, h3, h4⟩
theorem rowS_one {w : World} {d : Sv} {l : List Spn} (p : Spn) (h : RowS w d l) (hn : d.n ≤ 4398046511104) :
    ∃ d' w', (Builtin.append_ #[38, 38] 38 #[.slice d.a d.n d.c, .slice (some ⟨w.heap.size, 0, none⟩) 1 1]).run Try.prog (w.alloc (.cells #[.int .i64 p.1, .int .i64 p.2] 57)) = .ok (.slice d'.a d'.n d'.c) w' ∧ RowS w' d' (l ++ [p]) ∧ Keep (fun b => blk d.a = some b) w w' ∧ (∀ b, blk d'.a = some b → blk d.a = some b ∨ w.heap.size ≤ b) := by
  obtain ⟨i0, hi, hz0, hz1, hz2⟩ := info_parts info57
  obtain ⟨a', c', w', h1, h2, h3, h4⟩ := app_st (cs := #[.int .i64 p.1, .int .i64 p.2]) Try.underlying38 hi hz0 hz1 hz2 (by omega) rfl rfl (scl_one p) h hn
  exact ⟨⟨a', d.n + 1, c'⟩, w', h1, by show Sub _ _ _ _ _ _ (flt scl _); rw [flt_append]; exact h2, h3, h4⟩

section
variable {ops : Array Oper} {rest : List Oper} {o : Oper} {a : Act} {w : World} {K : Act → World → Prop} {R : Exit → Act → World → Prop} {E : Prop}
/-- append by its run's equation, as one step of a region that draws. -/
theorem step_append (hg : o.guard = none) (s x : Operand) (t1 t2 : TypeId) (hop : o.op = Op.call { callee := Callee.builtin Builtin.append, args := #[s, x], argTypes := #[t1, t2] })
    {sv xv v : Value} {w2 : World} (hs : a.eval s = sv) (hx : a.eval x = xv) (hr : (Builtin.append_ #[t1, t2] o.type #[sv, xv]).run Try.prog w = .ok v w2) (hK : K (a.put o.dst v) w2) :
    if Region.wanted o (yielded ops a.tmps) = true then Oper.wp Try.prog o a w K R else E := by
  have hw : Region.wanted o (yielded ops a.tmps) = true := by simp [Region.wanted, hg]
  rw [if_pos hw]
  unfold Oper.wp
  simp [execOp, hop, resolve, invoke, builtin, hs, hx, hr, Result.andThen]
  exact hK
end

/-- Setting the last span's end. -/
theorem sent_last {w : World} {d : Sv} {l : List Spn} (h : RowS w d l) (hn : 0 < d.n) {g o : Nat} (ha : d.a = some ⟨g, o, none⟩) (q : Int) :
    RowS (w.setCell ⟨g, o + (d.n - 1) * 2 + 1, none⟩ (.int .i64 q)) d (l.dropLast ++ [((l.getLast?.getD (0, 0)).1, q)]) := by
  have h1 := Sub.set h ha (j := (d.n - 1) * 2 + 1) (by omega) (.int .i64 q)
  rw [← Nat.add_assoc] at h1
  have hl := h.len
  show Sub _ _ _ _ _ _ (flt scl _)
  have e : (flt scl l).set ((d.n - 1) * 2 + 1) (.int .i64 q) = flt scl (l.dropLast ++ [((l.getLast?.getD (0, 0)).1, q)]) := by
    have hne : l ≠ [] := by intro e; rw [e] at hl; simp at hl; omega
    have e1 : l = l.dropLast ++ [l.getLast?.getD (0, 0)] := by
      rw [List.getLast?_eq_some_getLast hne, Option.getD_some]; exact (List.dropLast_concat_getLast hne).symm
    have hd : l.dropLast.length = d.n - 1 := by simp [hl]
    generalize l.dropLast = y at *
    generalize l.getLast?.getD (0, 0) = x at *
    subst e1
    rw [flt_append, flt_append, List.set_append_right _ _ (by rw [flt_len scl_len, hd]; omega), flt_len scl_len, hd, show (d.n - 1) * 2 + 1 - (d.n - 1) * 2 = 1 by omega]
    rfl
  rw [← e]
  exact h1
end Go.Proofs.Ytjhihcmemnhbbaa
