/-
  The builtins append, copy and clear on a row of spans of the program's own: what they leave, for the walks of the library's slices.Clone, Delete, Insert and Replace. Nothing is proved of a statement here.
-/
import Derived.Test.YtmcemfjnenfcaaaBase
import Derived.Deep.RegionLaw
import Derived.Lib.AppendZerosOnto
import Derived.Lib.Overlaps
namespace Go.Proofs.Ytmcemfjnenfcaaa
open Go.RowKit
set_option linter.unusedVariables false

theorem Keep.ofDrew {F : Nat → Prop} {a b : World} (h : Keep F a.drew b) : Keep F a b := ⟨h.os, h.tape, h.output, h.size, h.block⟩
theorem Keep.ofDrewN {F : Nat → Prop} {a b : World} {n : Nat} (h : Keep F (a.drewN n) b) : Keep F a b := ⟨h.os, h.tape, h.output, h.size, h.block⟩
/-- Only the row's block has turned. -/
theorem Keep.atRow {a b : World} {g o : Nat} (h : Keep (fun k => k = g) a b) : Keep (fun b => blk (some ⟨g, o, none⟩) = some b) a b := h.mono (fun i _ e => by rw [e]; rfl)

theorem copy_run2 (w : World) (ty : TypeId) (g o dLen dCap : Nat) (ad : Addr) (sLen sCap : Nat) (cur : Array Value) (cs : List Value) (hcur : w.heap[g]? = some (.cells cur 49 (0, 0)))
    (hl : cs.length = (min sLen dLen) * 2) (hsrc : ∀ j v, cs[j]? = some v → w.cell? (ad.add j) = some v) (hfit : o + cs.length ≤ cur.size) (h1 : ∀ v ∈ cs, v.oneCell' = true) :
    (Builtin.copy_ #[30, 30] ty #[.slice (some ⟨g, o, none⟩) dLen dCap, .slice (some ad) sLen sCap]).run Try.prog w =
      .ok (goInt ((Nat.min sLen dLen : Nat) : Int)) (w.setRow g (cur.toList.take o ++ cs ++ cur.toList.drop (o + cs.length)).toArray) := by
  obtain ⟨i0, hi, hz0, hz1, hz2⟩ := info_parts info49
  have hf := run_firstCells_some (P := Try.prog) w 2 (Nat.min sLen dLen) ad sLen sCap cs hl hsrc
  have hst := run_storeCells_at Try.prog g o 49 cs 0 cur w hcur (by simpa using hfit) h1
  simp [Builtin.copy_, run_underlying Try.underlying30, Builtin.lenOf, sizeOf, typeInfo, hi, hz1, hf, hst]

theorem clear_run0 (w : World) (ty : TypeId) (a : Option Addr) (c : Nat) : (Builtin.clear_ #[30] ty #[.slice a 0 c]).run Try.prog w = .ok (.tuple #[]) w := by
  cases a <;> simp [Builtin.clear_, run_underlying Try.underlying30]

def zs2 (n : Nat) : List Value := (Builtin.zeroCells #[.int .i64 0, .int .i64 0] n).toList
theorem zs2_len (n : Nat) : (zs2 n).length = n * 2 := by simp [zs2, Builtin.zeroCells]
theorem zs2_one (n : Nat) : ∀ v ∈ zs2 n, v.oneCell' = true := by
  intro v hv
  simp only [zs2, Builtin.zeroCells, Array.toList_map, List.mem_map] at hv
  obtain ⟨i, _, rfl⟩ := hv
  have : i % 2 = 0 ∨ i % 2 = 1 := by omega
  rcases this with e | e
  · simp [e]; rfl
  · simp [e]; rfl

theorem clear_run2 (w : World) (ty : TypeId) (g o n c : Nat) (cur : Array Value) (hcur : w.heap[g]? = some (.cells cur 49 (0, 0))) (hn : 0 < n) (hfit : o + n * 2 ≤ cur.size) :
    (Builtin.clear_ #[30] ty #[.slice (some ⟨g, o, none⟩) n c]).run Try.prog w = .ok (.tuple #[]) (w.setRow g (cur.toList.take o ++ zs2 n ++ cur.toList.drop (o + n * 2)).toArray) := by
  obtain ⟨i0, hi, hz0, hz1, hz2⟩ := info_parts info49
  have hst := run_storeCells_at Try.prog g o 49 (zs2 n) 0 cur w hcur (by rw [zs2_len]; simpa using hfit) (zs2_one n)
  rw [zs2_len] at hst
  have hv : ∀ w, (zeroValue 49).run Try.prog w = .ok (.agg #[.int .i64 0, .int .i64 0]) w := by intro w; simp [zeroValue, typeInfo, hi, hz0]
  have hc : (Value.agg #[.int .i64 0, .int .i64 0]).cells = #[.int .i64 0, .int .i64 0] := rfl
  cases n with
  | zero => omega
  | succ n =>
    have e : zs2 (n + 1) = (Builtin.zeroCells #[.int .i64 0, .int .i64 0] (n + 1)).toList := rfl
    simp only [Nat.add_zero] at hst
    rw [e] at hst ⊢
    simp [Builtin.clear_, run_underlying Try.underlying30, hv, hc, hst]

section
variable {ops : Array Oper} {rest : List Oper} {o : Oper} {a : Act} {w : World} {K : Act → World → Prop} {R : Exit → Act → World → Prop} {E : Prop}

theorem keep_row {w : World} {g : Nat} {cur : Array Value} (hcur : w.heap[g]? = some (.cells cur 49 (0, 0))) (L : List Value) :
    Keep (fun k => k = g) w (w.setRow g L.toArray) ∧ (w.setRow g L.toArray).heap[g]? = some (.cells L.toArray 49 (0, 0)) :=
  ⟨(Keep.refl _ w).setRow g _ (.inl rfl), setRow_heap w g cur _ 49 _ hcur⟩

/-- copy into a row, as one step of a region that draws. -/
theorem step_copy2 (hg : o.guard = none) (d x : Operand) (hop : o.op = Op.call { callee := Callee.builtin Builtin.copy, args := #[d, x], argTypes := #[30, 30] })
    (g po dLen dCap : Nat) (hd : a.eval d = .slice (some ⟨g, po, none⟩) dLen dCap) (ad : Addr) (sLen sCap : Nat) (hx : a.eval x = .slice (some ad) sLen sCap)
    (cur : Array Value) (hcur : w.heap[g]? = some (.cells cur 49 (0, 0))) (cs : List Value)
    (hl : cs.length = (min sLen dLen) * 2) (hsrc : ∀ j v, cs[j]? = some v → w.cell? (ad.add j) = some v) (hfit : po + cs.length ≤ cur.size) (h1 : ∀ v ∈ cs, v.oneCell' = true)
    (hK : ∀ w2, Keep (fun k => k = g) w w2 → w2.heap[g]? = some (.cells (cur.toList.take po ++ cs ++ cur.toList.drop (po + cs.length)).toArray 49 (0, 0)) → K (a.put o.dst (goInt ((Nat.min sLen dLen : Nat) : Int))) w2) :
    if Region.wanted o (yielded ops a.tmps) = true then Oper.wp Try.prog o a w K R else E := by
  have hw : Region.wanted o (yielded ops a.tmps) = true := by simp [Region.wanted, hg]
  rw [if_pos hw]
  have hr := copy_run2 w o.type g po dLen dCap ad sLen sCap cur cs hcur hl hsrc hfit h1
  unfold Oper.wp
  simp [execOp, hop, resolve, invoke, builtin, hd, hx, hr, Result.andThen]
  have hk := keep_row hcur (cur.toList.take po ++ cs ++ cur.toList.drop (po + cs.length))
  simp only [List.append_assoc] at hk hK
  exact hK _ hk.1 hk.2

/-- .. and in a plain walk: the run's equation. -/
theorem copy_ex (w : World) (g po dLen dCap : Nat) (ad : Addr) (sLen sCap : Nat) (cur : Array Value) (hcur : w.heap[g]? = some (.cells cur 49 (0, 0))) (cs : List Value)
    (hl : cs.length = (min sLen dLen) * 2) (hsrc : ∀ j v, cs[j]? = some v → w.cell? (ad.add j) = some v) (hfit : po + cs.length ≤ cur.size) (h1 : ∀ v ∈ cs, v.oneCell' = true) :
    ∃ w2, (Builtin.copy_ #[30, 30] 3 #[.slice (some ⟨g, po, none⟩) dLen dCap, .slice (some ad) sLen sCap]).run Try.prog w = .ok (goInt ((Nat.min sLen dLen : Nat) : Int)) w2 ∧
      Keep (fun k => k = g) w w2 ∧ w2.heap[g]? = some (.cells (cur.toList.take po ++ cs ++ cur.toList.drop (po + cs.length)).toArray 49 (0, 0)) :=
  ⟨_, copy_run2 w 3 g po dLen dCap ad sLen sCap cur cs hcur hl hsrc hfit h1, (keep_row hcur _).1, (keep_row hcur _).2⟩

/-- clear, in a plain walk: the run's equation. -/
theorem clear_ex (w : World) (g po n c : Nat) (cur : Array Value) (hcur : w.heap[g]? = some (.cells cur 49 (0, 0))) (hfit : po + n * 2 ≤ cur.size) :
    ∃ w2 cur2, (Builtin.clear_ #[30] 0 #[.slice (some ⟨g, po, none⟩) n c]).run Try.prog w = .ok (.tuple #[]) w2 ∧
      Keep (fun k => k = g) w w2 ∧ w2.heap[g]? = some (.cells cur2 49 (0, 0)) ∧ cur2.size = cur.size ∧ cur2.toList.take po = cur.toList.take po := by
  by_cases h0 : n = 0
  · subst h0
    exact ⟨w, cur, clear_run0 w 0 (some ⟨g, po, none⟩) c, Keep.refl _ _, hcur, rfl, rfl⟩
  · refine ⟨_, _, clear_run2 w 0 g po n c cur hcur (by omega) hfit, (keep_row hcur _).1, (keep_row hcur _).2, ?_, ?_⟩
    · simp [zs2_len]; omega
    · have : (List.take po cur.toList).length = po := by simp; omega
      simp only [List.append_assoc]
      exact List.take_left' this

/-- append in place, as one step of a region that draws. -/
theorem step_append2 (hg : o.guard = none) (s x : Operand) (hop : o.op = Op.call { callee := Callee.builtin Builtin.append, args := #[s, x], argTypes := #[30, 30] })
    (g n cap : Nat) (hs : a.eval s = .slice (some ⟨g, 0, none⟩) n cap) (ad : Addr) (m c : Nat) (hx : a.eval x = .slice (some ad) m c)
    (cur : Array Value) (hcur : w.heap[g]? = some (.cells cur 49 (0, 0))) (cs : List Value)
    (hl : cs.length = m * 2) (hsrc : ∀ j v, cs[j]? = some v → w.cell? (ad.add j) = some v) (hroom : n + m ≤ cap) (hfit : n * 2 + cs.length ≤ cur.size) (h1 : ∀ v ∈ cs, v.oneCell' = true)
    (hK : ∀ w2, Keep (fun k => k = g) w w2 → w2.heap[g]? = some (.cells (cur.toList.take (n * 2) ++ cs ++ cur.toList.drop (n * 2 + cs.length)).toArray 49 (0, 0)) → K (a.put o.dst (.slice (some ⟨g, 0, none⟩) (n + m) cap)) w2) :
    if Region.wanted o (yielded ops a.tmps) = true then Oper.wp Try.prog o a w K R else E := by
  have hw : Region.wanted o (yielded ops a.tmps) = true := by simp [Region.wanted, hg]
  rw [if_pos hw]
  obtain ⟨i0, hi, hz0, hz1, hz2⟩ := info_parts info49
  have hr := run_append_room (P := Try.prog) w 30 o.type 49 i0 Try.underlying30 hi g n cap cur hcur ad m c cs (by rw [hz1]; exact hl) hsrc h1 hroom (by rw [hz1]; exact hfit)
  rw [hz1] at hr
  unfold Oper.wp
  simp [execOp, hop, resolve, invoke, builtin, hs, hx, hr, Result.andThen]
  have hk := keep_row hcur (cur.toList.take (n * 2) ++ cs ++ cur.toList.drop (n * 2 + cs.length))
  simp only [List.append_assoc] at hk hK
  exact hK _ hk.1 hk.2
end

end Go.Proofs.Ytmcemfjnenfcaaa
