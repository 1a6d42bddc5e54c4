/-
  What the document's own Copy of spans and of a frame, and the law's copied do: contracts that the statements' walks use.
-/
import Derived.Test.YtdoodbaogmdloabAwake
import Derived.Test.YtdoodbaogmdloabCopy
namespace Go.Proofs.Ytdoodbaogmdloab
open Go.RowKit
set_option linter.unusedVariables false
set_option maxRecDepth 20000

theorem flatS_one (l : List (Int × Int)) : ∀ v ∈ flatS l, v.oneCell' = true := by
  intro v hv
  simp only [flatS, List.mem_flatMap] at hv
  obtain ⟨x, _, hx⟩ := hv
  simp at hx
  rcases hx with rfl | rfl <;> rfl
theorem flatS_cell {w : World} {b off : Nat} : ∀ {l : List (Int × Int)}, (∀ i, i < l.length → w.cell? ⟨b, off + i * 2, none⟩ = some (.int .i64 (l.getD i (0, 0)).1) ∧ w.cell? ⟨b, off + i * 2 + 1, none⟩ = some (.int .i64 (l.getD i (0, 0)).2)) → ∀ j v, (flatS l)[j]? = some v → w.cell? ⟨b, off + j, none⟩ = some v := by
  intro l h j v hj
  have hlt : j < l.length * 2 := by
    rcases Nat.lt_or_ge j (l.length * 2) with hh | hh
    · exact hh
    · rw [List.getElem?_eq_none (by rw [flatS_len]; exact hh)] at hj; cases hj
  have hg := flatS_get (l := l) (i := j / 2) (by omega)
  have hc := h (j / 2) (by omega)
  have h2 : j = j / 2 * 2 ∨ j = j / 2 * 2 + 1 := by omega
  rcases h2 with h2 | h2
  · rw [← h2] at hg hc
    rw [hg.1] at hj; cases hj; exact hc.1
  · have e : off + j = off + j / 2 * 2 + 1 := by omega
    rw [e, hc.2]
    have := hg.2
    rw [← h2] at this
    rw [this] at hj; exact hj

theorem copyS_run {w w1 : World} {a : Option Addr} {g n c : Nat} {l : List (Int × Int)} (h : SegS w1 a l) (hl : l.length = n) (hm : n ≤ maxLen) (hb : w1.heap[g]? = some (.cells (flatS (List.replicate n (0, 0))).toArray 36 (0, 0))) :
    ∃ w2, (Builtin.copy_ #[31, 31] 3 #[.slice (some ⟨g, 0, none⟩) n n, .slice a n c]).run Try.prog w1 = .ok (goInt n) w2 ∧ Keep (fun i => i = g) w1 w2 ∧ RowS w2 ⟨some ⟨g, 0, none⟩, n, n⟩ l := by
  obtain ⟨i0, hi, hz0, hz1, hz2⟩ := info_parts info77
  by_cases h0 : n = 0
  · subst h0
    obtain rfl : l = [] := List.eq_nil_of_length_eq_zero hl
    refine ⟨w1, ?_, Keep.refl _ _, rfl, .inr ⟨g, 0, _, rfl, hb, Nat.le_refl _, by show 0 ≤ maxLen; omega, by simp, fun j hj => by simp at hj⟩⟩
    cases a <;> simp [Builtin.copy_, run_underlying Try.underlying31, Builtin.lenOf, sizeOf, typeInfo, hi, storeCells, Builtin.firstCells, loadCells, loadCellsFrom]
  · obtain ⟨b, off, rfl, hc⟩ := h (by intro e; rw [e] at hl; simp at hl; omega)
    have hsrc : ∀ j v, (flatS l)[j]? = some v → w1.cell? ((⟨b, off, none⟩ : Addr).add j) = some v := fun j v hj => by
      rw [addr_add]; exact flatS_cell hc j v hj
    have hf := run_firstCells_some (P := Try.prog) w1 2 n ⟨b, off, none⟩ n c (flatS l) (by rw [flatS_len, hl]) hsrc
    have hst := run_storeCells_at Try.prog g 0 36 (flatS l) 0 _ w1 hb (by rw [List.size_toArray, flatS_len, flatS_len, List.length_replicate]; omega) (flatS_one l)
    have e2 : List.drop (flatS l).length (flatS (List.replicate n (0, 0))) = [] := List.drop_of_length_le (by rw [flatS_len, flatS_len]; simp [hl])
    simp only [Nat.add_zero, Nat.zero_add, List.take_zero, List.nil_append, e2, List.append_nil] at hst
    have hk := keep_row hb (flatS l)
    refine ⟨_, ?_, hk.1, ?_⟩
    · simp [Builtin.copy_, run_underlying Try.underlying31, Builtin.lenOf, sizeOf, typeInfo, hi, hz1, hf, hst]
    · exact ⟨by rw [flatS_len, hl], .inr ⟨g, 0, _, rfl, hk.2, Nat.le_refl _, hm, by rw [List.size_toArray, flatS_len]; show 0 + n * 2 ≤ _; omega, fun j hj => by simp⟩⟩

theorem own_block77 {w u : World} {m : Nat} {vs : List (Int × Int)} (h : u.ownsRow w.heap.size 36 2 (.slice (some ⟨w.heap.size, 0, none⟩) m m) m (flatS vs)) : u.heap[w.heap.size]? = some (.cells (flatS vs).toArray 36 (0, 0)) := by
  rcases h.2 with ⟨h2, h3⟩ | ⟨g, cap', cur, hv, hb, hg, h1, h2, h3, h4⟩
  · cases h2
  · simp only [Value.slice.injEq, Option.some.injEq, Addr.mk.injEq, and_true, true_and] at hv
    obtain ⟨rfl, rfl⟩ := hv
    rw [hg, ← h4, List.take_of_length_le (by simp; omega)]

/-- A frame's words hold it, and are not too long. -/
structure Fit (w : World) (f : Fr) (d c s : Sv) : Prop where
  h : Holds w f d c s
  nd : d.n ≤ 140737488355328
  nc : c.n ≤ 140737488355328
  ns : s.n ≤ 8796093022208
theorem Fit.q {w w' : World} {f : Fr} {d c s : Sv} (h : Fit w f d c s) (q : Q w w') : Fit w' f d c s := ⟨h.h.q q, h.nd, h.nc, h.ns⟩

theorem Own.new {w : World} {base g n cap : Nat} {zs : List Int} (h : Own w base (some ⟨g, 0, none⟩) n cap zs) : New base ⟨some ⟨g, 0, none⟩, n, cap⟩ := by
  intro x hx; cases hx; exact (h.lt g rfl).1
theorem fcells_info34 (f : Fr) (d c s : Sv) : (Try.prog.info? 44).map (·.size) = some (fcells f d c s).size := by
  show _ = some 13
  kernel_rfl

end Go.Proofs.Ytdoodbaogmdloab
