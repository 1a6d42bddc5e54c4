/-
  Copy of fields, and awake: contracts that the statements' walks use.
-/
import Derived.Test.YtclapheglgiokaaDoorRnZ
import Derived.Laws.CopyOwn
import Derived.OwnWalk
namespace Go.Proofs.YtclapheglgiokaaDoor
open Go.RowKit
set_option linter.unusedVariables false
set_option maxRecDepth 20000

theorem fcl_cell {w : World} {b off : Nat} {l : List Fd} (h : ∀ k p, l[k]? = some p → w.cell? ⟨b, off + k * 2, none⟩ = some (.string p.1) ∧ w.cell? ⟨b, off + k * 2 + 1, none⟩ = some (.string p.2)) : ∀ j v, (l.flatMap fcl)[j]? = some v → w.cell? ⟨b, off + j, none⟩ = some v := by
  intro j v hj
  have hlt : j < l.length * 2 := by
    rcases Nat.lt_or_ge j (l.length * 2) with hh | hh
    · exact hh
    · rw [List.getElem?_eq_none (by rw [fcl_len]; exact hh)] at hj; cases hj
  have hk : l[j / 2]? = some l[j / 2] := List.getElem?_eq_getElem (by omega)
  obtain ⟨c0, c1⟩ := h _ _ hk
  obtain ⟨g0, g1⟩ := fcl_get hk
  rcases (show j % 2 = 0 ∨ j % 2 = 1 by omega) with e | e
  · rw [show j / 2 * 2 = j by omega, hj] at g0
    rw [show off + j / 2 * 2 = off + j by omega] at c0
    rw [c0]; exact g0.symm
  · rw [show j / 2 * 2 + 1 = j by omega, hj] at g1
    rw [show off + j / 2 * 2 + 1 = off + j by omega] at c1
    rw [c1]; exact g1.symm
theorem fcl_zero (n : Nat) : (List.replicate n ((⟨#[]⟩, ⟨#[]⟩) : Fd)).flatMap fcl = List.replicate (n * 2) (.string ⟨#[]⟩) := by
  induction n with
  | zero => rfl
  | succ n ih => rw [List.replicate_succ, List.flatMap_cons, ih, show (n + 1) * 2 = n * 2 + 1 + 1 by omega, List.replicate_succ, List.replicate_succ]; rfl
theorem made_flds (n : Nat) : (madeCells (Value.agg #[.string ⟨#[]⟩, .string ⟨#[]⟩]).cells (n * 2)).toList = (List.replicate n ((⟨#[]⟩, ⟨#[]⟩) : Fd)).flatMap fcl := by
  rw [fcl_zero]
  apply List.ext_getElem?
  intro j
  by_cases hj : j < n * 2
  · have h2 : j % 2 = 0 ∨ j % 2 = 1 := by omega
    rcases h2 with h2 | h2 <;> simp [madeCells, Value.cells, hj, h2]
  · rw [List.getElem?_eq_none (by simp [madeCells, Value.cells]; omega), List.getElem?_eq_none (by simp; omega)]
theorem fcl_one (l : List Fd) : ∀ v ∈ l.flatMap fcl, v.oneCell' = true := by
  intro v hv
  rw [List.mem_flatMap] at hv
  obtain ⟨p, _, hp⟩ := hv
  simp [fcl] at hp
  rcases hp with rfl | rfl <;> rfl
theorem copyF_run {w w1 : World} {a : Option Addr} {g n c : Nat} {l : List Fd} (h : SegF w1 a l) (hl : l.length = n) (hm : n ≤ maxLen) (hb : w1.heap[g]? = some (.cells ((List.replicate n ((⟨#[]⟩, ⟨#[]⟩) : Fd)).flatMap fcl).toArray 57 (0, 0))) :
    ∃ w2, (Builtin.copy_ #[22, 22] 3 #[.slice (some ⟨g, 0, none⟩) n n, .slice a n c]).run Tryd.prog w1 = .ok (goInt n) w2 ∧ Keep (fun i => i = g) w1 w2 ∧ RowG w2 ⟨some ⟨g, 0, none⟩, n, n⟩ l := by
  obtain ⟨i0, hi, hz0, hz1, hz2⟩ := info_parts info37
  by_cases h0 : n = 0
  · subst h0
    obtain rfl : l = [] := List.eq_nil_of_length_eq_zero hl
    refine ⟨w1, ?_, Keep.refl _ _, rfl, .inr ⟨g, 0, _, rfl, hb, Nat.le_refl _, by show 0 ≤ maxLen; omega, by simp, fun j hj => by simp at hj⟩⟩
    cases a <;> simp [Builtin.copy_, run_underlying Tryd.underlying22, Builtin.lenOf, sizeOf, typeInfo, hi, storeCells, Builtin.firstCells, loadCells, loadCellsFrom]
  · obtain ⟨b, off, rfl, hc⟩ := h (by intro e; rw [e] at hl; simp at hl; omega)
    have hsrc : ∀ j v, (l.flatMap fcl)[j]? = some v → w1.cell? ((⟨b, off, none⟩ : Addr).add j) = some v := fun j v hj => by
      rw [addr_add]; exact fcl_cell hc j v hj
    have hf := run_firstCells_some (P := Tryd.prog) w1 2 n ⟨b, off, none⟩ n c (l.flatMap fcl) (by rw [fcl_len, hl]) hsrc
    have hst := run_storeCells_at Tryd.prog g 0 57 (l.flatMap fcl) 0 _ w1 hb (by rw [List.size_toArray, fcl_len, fcl_len, List.length_replicate]; omega) (fcl_one l)
    have e2 : List.drop (l.flatMap fcl).length ((List.replicate n ((⟨#[]⟩, ⟨#[]⟩) : Fd)).flatMap fcl) = [] := List.drop_of_length_le (by rw [fcl_len, fcl_len]; simp [hl])
    simp only [Nat.add_zero, Nat.zero_add, List.take_zero, List.nil_append, e2, List.append_nil] at hst
    have hk := keep_row hb (l.flatMap fcl)
    refine ⟨_, ?_, hk.1, ?_⟩
    · simp [Builtin.copy_, run_underlying Tryd.underlying22, Builtin.lenOf, sizeOf, typeInfo, hi, hz1, hf, hst]
    · exact ⟨by rw [fcl_len, hl], .inr ⟨g, 0, _, rfl, hk.2, Nat.le_refl _, hm, by rw [List.size_toArray, fcl_len]; show 0 + n * 2 ≤ _; omega, fun j hj => by simp⟩⟩
theorem own_block37 {w u : World} {m : Nat} {vs : List Fd} (h : u.ownsRow w.heap.size 57 2 (.slice (some ⟨w.heap.size, 0, none⟩) m m) m (vs.flatMap fcl)) : u.heap[w.heap.size]? = some (.cells (vs.flatMap fcl).toArray 57 (0, 0)) := by
  rcases h.2 with ⟨h2, h3⟩ | ⟨g, cap', cur, hv, hb, hg, h1, h2, h3, h4⟩
  · cases h2
  · simp only [Value.slice.injEq, Option.some.injEq, Addr.mk.injEq, and_true, true_and] at hv
    obtain ⟨rfl, rfl⟩ := hv
    rw [hg, ← h4, List.take_of_length_le (by simp; omega)]
set_option maxHeartbeats 1000000 in
theorem copy_any (x : Sv) (l : List Fd) (w : World) (h : Fin w x l) : Calls Tryd.prog 22 #[.slice x.a x.n x.c] w fun e w' => ∃ g, e = .returned (.slice (some ⟨g, 0, none⟩) x.n x.n) ∧ Q w w' ∧ RowG w' ⟨some ⟨g, 0, none⟩, x.n, x.n⟩ l ∧ w.heap.size ≤ g := by
  obtain ⟨i0, hi, hz0, hz1, hz2⟩ := info_parts info37
  obtain ⟨a, n, c⟩ := x
  have HL := hid h.len
  have HSG := hid h.s
  have hn : n ≤ 4398046511104 := by have := h.b; have := h.len; dsimp only at this; omega
  dsimp only at *
  clear h
  go_enter Tryd.func22, Tryd.ntmps22
  go_wp2_with (at_make; refine wpList_make_full _ rfl _ _ 22 rfl w.heap.size 57 i0 (.agg #[.string ⟨#[]⟩, .string ⟨#[]⟩]) 2 Tryd.underlying22 hi hz0 hz1 .i64 .i64 _ _ n rfl rfl rfl rfl (by rw [hz2]; omega) (by unfold maxLen; omega) (Nat.le_refl _) ?_; intro w1 hown hgr)
  have hq : Q w w1 := (Q.refl w).grown hgr
  rw [made_flds] at hown
  obtain ⟨w2, hrun, hk2, hr2⟩ := copyF_run (w := w) (c := c) (HSG.out.q hq) HL.out (by unfold maxLen; omega) (own_block37 hown)
  have H2 := hid (show Q w w2 from hk2.below hq hq.size (fun i e => by omega))
  have O2 := hid hr2
  clear hown hgr hq hk2 hr2
  rw [hrun]
  clear hrun
  go_wp2
  go_ret
  exact ⟨w.heap.size, rfl, H2.out, O2.out, Nat.le_refl _⟩
theorem chV_line : ∀ y, chV lineL 1048576 1073741824 y = .tuple #[.agg (rqC ⟨#[71, 69, 84]⟩ kHttps ⟨#[97, 46, 98]⟩ ⟨#[47, 120]⟩ y (-1)), .int .i64 0] := by
  intro y
  unfold chV chR
  rw [if_pos line_ok, line_ok, line_rq]
  rfl
end Go.Proofs.YtclapheglgiokaaDoor
