/-
  What the document's Copy of spans answers: a contract that the statements' walks use.
-/
import Derived.Test.YtjhihcmemnhbbaaLs
import Derived.Laws.CopyOwn
import Derived.OwnWalk
namespace Go.Proofs.Ytjhihcmemnhbbaa
open Go.RowKit
set_option linter.unusedVariables false
set_option maxRecDepth 20000

theorem fltS_cell {w : World} {b off : Nat} {l : List Spn} (h : ∀ i, i < l.length → SAt w b (off + i * 2) (l.getD i (0, 0))) : ∀ j v, (flt scl l)[j]? = some v → w.cell? ⟨b, off + j, none⟩ = some v := by
  intro j v hj
  have hlt : j < l.length * 2 := by
    rcases Nat.lt_or_ge j (l.length * 2) with hh | hh
    · exact hh
    · rw [List.getElem?_eq_none (by rw [flt_len scl_len]; exact hh)] at hj; cases hj
  have hc := h (j / 2) (by omega)
  have hg := flt_get scl_len (0, 0) l (i := j / 2) (j := j % 2) (by omega) (by omega)
  rw [show j / 2 * 2 + j % 2 = j by omega, hj] at hg
  rcases (show j % 2 = 0 ∨ j % 2 = 1 by omega) with e | e
  · rw [e] at hg
    have h0 := hc.c0
    rw [show off + j / 2 * 2 = off + j by omega] at h0
    rw [h0]; exact hg.symm
  · rw [e] at hg
    have h0 := hc.c1
    rw [show off + j / 2 * 2 + 1 = off + j by omega] at h0
    rw [h0]; exact hg.symm
theorem flt_zero (n : Nat) : flt scl (List.replicate n ((0, 0) : Spn)) = List.replicate (n * 2) (.int .i64 0) := by
  induction n with
  | zero => rfl
  | succ n ih => rw [List.replicate_succ, flt_cons, ih, show (n + 1) * 2 = n * 2 + 1 + 1 by omega, List.replicate_succ, List.replicate_succ]; rfl
theorem made_spans (n : Nat) : (madeCells (Value.agg #[.int .i64 0, .int .i64 0]).cells (n * 2)).toList = flt scl (List.replicate n (0, 0)) := by
  rw [flt_zero]
  apply List.ext_getElem?
  intro j
  by_cases hj : j < n * 2
  · have h2 : j % 2 = 0 ∨ j % 2 = 1 := by omega
    rcases h2 with h2 | h2 <;> simp [madeCells, Value.cells, hj, h2]
  · rw [List.getElem?_eq_none (by simp [madeCells, Value.cells]; omega), List.getElem?_eq_none (by simp; omega)]
theorem copyS_run {w w1 : World} {a : Option Addr} {g n c : Nat} {l : List Spn} (h : SegS w1 a l) (hl : l.length = n) (hm : n ≤ maxLen) (hb : w1.heap[g]? = some (.cells (flt scl (List.replicate n (0, 0))).toArray 57 (0, 0))) :
    ∃ w2, (Builtin.copy_ #[38, 38] 3 #[.slice (some ⟨g, 0, none⟩) n n, .slice a n c]).run Try.prog w1 = .ok (goInt n) w2 ∧ Keep (fun i => i = g) w1 w2 ∧ RowS w2 ⟨some ⟨g, 0, none⟩, n, n⟩ l := by
  obtain ⟨i0, hi, hz0, hz1, hz2⟩ := info_parts info57
  by_cases h0 : n = 0
  · subst h0
    obtain rfl : l = [] := List.eq_nil_of_length_eq_zero hl
    refine ⟨w1, ?_, Keep.refl _ _, rfl, .inr ⟨g, 0, _, rfl, hb, Nat.le_refl _, by show 0 ≤ maxLen; omega, by simp, fun j hj => by simp at hj⟩⟩
    cases a <;> simp [Builtin.copy_, run_underlying Try.underlying38, Builtin.lenOf, sizeOf, typeInfo, hi, storeCells, Builtin.firstCells, loadCells, loadCellsFrom]
  · obtain ⟨b, off, rfl, hc⟩ := h (by intro e; rw [e] at hl; simp at hl; omega)
    have hsrc : ∀ j v, (flt scl l)[j]? = some v → w1.cell? ((⟨b, off, none⟩ : Addr).add j) = some v := fun j v hj => by
      rw [addr_add]; exact fltS_cell hc j v hj
    have hf := run_firstCells_some (P := Try.prog) w1 2 n ⟨b, off, none⟩ n c (flt scl l) (by rw [flt_len scl_len, hl]) hsrc
    have hst := run_storeCells_at Try.prog g 0 57 (flt scl l) 0 _ w1 hb (by rw [List.size_toArray, flt_len scl_len, flt_len scl_len, List.length_replicate]; omega) (flt_one scl_one l)
    have e2 : List.drop (flt scl l).length (flt scl (List.replicate n (0, 0))) = [] := List.drop_of_length_le (by rw [flt_len scl_len, flt_len scl_len]; simp [hl])
    simp only [Nat.add_zero, Nat.zero_add, List.take_zero, List.nil_append, e2, List.append_nil] at hst
    have hk := keep_row hb (flt scl l)
    refine ⟨_, ?_, hk.1, ?_⟩
    · simp [Builtin.copy_, run_underlying Try.underlying38, Builtin.lenOf, sizeOf, typeInfo, hi, hz1, hf, hst]
    · exact ⟨by rw [flt_len scl_len, hl], .inr ⟨g, 0, _, rfl, hk.2, Nat.le_refl _, hm, by rw [List.size_toArray, flt_len scl_len]; show 0 + n * 2 ≤ _; omega, fun j hj => by simp⟩⟩

theorem own_block57 {w u : World} {m : Nat} {vs : List (Int × Int)} (h : u.ownsRow w.heap.size 57 2 (.slice (some ⟨w.heap.size, 0, none⟩) m m) m (flt scl vs)) : u.heap[w.heap.size]? = some (.cells (flt scl vs).toArray 57 (0, 0)) := by
  rcases h.2 with ⟨h2, h3⟩ | ⟨g, cap', cur, hv, hb, hg, h1, h2, h3, h4⟩
  · cases h2
  · simp only [Value.slice.injEq, Option.some.injEq, Addr.mk.injEq, and_true, true_and] at hv
    obtain ⟨rfl, rfl⟩ := hv
    rw [hg, ← h4, List.take_of_length_le (by simp; omega)]

set_option maxHeartbeats 1000000 in
theorem scopy_any (s : Sv) (l : List (Int × Int)) (w : World) (hl : l.length = s.n) (hn : s.n ≤ 8796093022208) (hseg : SegS w s.a l) :
    Calls Try.prog 15 #[.slice s.a s.n s.c] w fun e w' => ∃ x : Sv, e = .returned (.slice x.a x.n x.c) ∧ Q w w' ∧ RowS w' x l ∧ ∀ b, blk x.a = some b → w.heap.size ≤ b := by
  obtain ⟨i0, hi, hz0, hz1, hz2⟩ := info_parts info57
  obtain ⟨a, n, c⟩ := s
  dsimp only at *
  have HL := hid hl
  have HSG := hid hseg
  clear hl hseg
  go_enter Try.func15, Try.ntmps15
  go_wp2_with (at_make; refine wpList_make_full _ rfl _ _ 38 rfl w.heap.size 57 i0 (.agg #[.int .i64 0, .int .i64 0]) 2 Try.underlying38 hi hz0 hz1 .i64 .i64 _ _ n rfl rfl rfl rfl (by rw [hz2]; omega) (by unfold maxLen; omega) (Nat.le_refl _) ?_; intro w1 hown hgr)
  have hq : Q w w1 := (Q.refl w).grown hgr
  rw [made_spans] at hown
  obtain ⟨w2, hrun, hk2, hr2⟩ := copyS_run (w := w) (c := c) (HSG.out.q hq) HL.out (by unfold maxLen; omega) (own_block57 hown)
  have H2 := hid (show Q w w2 from hk2.below hq hq.size (fun i e => by omega))
  have O2 := hid hr2
  clear hown hgr hq hk2 hr2
  rw [hrun]
  clear hrun
  go_wp2
  go_ret
  exact ⟨⟨some ⟨w.heap.size, 0, none⟩, n, n⟩, rfl, H2.out, O2.out, fun b hb => by simp [blk] at hb; omega⟩

end Go.Proofs.Ytjhihcmemnhbbaa
