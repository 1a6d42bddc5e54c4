/-
  What slices.Delete at the head and slices.Clone do to a row of spans: contracts that the walks use.
-/
import Derived.Test.YtmcemfjnenfcaaaRow
import Derived.Laws.Cover3
namespace Go.Proofs.Ytmcemfjnenfcaaa
open Go.RowKit
set_option linter.unusedVariables false


theorem addr_add (b off j : Nat) : (⟨b, off, none⟩ : Addr).add j = ⟨b, off + j, none⟩ := by
  by_cases h0 : j = 0
  · simp [Addr.add, h0]
  · simp [Addr.add, h0]

/-- The cells of a row from place k on. -/
theorem row_src {w : World} {g n k : Nat} {cur : Array Value} {xs : List Sp} (hg : w.heap[g]? = some (.cells cur 49 (0, 0))) (hl : xs.length = n) (h4 : cur.toList.take (n * 2) = flat xs) :
    ∀ j v, (flat (xs.drop k))[j]? = some v → w.cell? ((⟨g, k * 2, none⟩ : Addr).add j) = some v := by
  intro j v hj
  rw [← flat_drop, List.getElem?_drop] at hj
  have hlt : k * 2 + j < n * 2 := by
    by_cases h : k * 2 + j < n * 2
    · exact h
    · rw [List.getElem?_eq_none (by rw [flat_len]; omega)] at hj; cases hj
  rw [addr_add, cell_of_row w g _ cur 49 (0, 0) hg, cur_get h4 hlt, hj]

set_option maxHeartbeats 1000000 in
set_option maxRecDepth 100000 in
theorem delete_any (base : Nat) (a : Option Addr) (n cap k : Nat) (xs : List Sp) (w : World) (ho : Own w base a n cap xs) (hk : k ≤ n) (hn : n ≤ 100) :
    Calls Try.prog 29 #[.slice a n cap, .int .i64 0, .int .i64 k] w fun e w' => e = .returned (.slice a (n - k) cap) ∧ Own w' base a (n - k) cap (xs.drop k) ∧ Keep (fun b => blk a = some b) w w' := by
  have hl := ho.len
  by_cases h0 : k = 0
  · subst h0
    have hnc : n ≤ cap := by
      rcases ho.row with ⟨rfl, rfl, rfl, rfl⟩ | ⟨g, cur, rfl, hb, hg, h1, h2, h3, h4⟩
      · exact Nat.le_refl _
      · exact h1
    have HO := hid ho
    clear ho
    go_enter Try.func29, Try.ntmps29
    go_wp2
    go_ret
    exact ⟨rfl, HO.out, Keep.refl _ _⟩
  · rcases ho.row with ⟨rfl, rfl, rfl, rfl⟩ | ⟨g, cur, rfl, hb, hg, h1, h2, h3, h4⟩
    · omega
    · have hk0 : ¬ ((0 : Int) = (k : Int)) := by omega
      have hcap : (cap : Int) ≤ 9223372036854775807 := by unfold maxLen at h2; omega
      have HG := hid hg
      have H4 := hid h4
      have H3 := hid h3
      clear ho hg h4
      by_cases hck : cap = k
      · obtain rfl : n = k := by omega
        subst hck
        go_enter Try.func29, Try.ntmps29
        go_wp2
        go_region_law (refine step_append2 rfl _ _ rfl g 0 cap (by simp [Act.eval, Act.put]) ⟨g, 0, none⟩ 0 0 (by simp [Act.eval, Act.put]) cur HG.out [] rfl (by intro j v hj; cases hj) (by omega) (by simp) (by simp) ?_; intro w2 hk2 hg2)
        have HG2 := hid hg2
        clear hg2
        obtain ⟨w3, cur3, hr, hk3, hg3, h5, h6⟩ := clear_ex w2 g 0 cap cap _ HG2.out (by simp; omega)
        have HG3 := hid hg3
        clear hg3
        go_wp2
        go_ret
        refine ⟨by simp, own_mk (by simp; omega) hb HG3.out (by omega) h2 (by rw [h5]; simp; omega) (by rw [List.drop_of_length_le (by omega)]; simp [flat_nil]), ?_⟩
        exact ((Keep.ofDrew hk2).trans hk3).atRow
      · go_enter Try.func29, Try.ntmps29
        go_wp2
        go_region_law (refine step_append2 rfl _ _ rfl g 0 cap (by simp [Act.eval, Act.put]) ⟨g, k * 2, none⟩ (n - k) (cap - k) (by simp [Act.eval, Act.put]) cur HG.out (flat (xs.drop k)) (by rw [flat_len, List.length_drop]; omega) (row_src HG.out hl H4.out) (by omega) (by rw [flat_len, List.length_drop]; omega) (flat_one _) ?_; intro w2 hk2 hg2)
        have HG2 := hid hg2
        clear hg2
        have hl2 : (flat (xs.drop k)).length = (n - k) * 2 := by rw [flat_len, List.length_drop]; omega
        obtain ⟨w3, cur3, hr, hk3, hg3, h5, h6⟩ := clear_ex w2 g ((n - k) * 2) (n - (n - k)) (cap - (n - k)) _ HG2.out (by simp; omega)
        have HG3 := hid hg3
        clear hg3
        go_wp2
        go_ret
        refine ⟨by simp, own_mk (by simp; omega) hb HG3.out (by omega) h2 (by rw [h5]; simp; omega) ?_, ?_⟩
        · rw [h6]; simp only [Nat.zero_mul, List.take_zero, List.nil_append]; exact List.take_left' hl2
        · exact ((Keep.ofDrew hk2).trans hk3).atRow

/-- slices.Clone: new memory with the same spans. -/
theorem clone_run {w : World} {a : Option Addr} {n c : Nat} {xs : List Sp} (hs : Seg w a xs) (hl : xs.length = n) (hn : n ≤ 100) (hne : 0 < n) :
    ∃ v' w', (Builtin.append_ #[30, 30] 30 #[.slice (some ⟨w.heap.size, 0, none⟩) 0 0, .slice a n c]).run Try.prog (w.alloc (.cells #[] 49 (0, 0))) = .ok v' w' ∧ (∃ g cap, v' = .slice (some ⟨g, 0, none⟩) n cap ∧ Own w' w.heap.size (some ⟨g, 0, none⟩) n cap xs) ∧ Q w w' := by
  obtain ⟨i0, hi, hz0, hz1, hz2⟩ := info_parts info49
  obtain ⟨b, off, rfl, hc⟩ := (hs.q ((Q.refl w).alloc (.cells #[] 49 (0, 0)))) (by intro e; rw [e] at hl; simp at hl; omega)
  have hsrc : ∀ j u, (flat xs)[j]? = some u → (w.alloc (.cells #[] 49 (0, 0))).cell? ((⟨b, off, none⟩ : Addr).add j) = some u := by
    intro j u hj
    have hlt : j < n * 2 := by
      by_cases h : j < n * 2
      · exact h
      · rw [List.getElem?_eq_none (by rw [flat_len]; omega)] at hj; cases hj
    rw [addr_add]
    have hd : j = j / 2 * 2 ∨ j = j / 2 * 2 + 1 := by omega
    rcases hd with e | e
    · rw [e] at hj ⊢
      rw [flat_get0 xs _ (by omega)] at hj
      rw [(hc (j / 2) (by omega)).1]; exact hj
    · rw [e] at hj ⊢
      rw [flat_get1 xs _ (by omega)] at hj
      rw [(hc (j / 2) (by omega)).2]; exact hj
  have hown : (w.alloc (.cells #[] 49 (0, 0))).ownsRow w.heap.size 49 2 (.slice (some ⟨w.heap.size, 0, none⟩) 0 0) 0 [] :=
    ⟨rfl, .inr ⟨w.heap.size, 0, #[], rfl, Nat.le_refl _, heap_alloc_new w _, Nat.le_refl _, by simp [maxLen], rfl, rfl⟩⟩
  obtain ⟨v', w', hr, h2, h3, h4⟩ := run_append_own (P := Try.prog) (w.alloc (.cells #[] 49 (0, 0))) w.heap.size 30 30 49 i0 _ 2 16 Try.underlying30 hi hz0 hz1 hz2 rfl (by omega) _ 0 [] hown ⟨b, off, none⟩ n c (flat xs) (by rw [flat_len, hl]) hsrc (flat_one xs) (by unfold maxLen; omega) (by omega) (by simp)
  refine ⟨v', w', hr, ?_, ?_⟩
  · rw [Nat.zero_add, List.nil_append] at h2
    rcases h2.2 with ⟨_, h0⟩ | ⟨g, cap, cur, rfl, r⟩
    · omega
    · exact ⟨g, cap, rfl, h2⟩
  · have hk : Keep (fun k => k = w.heap.size) w w' := ((Keep.refl _ w).alloc _).trans (Keep.ofGrown h3 (by intro k hk; simp [Value.ownBlock] at hk; exact hk.symm))
    exact hk.toQ (fun i hi e => by omega)

theorem eql_nil (a : Option Addr) (n c : Nat) (w : World) : (binOp .eql 30 (.slice a n c) (.slice none 0 0)).run Try.prog w = .ok (.bool a.isNone) w := by
  have h := run_equal_slice_nil (P := Try.prog) (w := w) 30 49 a n c Try.underlying30
  simp [binOp, h]

theorem clone_run0 (w : World) (a : Option Addr) (c : Nat) : (Builtin.append_ #[30, 30] 30 #[.slice (some ⟨w.heap.size, 0, none⟩) 0 0, .slice a 0 c]).run Try.prog (w.alloc (.cells #[] 49 (0, 0))) = .ok (.slice (some ⟨w.heap.size, 0, none⟩) 0 0) (w.alloc (.cells #[] 49 (0, 0))) := by
  obtain ⟨i0, hi, hz0, hz1, hz2⟩ := info_parts info49
  cases a <;> simp [Builtin.append_, run_underlying Try.underlying30, sizeOf, typeInfo, hi, Builtin.lenOf, Builtin.firstCells, loadCells, loadCellsFrom, storeCells]

set_option maxHeartbeats 400000 in
theorem clone_any (base : Nat) (a : Option Addr) (n c : Nat) (xs : List Sp) (w : World) (ho : Own w base a n c xs) (hn : n ≤ 100) :
    Calls Try.prog 22 #[.slice a n c] w fun e w' => ∃ g a' cap, e = .returned (.slice a' n cap) ∧ Own w' w.heap.size a' n cap xs ∧ Q w w' ∧ (0 < n → a' = some ⟨g, 0, none⟩) := by
  have hl := ho.len
  rcases ho.row with ⟨rfl, rfl, rfl, rfl⟩ | ⟨g, cur, rfl, hb, hg, h1, h2, h3, h4⟩
  · clear ho
    have hq0 := eql_nil none 0 0
    go_enter Try.func22, Try.ntmps22
    go_wp2
    go_ret
    exact ⟨0, none, 0, rfl, own_nil _ _, Q.refl _, by omega⟩
  · by_cases h0 : n = 0
    · subst h0
      obtain rfl : xs = [] := List.eq_nil_of_length_eq_zero hl
      clear ho hg h4
      have hq0 := eql_nil (some ⟨g, 0, none⟩) 0 c
      have hr := clone_run0 w (some ⟨g, 0, none⟩) c
      go_enter Try.func22, Try.ntmps22
      go_wp2
      go_ret
      exact ⟨w.heap.size, _, 0, rfl, own_mk rfl (Nat.le_refl _) (heap_alloc_new w _) (Nat.le_refl _) (by simp [maxLen]) rfl rfl, (Q.refl w).alloc _, fun _ => rfl⟩
    · obtain ⟨v', w', hr, ⟨g', cap', rfl, ho'⟩, hq⟩ := clone_run (c := c) ho.seg hl hn (by omega)
      have HO := hid ho'
      clear ho hg h4 ho'
      have hq0 := eql_nil (some ⟨g, 0, none⟩) n c
      go_enter Try.func22, Try.ntmps22
      go_wp2_with (at_builtin; refine Lib.wpList_append_run _ rfl _ _ _ _ rfl _ _ rfl rfl _ _ hr ?_)
      go_ret
      exact ⟨g', _, cap', rfl, HO.out, hq, fun _ => rfl⟩

end Go.Proofs.Ytmcemfjnenfcaaa
