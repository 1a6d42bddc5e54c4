/-
  What slices.Insert does to a row of spans, with one span: contracts that the walks use.
-/
import Derived.Test.YtmcemfjnenfcaaaDel
import Derived.Laws.Externs
namespace Go.Proofs.Ytmcemfjnenfcaaa
open Go.RowKit
set_option linter.unusedVariables false

/-- The one span that is handed over lies in a block of its own. -/
def One (w : World) (vb : Nat) (p : Sp) : Prop := w.heap[vb]? = some (.cells #[.int .i64 p.1, .int .i64 p.2] 49 (0, 0))
theorem One.src {w : World} {vb : Nat} {p : Sp} (h : One w vb p) : ∀ j v, (flat [p])[j]? = some v → w.cell? ((⟨vb, 0, none⟩ : Addr).add j) = some v := by
  intro j v hj
  rw [addr_add, Nat.zero_add, cell_of_row w vb _ _ 49 (0, 0) h]
  simpa [flat] using hj
theorem One.q {w w' : World} {vb : Nat} {p : Sp} (h : One w vb p) (k : Q w w') : One w' vb p := (Below.block k vb (lt_of_block h)).trans h
theorem One.keep {F : Nat → Prop} {w w' : World} {vb : Nat} {p : Sp} (h : One w vb p) (k : Keep F w w') (hF : ¬ F vb) : One w' vb p := (k.block vb (lt_of_block h) hF).trans h

theorem drop_get {L : List Value} {k : Nat} {cs : List Value} (h : (L.drop k).take cs.length = cs) {j : Nat} {v : Value} (hj : cs[j]? = some v) : L[k + j]? = some v := by
  have hlt : j < cs.length := by
    by_cases hh : j < cs.length
    · exact hh
    · rw [List.getElem?_eq_none (by omega)] at hj; cases hj
  rw [← h, List.getElem?_take, if_pos hlt, List.getElem?_drop] at hj
  exact hj

/-- The cells of a row from a place on. -/
theorem row_src2 {w : World} {g k : Nat} {L : List Value} {cs : List Value} (hg : w.heap[g]? = some (.cells L.toArray 49 (0, 0))) (h : (L.drop k).take cs.length = cs) :
    ∀ j v, cs[j]? = some v → w.cell? ((⟨g, k, none⟩ : Addr).add j) = some v := by
  intro j v hj
  rw [addr_add, cell_of_row w g _ _ 49 (0, 0) hg]
  have := drop_get h hj
  simpa using this

theorem grown_own {w : World} {base n i old : Nat} {xs : List Sp} {z : Value} {zc : Array Value} (hz : z.cells = zc) (hzs : zc.size = 2) (hl : xs.length = n) (hb : base ≤ w.heap.size) (hn : n ≤ 1000) (ys : Array Value) (hy : ys.toList = flat xs) :
    Own (w.drew.alloc (.cells (ys ++ Builtin.zeroCells z.cells (grownCap w n old 49 - n)) 49)) base (some ⟨w.heap.size, 0, none⟩) n (grownCap w n old 49) xs := by
  have hge := grownCap_ge w n old 49
  have hsz : ys.size = n * 2 := by rw [← Array.length_toList, hy, flat_len, hl]
  refine own_mk hl hb (heap_alloc_new w.drew _) hge (grownCap_le_maxLen w n old 49 (by unfold maxLen; omega)) ?_ ?_
  · simp only [Array.size_append, size_zeroCells, hz, hzs, hsz]
    omega
  · rw [Array.toList_append, hy]
    exact List.take_left' (by rw [flat_len, hl])

/-- append of one span. -/
theorem append_one {w : World} {base : Nat} {a : Option Addr} {n cap vb : Nat} {xs : List Sp} {p : Sp} (ho : Own w base a n cap xs) (hv : One w vb p) (hn : n ≤ 100) (hb : base ≤ w.heap.size) :
    ∃ a' cap' w', (Builtin.append_ #[30, 30] 30 #[.slice a n cap, .slice (some ⟨vb, 0, none⟩) 1 1]).run Try.prog w = .ok (.slice a' (n + 1) cap') w' ∧ Own w' base a' (n + 1) cap' (xs ++ [p]) ∧ (blk a' = blk a ∨ blk a' = some w.heap.size) ∧ Keep (fun b => blk a = some b) w w' := by
  obtain ⟨i0, hi, hz0, hz1, hz2⟩ := info_parts info49
  have hl := ho.len
  have hc : (Value.agg #[.int .i64 0, .int .i64 0]).cells = #[.int .i64 0, .int .i64 0] := rfl
  rcases ho.row with ⟨rfl, rfl, rfl, rfl⟩ | ⟨g, cur, rfl, hbg, hg, h1, h2, h3, h4⟩
  · have hr := run_append_nil (P := Try.prog) w 30 30 49 i0 _ Try.underlying30 hi hz0 ⟨vb, 0, none⟩ 1 1 (flat [p]) (by rw [hz1]; rfl) hv.src (by omega) (by omega) (by omega)
    refine ⟨_, _, _, hr, ?_, .inr rfl, ((Keep.refl _ w).drew).alloc _⟩
    exact grown_own (n := 1) (i := 0) hc rfl rfl hb (by omega) (flat [p]).toArray rfl
  · by_cases hroom : n + 1 ≤ cap
    · have hr := run_append_room (P := Try.prog) w 30 30 49 i0 Try.underlying30 hi g n cap cur hg ⟨vb, 0, none⟩ 1 1 (flat [p]) (by rw [hz1]; rfl) hv.src (flat_one _) hroom (by rw [hz1, flat_len]; simp; omega)
      rw [hz1] at hr
      refine ⟨_, _, _, hr, ?_, .inl rfl, (keep_row hg _).1.atRow⟩
      have hl1 : (flat (xs ++ [p])).length = (n + 1) * 2 := by rw [flat_len]; simp [hl]
      refine own_mk (by simp [hl]) hbg (keep_row hg _).2 hroom h2 ?_ ?_
      · simp [flat_len]; omega
      · rw [h4, ← flat_append]; exact List.take_left' hl1
    · have hr := run_append_grow (P := Try.prog) w 30 30 49 i0 _ Try.underlying30 hi hz0 ⟨g, 0, none⟩ n cap (flat xs) (by rw [hz1, flat_len, hl]) (by
          have := row_src (k := 0) hg hl h4
          simpa using this) ⟨vb, 0, none⟩ 1 1 (flat [p]) (by rw [hz1]; rfl) hv.src (by omega) (by omega) (by rw [hz2]; exact growslice_fits (by omega) (by omega))
      refine ⟨_, _, _, hr, ?_, .inr rfl, ((Keep.refl _ w).drew).alloc _⟩
      exact grown_own (n := n + 1) (i := 0) hc rfl (by simp [hl]) hb (by omega) ((flat xs).toArray ++ (flat [p]).toArray) (by simp [flat_append])

/-- append of zero spans behind the row's first ones, where there is no room. -/
theorem append_zeros {w : World} {base g n i : Nat} {xs : List Sp} {cur : Array Value} (hb : base ≤ w.heap.size) (hg : w.heap[g]? = some (.cells cur 49 (0, 0))) (hl : xs.length = n) (h4 : cur.toList.take (n * 2) = flat xs) (hi : i < n) (hn : n ≤ 100) :
    ∃ cap' cur', (Builtin.append_ #[30, 3] 30 #[.slice (some ⟨g, 0, none⟩) i n, .int .i64 ((n : Int) + 1 - (i : Int))]).run Try.prog w = .ok (.slice (some ⟨w.heap.size, 0, none⟩) (n + 1) cap') (w.drew.alloc (.cells cur' 49)) ∧ n + 1 ≤ cap' ∧ cap' ≤ maxLen ∧ cur'.size = cap' * 2 ∧ cur'.toList.take (i * 2) = flat (xs.take i) := by
  obtain ⟨i0, hi0, hz0, hz1, hz2⟩ := info_parts info49
  have hc : (Value.agg #[.int .i64 0, .int .i64 0]).cells = #[.int .i64 0, .int .i64 0] := rfl
  have hlt : (flat (xs.take i)).length = i * 2 := by rw [flat_len, List.length_take]; omega
  have hold : (Builtin.firstCells i0.size i (.slice (some ⟨g, 0, none⟩) i n)).run Try.prog w.drew = .ok (flat (xs.take i)).toArray w.drew := by
    rw [hz1]
    refine run_firstCells_some w.drew 2 i ⟨g, 0, none⟩ i n (flat (xs.take i)) hlt ?_
    intro j v hj
    have h0 := row_src (w := w) (k := 0) hg hl h4
    rw [← flat_take, List.getElem?_take] at hj
    split at hj
    · have := h0 j v (by simpa using hj)
      simpa using this
    · cases hj
  have hk : (n : Int) + 1 - (i : Int) = ((n + 1 - i : Nat) : Int) := by omega
  have e1 : i + (n + 1 - i) = n + 1 := by omega
  have hr := Lib.run_append_grow_zeros w 30 3 30 49 i0 _ .i64 .i64 Try.underlying30 Try.underlying3 hi0 hz0 (some ⟨g, 0, none⟩) i n (flat (xs.take i)) hold (n + 1 - i) (by omega) (by omega) (by omega) (by omega) (by rw [hz2]; omega) (by rw [hz2]; exact growslice_fits (by omega) (by omega))
  rw [e1] at hr
  rw [hk]
  have hge := grownCap_ge w (n + 1) n 49
  refine ⟨_, _, hr, hge, grownCap_le_maxLen w (n + 1) n 49 (by unfold maxLen; omega), ?_, ?_⟩
  · simp only [Array.size_append, List.size_toArray, size_zeroCells, hc, hlt]
    simp
    omega
  · rw [Array.toList_append, Array.toList_append, List.append_assoc]
    exact List.take_left' hlt

set_option maxHeartbeats 1000000 in
set_option maxRecDepth 100000 in
theorem insert_end (base : Nat) (a : Option Addr) (n cap vb : Nat) (xs : List Sp) (p : Sp) (w : World) (ho : Own w base a n cap xs) (hv : One w vb p) (hn : n ≤ 100) (hb : base ≤ w.heap.size) :
    Calls Try.prog 31 #[.slice a n cap, .int .i64 n, .slice (some ⟨vb, 0, none⟩) 1 1] w fun e w' => ∃ a' cap', e = .returned (.slice a' (n + 1) cap') ∧ Own w' base a' (n + 1) cap' (xs.take n ++ p :: xs.drop n) ∧ (blk a' = blk a ∨ blk a' = some w.heap.size) ∧ Keep (fun b => blk a = some b) w w' := by
  obtain ⟨a', cap', w', hr, h1, h2, h3⟩ := append_one ho hv hn hb
  have hl := ho.len
  have e1 : xs.take n ++ p :: xs.drop n = xs ++ [p] := by rw [List.take_of_length_le (by omega), List.drop_of_length_le (by omega)]
  rw [e1]
  have H1 := hid h1
  clear h1 hv
  rcases ho.row with ⟨rfl, rfl, rfl, rfl⟩ | ⟨g, cur, rfl, hbg, hg, h5, h6, h7, h8⟩
  · clear ho
    go_enter Try.func31, Try.ntmps31
    go_wp2_with (at_builtin; refine Lib.wpList_append_run _ rfl _ _ _ _ rfl _ _ rfl rfl _ _ hr ?_)
    go_ret
    exact ⟨_, _, rfl, H1.out, h2, h3⟩
  · clear ho hg h8 h7
    go_enter Try.func31, Try.ntmps31
    go_wp2_with (at_builtin; refine Lib.wpList_append_run _ rfl _ _ _ _ rfl _ _ rfl rfl _ _ hr ?_)
    all_goals (go_ret; exact ⟨_, _, rfl, H1.out, h2, h3⟩)

theorem overlaps_not {w : World} {vb g o : Nat} {p : Sp} {cur : Array Value} (hv : One w vb p) (hne : vb ≠ g) (hg : w.heap[g]? = some (.cells cur 49 (0, 0))) (hs : cur.size ≠ 0) (lb cb : Nat) :
    (callFunc 32 #[.slice (some ⟨vb, 0, none⟩) 1 1, .slice (some ⟨g, o, none⟩) lb cb]).run Try.prog w = .ok (.value (.bool false)) w := by
  obtain ⟨i0, hi0, hz0, hz1, hz2⟩ := info_parts info49
  have hsz : ∀ w, (sizeOf 49).run Try.prog w = .ok 2 w := by intro w; simp [sizeOf, typeInfo, hi0, hz1]
  have hv' : w.heap[vb]? = some (.cells #[.int .i64 p.1, .int .i64 p.2] 49 (0, 0)) := hv
  rw [run_callFunc_extern Try.func32 (by kernel_rfl) (by kernel_rfl) (by kernel_rfl) (e := Extern.SlicesOverlaps.overlaps #[30, 30] #[4]) (by kernel_rfl),
    Lib.run_overlaps_apart w 30 4 49 Try.underlying30 2 hsz ⟨vb, 0, none⟩ ⟨g, o, none⟩ 1 1 lb cb hne 49 49 2 cur.size (by simp [World.shape?, hv']) (by simp [World.shape?, hg]) hs (frozen_of_row w vb 0 _ 49 hv) (frozen_of_row w vb _ _ 49 hv)]
  rfl

theorem flat3 (xs ys : List Sp) (p : Sp) (R : List Value) {m : Nat} (hm : xs.length + 1 + ys.length = m) : (flat xs ++ flat [p] ++ (flat ys ++ R)).take (m * 2) = flat (xs ++ p :: ys) := by
  have e : flat xs ++ flat [p] ++ (flat ys ++ R) = flat (xs ++ p :: ys) ++ R := by
    rw [flat_append, flat_cons]; simp [flat]
  rw [e]
  exact List.take_left' (by rw [flat_len, ← hm]; simp; omega)

theorem shift_list {C R : List Value} {n i : Nat} {xs : List Sp} {p : Sp} (h4 : C.take (n * 2) = flat xs) (hl : xs.length = n) (hC : (n + 1) * 2 ≤ C.length) (hi : i < n) :
    ((C.take ((i + 1) * 2) ++ flat (xs.drop i) ++ R).take (i * 2) ++ flat [p] ++ (C.take ((i + 1) * 2) ++ flat (xs.drop i) ++ R).drop (i * 2 + (flat [p]).length)).take ((n + 1) * 2) = flat (xs.take i ++ p :: xs.drop i) := by
  have e1 : (C.take ((i + 1) * 2)).length = (i + 1) * 2 := by rw [List.length_take]; omega
  have e2 : (C.take ((i + 1) * 2) ++ flat (xs.drop i) ++ R).take (i * 2) = flat (xs.take i) := by
    rw [List.append_assoc, List.take_append_of_le_length (by omega), List.take_take, ← flat_take, ← h4, List.take_take]
    congr 1
    omega
  have e3 : (C.take ((i + 1) * 2) ++ flat (xs.drop i) ++ R).drop (i * 2 + (flat [p]).length) = flat (xs.drop i) ++ R := by
    rw [List.append_assoc]; exact List.drop_left' (by rw [e1, flat_len]; simp; omega)
  rw [e2, e3]
  exact flat3 _ _ _ _ (by simp; omega)

theorem grow_list {C R S : List Value} {n i : Nat} {xs : List Sp} {p : Sp} (h4 : C.take (i * 2) = flat (xs.take i)) (hl : xs.length = n) (hi : i < n) :
    ((C.take (i * 2) ++ flat [p] ++ R).take ((i + 1) * 2) ++ flat (xs.drop i) ++ S).take ((n + 1) * 2) = flat (xs.take i ++ p :: xs.drop i) := by
  have e2 : (C.take (i * 2) ++ flat [p] ++ R).take ((i + 1) * 2) = flat (xs.take i) ++ flat [p] := by
    rw [h4]
    exact List.take_left' (by rw [List.length_append, flat_len, flat_len, List.length_take]; simp; omega)
  rw [e2, List.append_assoc]
  exact flat3 _ _ _ _ (by simp; omega)

set_option maxHeartbeats 1000000 in
set_option maxRecDepth 100000 in
/-- There is room: in place. -/
theorem insert_shift (base g n cap i vb : Nat) (xs : List Sp) (p : Sp) (w : World) (ho : Own w base (some ⟨g, 0, none⟩) n cap xs) (hv : One w vb p) (hvg : vb ≠ g) (hn : n ≤ 100) (hi : i < n) (hroom : n + 1 ≤ cap) :
    Calls Try.prog 31 #[.slice (some ⟨g, 0, none⟩) n cap, .int .i64 i, .slice (some ⟨vb, 0, none⟩) 1 1] w fun e w' => e = .returned (.slice (some ⟨g, 0, none⟩) (n + 1) cap) ∧ Own w' base (some ⟨g, 0, none⟩) (n + 1) cap (xs.take i ++ p :: xs.drop i) ∧ Keep (fun b => b = g) w w' := by
  have hl := ho.len
  rcases ho.row with ⟨h, _⟩ | ⟨g', cur, hg', hbg, hg, h1, h2, h3, h4⟩
  · cases h
  cases hg'
  have hov := fun lb cb => overlaps_not (o := (i + 1) * 2) hv hvg hg (by omega) lb cb
  have hz2 : ¬ ((i : Int) = (n : Int)) := by omega
  have hcap : (cap : Int) ≤ 9223372036854775807 := by unfold maxLen at h2; omega
  have htn : ((i : Int) + 1).toNat = i + 1 := by omega
  have HG := hid hg
  have HV := hid hv
  have H4 := hid h4
  have hci : ¬ cap = i := by omega
  have hci1 : ¬ cap = i + 1 := by omega
  have hw1 : IntKind.i64.wrap ((i : Int) + 1) = (i : Int) + 1 := by rw [IntKind.wrap_i64]; omega
  have hb0 : (0 : Int) ≤ (i : Int) + 1 := by omega
  have hb1 : (i : Int) + 1 ≤ (n : Int) + 1 := by omega
  have hb3 : (i : Int) ≤ (n : Int) + 1 := by omega
  clear ho hg hv h4
  go_enter Try.func31, Try.ntmps31
  go_wp2_with (simp only [hov])
  have hld : (flat (xs.drop i)).length = (n - i) * 2 := by rw [flat_len, List.length_drop]; omega
  have hlt : (flat (xs.take i)).length = i * 2 := by rw [flat_len, List.length_take]; omega
  go_region_law (refine step_copy2 rfl _ _ rfl g ((i + 1) * 2) (n + 1 - (i + 1)) (cap - (i + 1)) (by simp [Act.eval, Act.put]) ⟨g, i * 2, none⟩ (n + 1 - i) (cap - i) (by simp [Act.eval, Act.put]) cur HG.out (flat (xs.drop i)) (by rw [hld]; congr 1; omega) (row_src HG.out hl H4.out) (by rw [hld]; omega) (flat_one _) ?_; intro w2 hk2 hg2)
  have HG2 := hid hg2
  clear hg2
  obtain ⟨w3, hr, hk3, hg3⟩ := copy_ex w2 g (i * 2) (n + 1 - i) (cap - i) ⟨vb, 0, none⟩ 1 1 _ HG2.out (flat [p]) (by simp [flat]; omega) (HV.out.keep hk2.ofDrew (fun e => hvg e)).src (by simp [flat_len, hld]; omega) (flat_one _)
  have HG3 := hid hg3
  clear hg3
  go_wp2
  go_ret
  refine ⟨rfl, own_mk (by simp; omega) hbg HG3.out hroom h2 (by simp [flat_len]; omega) ?_, (Keep.ofDrew hk2).trans hk3⟩
  exact shift_list H4.out hl (by simp; omega) hi

set_option maxHeartbeats 1000000 in
set_option maxRecDepth 100000 in
/-- There is no room: a new row. -/
theorem insert_grow (base g n i vb : Nat) (xs : List Sp) (p : Sp) (w : World) (ho : Own w base (some ⟨g, 0, none⟩) n n xs) (hv : One w vb p) (hn : n ≤ 100) (hi : i < n) (hb : base ≤ w.heap.size) :
    Calls Try.prog 31 #[.slice (some ⟨g, 0, none⟩) n n, .int .i64 i, .slice (some ⟨vb, 0, none⟩) 1 1] w fun e w' => ∃ cap', e = .returned (.slice (some ⟨w.heap.size, 0, none⟩) (n + 1) cap') ∧ Own w' base (some ⟨w.heap.size, 0, none⟩) (n + 1) cap' (xs.take i ++ p :: xs.drop i) ∧ Q w w' := by
  have hl := ho.len
  rcases ho.row with ⟨h, _⟩ | ⟨g', cur, hg', hbg, hg, h1, h2, h3, h4⟩
  · cases h
  cases hg'
  obtain ⟨cap, cur', hr, hc1, hc2, hc3, hc4⟩ := append_zeros hb hg hl h4 hi hn
  have hz2 : ¬ ((i : Int) = (n : Int)) := by omega
  have hcap : (cap : Int) ≤ 9223372036854775807 := by unfold maxLen at hc2; omega
  have htn : ((i : Int) + 1).toNat = i + 1 := by omega
  have hci : ¬ cap = i := by omega
  have hci1 : ¬ cap = i + 1 := by omega
  have hni : ¬ n = i := by omega
  have hw1 : IntKind.i64.wrap ((i : Int) + 1) = (i : Int) + 1 := by rw [IntKind.wrap_i64]; omega
  have hb0 : (0 : Int) ≤ (i : Int) + 1 := by omega
  have hb1 : (i : Int) + 1 ≤ (n : Int) + 1 := by omega
  have hb3 : (i : Int) ≤ (n : Int) := by omega
  have hld : (flat (xs.drop i)).length = (n - i) * 2 := by rw [flat_len, List.length_drop]; omega
  have hlt : (flat (xs.take i)).length = i * 2 := by rw [flat_len, List.length_take]; omega
  have hQ1 : Q w (w.drew.alloc (.cells cur' 49)) := ((Q.refl w).drew).alloc _
  have hgw : g < w.heap.size := lt_of_block hg
  have hg1 : (w.drew.alloc (.cells cur' 49)).heap[w.heap.size]? = some (.cells cur' 49 (0, 0)) := heap_alloc_new w.drew _
  obtain ⟨W1, hW1⟩ : ∃ W1, W1 = w.drew.alloc (.cells cur' 49) := ⟨_, rfl⟩
  rw [← hW1] at hr hQ1 hg1
  obtain ⟨w3, hr3, hk3, hg3⟩ := copy_ex W1 w.heap.size (i * 2) (n + 1 - i) (cap - i) ⟨vb, 0, none⟩ 1 1 _ hg1 (flat [p]) (by simp [flat]; omega) (hv.q hQ1).src (by simp [flat_len]; omega) (flat_one _)
  have hgo : w3.heap[g]? = some (.cells cur 49 (0, 0)) := by
    rw [hk3.block g (by have := hQ1.size; omega) (by omega), Below.block hQ1 g hgw]; exact hg
  have HG := hid hgo
  have HV := hid hv
  have H4 := hid h4
  have HG3 := hid hg3
  have HW := hid hW1
  clear ho hg hv h4 hg3 hgo hW1
  go_enter Try.func31, Try.ntmps31
  go_wp2_with (at_builtin; refine Lib.wpList_append_run _ rfl _ _ _ _ rfl _ _ rfl rfl _ _ hr ?_)
  go_region_law (refine step_copy2 rfl _ _ rfl w.heap.size ((i + 1) * 2) (n + 1 - (i + 1)) (cap - (i + 1)) (by simp [Act.eval, Act.put]) ⟨g, i * 2, none⟩ (n - i) (n - i) (by simp [Act.eval, Act.put]) _ HG3.out (flat (xs.drop i)) (by rw [hld]; congr 1; omega) (row_src HG.out hl H4.out) (by simp [flat_len]; omega) (flat_one _) ?_; intro w4 hk4 hg4)
  have HG4 := hid hg4
  clear hg4
  go_wp2
  go_ret
  refine ⟨cap, rfl, own_mk (by simp; omega) hb HG4.out hc1 hc2 (by simp [flat_len]; omega) (grow_list hc4 hl hi), (((Keep.ofQ (F := fun k => k = w.heap.size) hQ1).trans hk3).trans hk4.ofDrew).toQ (fun i hi e => by omega)⟩

theorem insert_any (base : Nat) (a : Option Addr) (n cap i vb : Nat) (xs : List Sp) (p : Sp) (w : World) (ho : Own w base a n cap xs) (hv : One w vb p) (hvg : blk a ≠ some vb) (hn : n ≤ 100) (hi : i ≤ n) (hb : base ≤ w.heap.size) :
    Calls Try.prog 31 #[.slice a n cap, .int .i64 i, .slice (some ⟨vb, 0, none⟩) 1 1] w fun e w' => ∃ a' cap', e = .returned (.slice a' (n + 1) cap') ∧ Own w' base a' (n + 1) cap' (xs.take i ++ p :: xs.drop i) ∧ (blk a' = blk a ∨ blk a' = some w.heap.size) ∧ Keep (fun b => blk a = some b) w w' := by
  by_cases hin : i = n
  · subst hin
    exact insert_end base a i cap vb xs p w ho hv hn hb
  · rcases ho.row with ⟨rfl, rfl, rfl, rfl⟩ | ⟨g, cur, rfl, hbg, hg, h5, h6, h7, h8⟩
    · omega
    · by_cases hroom : n + 1 ≤ cap
      · refine (insert_shift base g n cap i vb xs p w ho hv (fun e => hvg (by rw [e]; rfl)) hn (by omega) hroom).mono ?_
        rintro e w' ⟨rfl, h1, h2⟩
        exact ⟨_, _, rfl, h1, .inl rfl, h2.atRow⟩
      · obtain rfl : cap = n := by omega
        refine (insert_grow base g cap i vb xs p w ho hv hn (by omega) hb).mono ?_
        rintro e w' ⟨cap', rfl, h1, h2⟩
        exact ⟨_, _, rfl, h1, .inr rfl, Keep.ofQ h2⟩

end Go.Proofs.Ytmcemfjnenfcaaa
