/-
  What slices.Replace does to a row of spans, with one span: contracts that the walks use.
-/
import Derived.Test.YtmcemfjnenfcaaaIns
import Derived.BigQuiet
import Derived.Deep.QuietTactic
namespace Go.Proofs.Ytmcemfjnenfcaaa
open Go.RowKit
set_option linter.unusedVariables false

set_option maxHeartbeats 1000000 in
set_option maxRecDepth 100000 in
/-- slices.Replace at the row's end. -/
theorem replace_end (base g n cap i vb : Nat) (xs : List Sp) (p : Sp) (w : World) (ho : Own w base (some ⟨g, 0, none⟩) n cap xs) (hv : One w vb p) (hn : n ≤ 100) (hi : i < n) :
    Calls Try.prog 26 #[.slice (some ⟨g, 0, none⟩) n cap, .int .i64 i, .int .i64 n, .slice (some ⟨vb, 0, none⟩) 1 1] w fun e w' => e = .returned (.slice (some ⟨g, 0, none⟩) (i + 1) cap) ∧ Own w' base (some ⟨g, 0, none⟩) (i + 1) cap (xs.take i ++ [p]) ∧ Keep (fun b => b = g) w w' := by
  obtain ⟨i0, hi0, hz0, hz1, hz2⟩ := info_parts info49
  have hl := ho.len
  rcases ho.row with ⟨h, _⟩ | ⟨g', cur, hg', hbg, hg, h1, h2, h3, h4⟩
  · cases h
  cases hg'
  have hr := run_append_room (P := Try.prog) w 30 30 49 i0 Try.underlying30 hi0 g i cap cur hg ⟨vb, 0, none⟩ 1 1 (flat [p]) (by rw [hz1]; rfl) hv.src (flat_one _) (by omega) (by rw [hz1, flat_len]; simp; omega)
  rw [hz1] at hr
  have hk := keep_row hg (List.take (i * 2) cur.toList ++ flat [p] ++ List.drop (i * 2 + (flat [p]).length) cur.toList)
  obtain ⟨w1, hw1⟩ : ∃ w1, w1 = w.setRow g (List.take (i * 2) cur.toList ++ flat [p] ++ List.drop (i * 2 + (flat [p]).length) cur.toList).toArray := ⟨_, rfl⟩
  rw [← hw1] at hr hk
  have hz3 : ¬ ((i : Int) = (n : Int)) := by omega
  have hcap : (cap : Int) ≤ 9223372036854775807 := by unfold maxLen at h2; omega
  have hci : ¬ cap = i := by omega
  have hlen : (List.take (i * 2) cur.toList ++ flat [p] ++ List.drop (i * 2 + (flat [p]).length) cur.toList).length = cap * 2 := by simp [flat_len]; omega
  have htk : (List.take (i * 2) cur.toList ++ flat [p] ++ List.drop (i * 2 + (flat [p]).length) cur.toList).take ((i + 1) * 2) = flat (xs.take i ++ [p]) := by
    have : List.take (i * 2) cur.toList = flat (xs.take i) := by
      rw [← flat_take, ← h4, List.take_take]; congr 1; omega
    rw [this, ← flat_append]
    exact List.take_left' (by rw [flat_len]; simp; omega)
  have HT := hid htk
  have HK := hid hk
  have HL := hid hlen
  clear ho hg hv h4 hw1 htk hk hlen h3 hi0 hz0 hz1 hz2
  by_cases hlast : i + 1 = n
  · subst hlast
    go_enter Try.func26, Try.ntmps26
    go_wp2_with (at_builtin; refine Lib.wpList_append_run _ rfl _ _ _ _ rfl _ _ rfl rfl _ _ hr ?_)
    go_ret
    exact ⟨rfl, own_mk (by simp; omega) hbg HK.out.2 (by omega) h2 HL.out HT.out, HK.out.1⟩
  · have hnl : (i : Int) + 1 < (n : Int) := by omega
    have hci1 : ¬ cap = i + 1 := by omega
    obtain ⟨w3, cur3, hr3, hk3, hg3, h5, h6⟩ := clear_ex w1 g ((i + 1) * 2) (n - (i + 1)) (cap - (i + 1)) _ HK.out.2 (by simp [flat_len]; have := HL.out; simp [flat_len] at this; omega)
    have HG3 := hid hg3
    have H5 := hid h5
    have H6 := hid h6
    clear hg3 h5 h6
    go_enter Try.func26, Try.ntmps26
    go_wp2_with (at_builtin; refine Lib.wpList_append_run _ rfl _ _ _ _ rfl _ _ rfl rfl _ _ hr ?_)
    go_ret
    exact ⟨rfl, own_mk (by simp; omega) hbg HG3.out (by omega) h2 (H5.out.trans HL.out) (H6.out.trans HT.out), HK.out.1.trans hk3⟩

theorem mid_list {C R : List Value} {n i j : Nat} {xs : List Sp} {p : Sp} (h4 : C.take (n * 2) = flat xs) (hl : xs.length = n) (hij : i < j) (hjn : j < n) (hC : n * 2 ≤ C.length) :
    ((C.take (i * 2) ++ flat [p] ++ C.drop (i * 2 + (flat [p]).length)).take ((i + 1) * 2) ++ flat (xs.drop j) ++ R).take ((i + 1 + (n - j)) * 2) = flat (xs.take i ++ p :: xs.drop j) := by
  have e0 : C.take (i * 2) = flat (xs.take i) := by
    rw [← flat_take, ← h4, List.take_take]; congr 1; omega
  have e2 : (C.take (i * 2) ++ flat [p] ++ C.drop (i * 2 + (flat [p]).length)).take ((i + 1) * 2) = flat (xs.take i) ++ flat [p] := by
    rw [e0]
    exact List.take_left' (by rw [List.length_append, flat_len, flat_len, List.length_take]; simp; omega)
  rw [e2, List.append_assoc]
  exact flat3 _ _ _ _ (by simp; omega)

theorem mid_src {C : List Value} {n i j : Nat} {xs : List Sp} {p : Sp} (h4 : C.take (n * 2) = flat xs) (hl : xs.length = n) (hij : i < j) (hjn : j < n) (hC : n * 2 ≤ C.length) :
    ((C.take (i * 2) ++ flat [p] ++ C.drop (i * 2 + (flat [p]).length)).drop (j * 2)).take (flat (xs.drop j)).length = flat (xs.drop j) := by
  have e1 : (C.take (i * 2) ++ flat [p]).length = (i + 1) * 2 := by rw [List.length_append, flat_len, List.length_take]; simp; omega
  have e2 : (C.take (i * 2) ++ flat [p] ++ C.drop (i * 2 + (flat [p]).length)).drop (j * 2) = C.drop (j * 2) := by
    rw [List.drop_append, e1, List.drop_of_length_le (by omega), List.nil_append, List.drop_drop, flat_len]
    congr 1
    simp
    omega
  rw [e2, ← flat_drop, ← h4, List.drop_take, List.length_take, List.length_drop]
  congr 1
  omega

set_option maxHeartbeats 1000000 in
set_option maxRecDepth 100000 in
/-- slices.Replace amid the row. -/
theorem replace_mid (base g n cap i j vb : Nat) (xs : List Sp) (p : Sp) (w : World) (ho : Own w base (some ⟨g, 0, none⟩) n cap xs) (hv : One w vb p) (hn : n ≤ 100) (hij : i < j) (hjn : j < n) :
    Calls Try.prog 26 #[.slice (some ⟨g, 0, none⟩) n cap, .int .i64 i, .int .i64 j, .slice (some ⟨vb, 0, none⟩) 1 1] w fun e w' => e = .returned (.slice (some ⟨g, 0, none⟩) (i + 1 + (n - j)) cap) ∧ Own w' base (some ⟨g, 0, none⟩) (i + 1 + (n - j)) cap (xs.take i ++ p :: xs.drop j) ∧ Keep (fun b => b = g) w w' := by
  have hl := ho.len
  rcases ho.row with ⟨h, _⟩ | ⟨g', cur, hg', hbg, hg, h1, h2, h3, h4⟩
  · cases h
  cases hg'
  have hz3 : ¬ ((i : Int) = (j : Int)) := by omega
  have hz4 : ¬ ((j : Int) = (n : Int)) := by omega
  have hcap : (cap : Int) ≤ 9223372036854775807 := by unfold maxLen at h2; omega
  have hci : ¬ cap = i := by omega
  have hci1 : ¬ cap = i + 1 := by omega
  have hcj : ¬ cap = j := by omega
  have hin : (i : Int) ≤ (n : Int) := by omega
  have hjn' : (j : Int) ≤ (n : Int) := by omega
  have hcp := fun k => copy_ex (w.drewN k) g (i * 2) (i + 1 + (n - j) - i) (cap - i) ⟨vb, 0, none⟩ 1 1 cur hg (flat [p]) (by simp [flat]; omega) (hv.q ((Q.refl w).drewN k)).src (by simp [flat_len]; omega) (flat_one _)
  have hld : (flat (xs.drop j)).length = (n - j) * 2 := by rw [flat_len, List.length_drop]; omega
  have hw1 : IntKind.i64.wrap ((i : Int) + 1) = (i : Int) + 1 := by rw [IntKind.wrap_i64]; omega
  have htn : ((i : Int) + 1).toNat = i + 1 := by omega
  have hb0 : (0 : Int) ≤ (i : Int) + 1 := by omega
  have hb1 : (i : Int) + 1 ≤ (i : Int) + 1 + ((n - j : Nat) : Int) := by omega
  have HP := hid hcp
  have H4 := hid h4
  have H3 := hid h3
  clear ho hv hg h4 h3 hcp
  go_enter Try.func26, Try.ntmps26
  go_wp2
  go_quiet (fail)
  obtain ⟨w2, hr2, hk2, hg2⟩ := HP.out nq
  have HG2 := hid hg2
  clear hg2
  go_wp2
  go_region_law (refine step_copy2 rfl _ _ rfl g ((i + 1) * 2) (i + 1 + (n - j) - (i + 1)) (cap - (i + 1)) (by simp [Act.eval, Act.put]) ⟨g, j * 2, none⟩ (n - j) (cap - j) (by simp [Act.eval, Act.put]) _ HG2.out (flat (xs.drop j)) (by rw [hld]; congr 1; omega) (row_src2 HG2.out (mid_src H4.out hl hij hjn (by have := H3.out; simp; omega))) (by have := H3.out; simp [flat_len]; omega) (flat_one _) ?_; intro w4 hk4 hg4)
  have HG4 := hid hg4
  clear hg4
  have hml : ∀ R, ((cur.toList.take (i * 2) ++ flat [p] ++ cur.toList.drop (i * 2 + (flat [p]).length)).take ((i + 1) * 2) ++ flat (xs.drop j) ++ R).take ((i + 1 + (n - j)) * 2) = flat (xs.take i ++ p :: xs.drop j) := fun R => mid_list H4.out hl hij hjn (by have := H3.out; simp; omega)
  have HM := hid hml
  clear hml
  have hkk : Keep (fun b => b = g) w w4 := (Keep.ofDrewN hk2).trans (Keep.ofDrew hk4)
  have hle : (xs.take i ++ p :: xs.drop j).length = i + 1 + (n - j) := by simp; omega
  by_cases hct : cap = i + 1 + (n - j)
  · have hr5 : (Builtin.clear_ #[30] 0 #[.slice (some ⟨g, 0, none⟩) (n - (i + 1 + (n - j))) 0]).run Try.prog w4 = .ok (.tuple #[]) w4 := by
      rw [show n - (i + 1 + (n - j)) = 0 by omega]; exact clear_run0 w4 0 (some ⟨g, 0, none⟩) 0
    go_wp2
    go_ret
    exact ⟨rfl, own_mk hle hbg HG4.out (by omega) (by omega) (by have := H3.out; simp [flat_len]; omega) (HM.out _), hkk⟩
  · obtain ⟨w5, cur5, hr5, hk5, hg5, h5, h6⟩ := clear_ex w4 g ((i + 1 + (n - j)) * 2) (n - (i + 1 + (n - j))) (cap - (i + 1 + (n - j))) _ HG4.out (by have := H3.out; simp [flat_len]; omega)
    have HG5 := hid hg5
    have H5 := hid h5
    have H6 := hid h6
    clear hg5 h5 h6
    go_wp2
    go_ret
    exact ⟨rfl, own_mk hle hbg HG5.out (by omega) h2 (by rw [H5.out]; have := H3.out; simp [flat_len]; omega) (by rw [H6.out]; exact HM.out _), hkk.trans hk5⟩

set_option maxHeartbeats 2000000 in
set_option maxRecDepth 100000 in
/-- slices.Replace of no span: Insert. -/
theorem replace_none (base : Nat) (a : Option Addr) (n cap i vb : Nat) (xs : List Sp) (p : Sp) (w : World) (ho : Own w base a n cap xs) (hv : One w vb p) (hvg : blk a ≠ some vb) (hn : n ≤ 100) (hi : i ≤ n) (hb : base ≤ w.heap.size) :
    Calls Try.prog 26 #[.slice a n cap, .int .i64 i, .int .i64 i, .slice (some ⟨vb, 0, none⟩) 1 1] w fun e w' => ∃ a' cap', e = .returned (.slice a' (n + 1) cap') ∧ Own w' base a' (n + 1) cap' (xs.take i ++ p :: xs.drop i) ∧ (blk a' = blk a ∨ blk a' = some w.heap.size) ∧ Keep (fun b => blk a = some b) w w' := by
  have HI := hid (insert_any base a n cap i vb xs p w ho hv hvg hn hi hb)
  rcases ho.row with ⟨rfl, rfl, rfl, rfl⟩ | ⟨g, cur, rfl, hbg, hg, h5, h6, h7, h8⟩
  · obtain rfl : i = 0 := by omega
    clear ho hv hvg
    go_enter Try.func26, Try.ntmps26
    go_wp2_with fail
    refine HI.out.mono ?_
    rintro e w' ⟨a', cap', rfl, h1, h2, h3⟩
    have H1 := hid h1
    have H2 := hid h2
    have H3 := hid h3
    clear h1 h2 h3
    go_wp2
    go_ret
    exact ⟨_, _, rfl, H1.out, H2.out, H3.out⟩
  · have hic : (i : Int) ≤ (cap : Int) := by omega
    clear ho hv hg h7 h8 hvg
    by_cases hci : cap = i
    · subst hci
      go_enter Try.func26, Try.ntmps26
      go_wp2_with fail
      refine HI.out.mono ?_
      rintro e w' ⟨a', cap', rfl, h1, h2, h3⟩
      have H1 := hid h1
      have H2 := hid h2
      have H3 := hid h3
      clear h1 h2 h3
      go_wp2
      go_ret
      exact ⟨_, _, rfl, H1.out, H2.out, H3.out⟩
    · go_enter Try.func26, Try.ntmps26
      go_wp2_with fail
      refine HI.out.mono ?_
      rintro e w' ⟨a', cap', rfl, h1, h2, h3⟩
      have H1 := hid h1
      have H2 := hid h2
      have H3 := hid h3
      clear h1 h2 h3
      go_wp2
      go_ret
      exact ⟨_, _, rfl, H1.out, H2.out, H3.out⟩

theorem replace_any (base : Nat) (a : Option Addr) (n cap i j vb : Nat) (xs : List Sp) (p : Sp) (w : World) (ho : Own w base a n cap xs) (hv : One w vb p) (hvg : blk a ≠ some vb) (hn : n ≤ 100) (hij : i ≤ j) (hjn : j ≤ n) (hb : base ≤ w.heap.size) :
    Calls Try.prog 26 #[.slice a n cap, .int .i64 i, .int .i64 j, .slice (some ⟨vb, 0, none⟩) 1 1] w fun e w' => ∃ a' cap', e = .returned (.slice a' (i + 1 + (n - j)) cap') ∧ Own w' base a' (i + 1 + (n - j)) cap' (xs.take i ++ p :: xs.drop j) ∧ (blk a' = blk a ∨ blk a' = some w.heap.size) ∧ Keep (fun b => blk a = some b) w w' := by
  by_cases h0 : i = j
  · subst h0
    have e : i + 1 + (n - i) = n + 1 := by omega
    rw [e]
    exact replace_none base a n cap i vb xs p w ho hv hvg hn hjn hb
  · have hl := ho.len
    rcases ho.row with ⟨rfl, rfl, rfl, rfl⟩ | ⟨g, cur, rfl, hbg, hg, h5, h6, h7, h8⟩
    · omega
    · by_cases hj : j = n
      · subst hj
        rw [show i + 1 + (j - j) = i + 1 by omega, List.drop_of_length_le (by omega)]
        refine (replace_end base g j cap i vb xs p w ho hv hn (by omega)).mono ?_
        rintro e w' ⟨rfl, h1, h2⟩
        exact ⟨_, _, rfl, h1, .inl rfl, h2.atRow⟩
      · refine (replace_mid base g n cap i j vb xs p w ho hv hn (by omega) (by omega)).mono ?_
        rintro e w' ⟨rfl, h1, h2⟩
        exact ⟨_, _, rfl, h1, .inl rfl, h2.atRow⟩

end Go.Proofs.Ytmcemfjnenfcaaa
