/-
  append of one span to a row of spans of any length that memory bears, and what Add does to how many spans there are: for the walk of the law SpansHas.
-/
import Derived.Test.YtmcemfjnenfcaaaLaw
import Derived.Deep.DeepAppendWide
namespace Go.Proofs.Ytmcemfjnenfcaaa
open Go.RowKit
set_option linter.unusedVariables false

theorem grown_own_big {w : World} {base n old : Nat} {xs : List Sp} {z : Value} {zc : Array Value} (hz : z.cells = zc) (hzs : zc.size = 2) (hl : xs.length = n) (hb : base ≤ w.heap.size) (hn : n ≤ maxLen) (ys : Array Value) (hy : ys.toList = flat xs) :
    Own (w.drew.alloc (.cells (ys ++ Builtin.zeroCells z.cells (grownCap w n old 49 - n)) 49)) base (some ⟨w.heap.size, 0, none⟩) n (grownCap w n old 49) xs := by
  have hge := grownCap_ge w n old 49
  have hsz : ys.size = n * 2 := by rw [← Array.length_toList, hy, flat_len, hl]
  refine own_mk hl hb (heap_alloc_new w.drew _) hge (grownCap_le_maxLen w n old 49 hn) ?_ ?_
  · simp only [Array.size_append, size_zeroCells, hz, hzs, hsz]
    omega
  · rw [Array.toList_append, hy]
    exact List.take_left' (by rw [flat_len, hl])

theorem append_one_big {w : World} {base : Nat} {a : Option Addr} {n cap vb : Nat} {xs : List Sp} {p : Sp} (ho : Own w base a n cap xs) (hv : One w vb p) (hn : n ≤ 8796093022208) (hb : base ≤ w.heap.size) :
    ∃ a' cap' w', (Builtin.append_ #[30, 30] 30 #[.slice a n cap, .slice (some ⟨vb, 0, none⟩) 1 1]).run Try.prog w = .ok (.slice a' (n + 1) cap') w' ∧ Own w' base a' (n + 1) cap' (xs ++ [p]) ∧ (blk a' = blk a ∨ blk a' = some w.heap.size) ∧ Keep (fun b => blk a = some b) w w' := by
  obtain ⟨i0, hi, hz0, hz1, hz2⟩ := info_parts info49
  have hl := ho.len
  have hc : (Value.agg #[.int .i64 0, .int .i64 0]).cells = #[.int .i64 0, .int .i64 0] := rfl
  rcases ho.row with ⟨rfl, rfl, rfl, rfl⟩ | ⟨g, cur, rfl, hbg, hg, h1, h2, h3, h4⟩
  · have hr := run_append_nil (P := Try.prog) w 30 30 49 i0 _ Try.underlying30 hi hz0 ⟨vb, 0, none⟩ 1 1 (flat [p]) (by rw [hz1]; rfl) hv.src (by omega) (by omega) (by omega)
    refine ⟨_, _, _, hr, ?_, .inr rfl, ((Keep.refl _ w).drew).alloc _⟩
    exact grown_own_big (n := 1) hc rfl rfl hb (by unfold maxLen; omega) (flat [p]).toArray rfl
  · by_cases hroom : n + 1 ≤ cap
    · have hr := run_append_room (P := Try.prog) w 30 30 49 i0 Try.underlying30 hi g n cap cur hg ⟨vb, 0, none⟩ 1 1 (flat [p]) (by rw [hz1]; rfl) hv.src (flat_one _) hroom (by rw [hz1, flat_len]; simp; omega)
      rw [hz1] at hr
      refine ⟨_, _, _, hr, ?_, .inl rfl, (keep_row hg _).1.atRow⟩
      have hl1 : (flat (xs ++ [p])).length = (n + 1) * 2 := by rw [flat_len]; simp [hl]
      refine own_mk (by simp [hl]) hbg (keep_row hg _).2 hroom h2 ?_ ?_
      · simp [flat_len]; omega
      · rw [h4, ← flat_append]; exact List.take_left' hl1
    · have hr := run_append_grow (P := Try.prog) w 30 30 49 i0 _ Try.underlying30 hi hz0 ⟨g, 0, none⟩ n cap (flat xs) (by rw [hz1, flat_len, hl]) (by
          have := row_src (k := 0) hg hl h4
          simpa using this) ⟨vb, 0, none⟩ 1 1 (flat [p]) (by rw [hz1]; rfl) hv.src (by omega) (by omega) (by rw [hz2]; exact growslice_fits_wide (by omega) (by omega))
      refine ⟨_, _, _, hr, ?_, .inr rfl, ((Keep.refl _ w).drew).alloc _⟩
      exact grown_own_big (n := n + 1) hc rfl (by simp [hl]) hb (by unfold maxLen; omega) ((flat xs).toArray ++ (flat [p]).toArray) (by simp [flat_append])

/-- .. of a span in a block of its own, behind another new block, which stays. -/
theorem append_big {wr : World} {base vb : Nat} {ad : Option Addr} {m cc : Nat} {ys : List Sp} {p : Sp} (ho : Own wr base ad m cc ys) (hm : m ≤ 8796093022208) (hb : base ≤ wr.heap.size) :
    ∃ a' cap' w', (Builtin.append_ #[30, 30] 30 #[.slice ad m cc, .slice (some ⟨wr.heap.size, 0, none⟩) 1 1]).run Try.prog (wr.alloc (.cells #[.int .i64 p.1, .int .i64 p.2] 49)) = .ok (.slice a' (m + 1) cap') w' ∧ Own w' base a' (m + 1) cap' (ys ++ [p]) ∧ (blk a' = blk ad ∨ ∀ b, blk a' = some b → wr.heap.size ≤ b) ∧ Keep (fun b => blk ad = some b) wr w' := by
  have hq : Q wr (wr.alloc (.cells #[.int .i64 p.1, .int .i64 p.2] 49)) := (Q.refl wr).alloc _
  have hv : One (wr.alloc (.cells #[.int .i64 p.1, .int .i64 p.2] 49)) wr.heap.size p := heap_alloc_new wr _
  obtain ⟨a', cap', w', hr, h1, h2, h3⟩ := append_one_big (ho.q hq) hv hm (by have := hq.size; omega)
  refine ⟨a', cap', w', hr, h1, ?_, (Keep.ofQ hq).trans h3⟩
  rcases h2 with h | h
  · exact .inl h
  · refine .inr (fun b hb => ?_)
    rw [h] at hb
    cases hb
    exact hq.size

/-! ### how many spans -/
theorem ad_len {most floor : Int} {xs : List Sp} (f t : Int) : (adL most floor f t xs).length ≤ xs.length + 1 := by
  unfold adL
  split
  · have := merged_len (max f floor) t xs
    unfold fitL
    split
    · rw [List.length_drop]; omega
    · exact this
  · omega
theorem ad_drop {most floor : Int} {xs : List Sp} (f t : Int) (h : adF most floor f t xs ≠ floor) : most < xs.length + 1 := by
  unfold adF at h
  split at h
  · have := merged_len (max f floor) t xs
    unfold fitF at h
    split at h
    · omega
    · exact absurd rfl h
  · exact absurd rfl h
theorem ad_err {most floor : Int} {xs : List Sp} {f t : Int} (h : adE f t ≠ 0) : adF most floor f t xs = floor ∧ adL most floor f t xs = xs := by
  have : ¬ lays floor f t := fun hl => h (adE_zero.2 hl.1)
  unfold adF adL
  rw [if_neg this, if_neg this]
  exact ⟨rfl, rfl⟩

/-- What holds of a set and of the spans that were laid. -/
structure Laid (floor : Int) (xs gs : List Sp) : Prop where
  had : floor = 0 → ∀ x, had floor xs x ↔ inL gs x
  few : floor = 0 → xs.length ≤ gs.length
  many : floor ≠ 0 → 64 < gs.length
  good : ∀ y ∈ gs, 0 ≤ y.1 ∧ y.1 ≤ y.2 ∧ y.2 ≤ 4611686018427387903

theorem Laid.add {floor : Int} {xs gs : List Sp} (h : Laid floor xs gs) (ok : Ok 64 floor xs) {y : Sp} (he : adE y.1 y.2 = 0) : Laid (adF 64 floor y.1 y.2 xs) (adL 64 floor y.1 y.2 xs) (gs ++ [y]) := by
  have hf := ad_floor ok y.1 y.2
  have f0 := ok.f0
  refine ⟨?_, ?_, ?_, ?_⟩
  · intro h0 x
    have e : floor = 0 := by omega
    rw [ad_had_iff ok y.1 y.2 (by omega) x, h.had e x, inL_append, inL_cons]
    constructor
    · rintro (h1 | ⟨_, h1⟩)
      · exact .inl h1
      · exact .inr (.inl h1)
    · rintro (h1 | h1 | ⟨z, hz, _⟩)
      · exact .inl h1
      · exact .inr ⟨he, h1⟩
      · cases hz
  · intro h0
    have := h.few (by omega)
    have := ad_len (most := 64) (floor := floor) (xs := xs) y.1 y.2
    simp only [List.length_append, List.length_cons, List.length_nil]
    omega
  · intro h0
    simp only [List.length_append, List.length_cons, List.length_nil]
    by_cases e : floor = 0
    · have := h.few e
      have := ad_drop (most := 64) (floor := floor) (xs := xs) y.1 y.2 (by omega)
      omega
    · have := h.many e
      omega
  · intro z hz
    rcases List.mem_append.1 hz with hz | hz
    · exact h.good z hz
    · rw [List.mem_singleton.1 hz]; exact adE_zero.1 he

theorem laid_new : Laid 0 [] [] := ⟨fun _ x => by simp [Go.Proofs.Ytmcemfjnenfcaaa.had, inL], fun _ => Nat.le_refl _, fun h => absurd rfl h, fun y hy => by cases hy⟩

theorem Laid.hadB {xs gs : List Sp} (h : Laid 0 xs gs) (ok : Ok 64 0 xs) (x : Int) : hadB 0 xs x = inB gs x := by
  have h1 := hadB_iff ok.ap ok.f0 x
  have h2 := h.had rfl x
  have h3 := inB_iff gs x
  have : Go.Proofs.Ytmcemfjnenfcaaa.hadB 0 xs x = true ↔ inB gs x = true := h1.trans (h2.trans h3.symm)
  cases e1 : Go.Proofs.Ytmcemfjnenfcaaa.hadB 0 xs x <;> cases e2 : inB gs x <;> simp_all

end Go.Proofs.Ytmcemfjnenfcaaa
