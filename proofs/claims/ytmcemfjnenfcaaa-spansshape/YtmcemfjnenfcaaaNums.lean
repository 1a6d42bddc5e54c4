/-
  A row of ints of the law's own, to which two are appended at a time: for the walk of the law SpansShape.
-/
import Derived.Test.YtmcemfjnenfcaaaLaw
import Derived.Test.YtmcemfjnenfcaaaRaise
import Derived.Test.YtmcemfjnenfcaaaOpen
import Derived.Deep.DeepAppendWide
namespace Go.Proofs.Ytmcemfjnenfcaaa
open Go.RowKit
set_option linter.unusedVariables false

theorem info3 : (Try.prog.info? 3).map (fun i => (i.zero, i.size, i.bytes)) = some (some (.int .i64 0), 1, 8) := by kernel_rfl

/-- A row of ints of the law's own. -/
def OwnN (w : World) (base : Nat) (a : Option Addr) (n cap : Nat) (zs : List Int) : Prop := w.ownsRow base 3 1 (.slice a n cap) n (zs.map (Value.int .i64))
theorem OwnN.len {w : World} {base : Nat} {a : Option Addr} {n cap : Nat} {zs : List Int} (h : OwnN w base a n cap zs) : zs.length = n := by
  have := h.1; simpa using this
theorem OwnN.row {w : World} {base : Nat} {a : Option Addr} {n cap : Nat} {zs : List Int} (h : OwnN w base a n cap zs) :
    (a = none ∧ n = 0 ∧ cap = 0 ∧ zs = []) ∨ ∃ g cur, a = some ⟨g, 0, none⟩ ∧ base ≤ g ∧ w.heap[g]? = some (.cells cur 3 (0, 0)) ∧ n ≤ cap ∧ cap ≤ maxLen ∧ cur.size = cap ∧ cur.toList.take n = zs.map (Value.int .i64) := by
  have hl := h.len
  rcases h.2 with ⟨h2, h3⟩ | ⟨g, cap', cur, hv, hb, hg, h1, h2, h3, h4⟩
  · simp only [Value.slice.injEq] at h2
    obtain ⟨rfl, _, rfl⟩ := h2
    exact .inl ⟨rfl, h3, rfl, List.eq_nil_of_length_eq_zero (by omega)⟩
  · simp only [Value.slice.injEq] at hv
    obtain ⟨rfl, _, rfl⟩ := hv
    exact .inr ⟨g, cur, rfl, hb, hg, h1, h2, by omega, by simpa using h4⟩
theorem ownN_nil (w : World) (base : Nat) : OwnN w base none 0 0 [] := World.ownsRow_nil w base 3 1
theorem ownN_mk {w : World} {base g n cap : Nat} {cur : Array Value} {zs : List Int} (hl : zs.length = n) (hb : base ≤ g) (hg : w.heap[g]? = some (.cells cur 3 (0, 0))) (h1 : n ≤ cap) (h2 : cap ≤ maxLen) (h3 : cur.size = cap) (h4 : cur.toList.take n = zs.map (Value.int .i64)) :
    OwnN w base (some ⟨g, 0, none⟩) n cap zs :=
  ⟨by simp [hl], .inr ⟨g, cap, cur, rfl, hb, hg, h1, h2, by omega, by simpa using h4⟩⟩
theorem OwnN.keep {F : Nat → Prop} {w w' : World} {base : Nat} {a : Option Addr} {n cap : Nat} {zs : List Int} (h : OwnN w base a n cap zs) (k : Keep F w w') (hF : ∀ b, blk a = some b → ¬ F b) : OwnN w' base a n cap zs := by
  have hl := h.len
  rcases h.row with ⟨rfl, rfl, rfl, rfl⟩ | ⟨g, cur, rfl, hb, hg, h1, h2, h3, h4⟩
  · exact ownN_nil w' base
  · exact ownN_mk hl hb ((k.block g (lt_of_block hg) (hF g rfl)).trans hg) h1 h2 h3 h4
theorem OwnN.q {w w' : World} {base : Nat} {a : Option Addr} {n cap : Nat} {zs : List Int} (h : OwnN w base a n cap zs) (k : Q w w') : OwnN w' base a n cap zs := h.keep (Keep.ofQ (F := fun _ => False) k) (fun _ _ => id)
theorem OwnN.lt {w : World} {base : Nat} {a : Option Addr} {n cap : Nat} {zs : List Int} (h : OwnN w base a n cap zs) : ∀ b, blk a = some b → base ≤ b ∧ b < w.heap.size := by
  intro b e
  rcases h.row with ⟨rfl, rfl, rfl, rfl⟩ | ⟨g, cur, rfl, hb, hg, h1, h2, h3, h4⟩
  · cases e
  · cases e; exact ⟨hb, lt_of_block hg⟩
theorem OwnN.at_ {w : World} {base : Nat} {a : Option Addr} {n cap k : Nat} {zs : List Int} (h : OwnN w base a n cap zs) (hk : k < n) : ∃ b, a = some ⟨b, 0, none⟩ ∧ w.cell? ⟨b, k, none⟩ = some (.int .i64 (zs.getD k 0)) := by
  have hl := h.len
  rcases h.row with ⟨rfl, rfl, rfl, rfl⟩ | ⟨g, cur, rfl, hb, hg, h1, h2, h3, h4⟩
  · omega
  · refine ⟨g, rfl, ?_⟩
    rw [cell_of_row w g _ cur 3 (0, 0) hg]
    have : cur[k]? = (cur.toList.take n)[k]? := by rw [List.getElem?_take, if_pos hk]; simp
    rw [this, h4, List.getElem?_map, List.getElem?_eq_getElem (by omega), List.getD_eq_getElem?_getD, List.getElem?_eq_getElem (by omega)]
    rfl

theorem ints_one (zs : List Int) : ∀ v ∈ zs.map (Value.int .i64), v.oneCell' = true := by
  intro v hv
  obtain ⟨z, _, rfl⟩ := List.mem_map.1 hv
  rfl

theorem two_src (w : World) (x y : Int) : ∀ j v, ([x, y].map (Value.int .i64))[j]? = some v → (w.alloc (.cells #[.int .i64 x, .int .i64 y] 3)).cell? ((⟨w.heap.size, 0, none⟩ : Addr).add j) = some v := by
  intro j v hj
  rw [addr_add', Nat.zero_add, cell_of_row _ _ _ _ 3 (0, 0) (heap_alloc_new w _)]
  simpa using hj

theorem grownN {w : World} {base n old : Nat} {zs : List Int} {z : Value} {zc : Array Value} (hz : z.cells = zc) (hzs : zc.size = 1) (hl : zs.length = n) (hb : base ≤ w.heap.size) (hn : n ≤ maxLen) (ys : Array Value) (hy : ys.toList = zs.map (Value.int .i64)) :
    OwnN (w.drew.alloc (.cells (ys ++ Builtin.zeroCells z.cells (grownCap w n old 3 - n)) 3)) base (some ⟨w.heap.size, 0, none⟩) n (grownCap w n old 3) zs := by
  have hge := grownCap_ge w n old 3
  have hsz : ys.size = n := by rw [← Array.length_toList, hy, List.length_map, hl]
  refine ownN_mk hl hb (heap_alloc_new w.drew _) hge (grownCap_le_maxLen w n old 3 hn) ?_ ?_
  · simp only [Array.size_append, size_zeroCells, hz, hzs, hsz]
    omega
  · rw [Array.toList_append, hy]
    exact List.take_left' (by simp [hl])

/-- append(had, x, y). -/
theorem append_ints {wr : World} {base : Nat} {a : Option Addr} {n cap : Nat} {zs : List Int} (x y : Int) (ho : OwnN wr base a n cap zs) (hn : n ≤ 11728124029269) (hb : base ≤ wr.heap.size) :
    ∃ a' cap' w', (Builtin.append_ #[47, 47] 47 #[.slice a n cap, .slice (some ⟨wr.heap.size, 0, none⟩) 2 2]).run Try.prog (wr.alloc (.cells #[.int .i64 x, .int .i64 y] 3)) = .ok (.slice a' (n + 2) cap') w' ∧ OwnN w' base a' (n + 2) cap' (zs ++ [x, y]) ∧ (blk a' = blk a ∨ ∀ b, blk a' = some b → wr.heap.size ≤ b) ∧ Keep (fun b => blk a = some b) wr w' := by
  obtain ⟨i0, hi, hz0, hz1, hz2⟩ := info_parts info3
  have hl := ho.len
  have hc : (Value.int .i64 0).cells = #[.int .i64 0] := rfl
  have hq : Q wr (wr.alloc (.cells #[.int .i64 x, .int .i64 y] 3)) := (Q.refl wr).alloc _
  have hsz := hq.size
  have hsrc := two_src wr x y
  have ho' := ho.q hq
  have hk : ∀ {w'}, Keep (fun b => blk a = some b) (wr.alloc (.cells #[.int .i64 x, .int .i64 y] 3)) w' → Keep (fun b => blk a = some b) wr w' := fun h => (Keep.ofQ hq).trans h
  revert hsrc ho' hk hsz
  generalize wr.alloc (.cells #[.int .i64 x, .int .i64 y] 3) = w
  intro hsz hsrc ho' hk
  rcases ho'.row with ⟨rfl, rfl, rfl, rfl⟩ | ⟨g, cur, rfl, hbg, hg, h1, h2, h3, h4⟩
  · have hr := run_append_nil (P := Try.prog) w 47 47 3 i0 _ Try.underlying47 hi hz0 ⟨wr.heap.size, 0, none⟩ 2 2 ([x, y].map (Value.int .i64)) (by rw [hz1]; rfl) hsrc (by omega) (by omega) (by omega)
    refine ⟨_, _, _, hr, ?_, .inr (fun b e => by cases e; exact hsz), hk (((Keep.refl _ w).drew).alloc _)⟩
    exact grownN (n := 2) hc rfl rfl (by omega) (by unfold maxLen; omega) ([x, y].map (Value.int .i64)).toArray rfl
  · by_cases hroom : n + 2 ≤ cap
    · have hr := run_append_room (P := Try.prog) w 47 47 3 i0 Try.underlying47 hi g n cap cur hg ⟨wr.heap.size, 0, none⟩ 2 2 ([x, y].map (Value.int .i64)) (by rw [hz1]; rfl) hsrc (ints_one _) hroom (by rw [hz1]; simp; omega)
      rw [hz1, Nat.mul_one] at hr
      refine ⟨_, _, _, hr, ?_, .inl rfl, hk ?_⟩
      · refine ownN_mk (by simp [hl]) hbg (setRow_heap w g cur _ 3 _ hg) hroom h2 ?_ ?_
        · simp; omega
        · rw [h4, ← List.map_append]; exact List.take_left' (by simp [hl])
      · exact ((Keep.refl (fun k => k = g) w).setRow g _ (.inl rfl)).atRow
    · have hr := run_append_grow (P := Try.prog) w 47 47 3 i0 _ Try.underlying47 hi hz0 ⟨g, 0, none⟩ n cap (zs.map (Value.int .i64)) (by rw [hz1]; simp [hl]) (by
          intro j v hj
          rw [addr_add', Nat.zero_add, cell_of_row w g _ cur 3 (0, 0) hg]
          rw [← h4, List.getElem?_take] at hj
          split at hj
          · simpa using hj
          · cases hj) ⟨wr.heap.size, 0, none⟩ 2 2 ([x, y].map (Value.int .i64)) (by rw [hz1]; rfl) hsrc (by omega) (by omega) (by rw [hz2]; exact growslice_fits_wide (by omega) (by omega))
      refine ⟨_, _, _, hr, ?_, .inr (fun b e => by cases e; exact hsz), hk (((Keep.refl _ w).drew).alloc _)⟩
      exact grownN (n := n + 2) hc rfl (by simp [hl]) (by omega) (by unfold maxLen; omega) ((zs.map (Value.int .i64)).toArray ++ ([x, y].map (Value.int .i64)).toArray) (by simp)

theorem Q.overN {w wr w' : World} {ad : Option Addr} {m cc : Nat} {ys : List Int} (h : Q w wr) (ho : OwnN wr w.heap.size ad m cc ys) (k : Keep (fun b => blk ad = some b) wr w') : Q w w' := by
  have k1 : Keep (fun b => w.heap.size ≤ b) w w' := (Keep.ofQ h).trans (k.mono (fun i _ e => (ho.lt i e).1))
  exact k1.toQ (fun i hi e => by omega)

/-- Two spans that follow one another lie apart. -/
theorem Ap.next {lo : Int} {xs : List Sp} (h : Ap lo xs) {i : Nat} (hi : i + 1 < xs.length) : (xs.getD i (0, 0)).2 + 2 ≤ (xs.getD (i + 1) (0, 0)).1 := by
  have h1 := h.drop i
  rw [drop_cons (by omega), drop_cons hi] at h1
  exact h1.2.2.2.1

end Go.Proofs.Ytmcemfjnenfcaaa
