/-
  Words on memory for layer 5: what a slice of bytes holds, a row of the program's own that may begin anywhere in its block, which blocks a call may turn, and append on such a row. Nothing is proved of a statement here.
-/
import Derived.Test.YtclapheglgiokaaDoorBase
import Derived.WalkKit
import Derived.WalkSpells
import Derived.WalkLawsBesides
import Derived.Laws.CopyOwn
import Derived.Laws.AppendOwn
import Derived.Deep.AppendSrc
import Derived.Deep.DeepAppendWide
import Derived.Lib.AppendZerosOnto
import Derived.Lib.MinMax
namespace Go.Proofs.YtclapheglgiokaaDoor
open Go.RowKit
set_option linter.unusedVariables false

theorem info3 : (Tryd.prog.info? 3).map (fun i => (i.zero, i.size, i.bytes)) = some (some (.int .i64 0), 1, 8) := by kernel_rfl
theorem info4 : (Tryd.prog.info? 4).map (fun i => (i.zero, i.size, i.bytes)) = some (some (.bool false), 1, 1) := by kernel_rfl

/-! ### frames -/
theorem lt_of_block {w : World} {b : Nat} {o : Obj} (h : w.heap[b]? = some o) : b < w.heap.size := (Array.getElem?_eq_some_iff.1 h).1

/-- Of what was there nothing has turned but the blocks in F. -/
structure Keep (F : Nat → Prop) (w w' : World) : Prop where
  os : w'.os = w.os
  tape : w'.tape = w.tape
  output : w'.output = w.output
  size : w.heap.size ≤ w'.heap.size
  block : ∀ k, k < w.heap.size → ¬ F k → w'.heap[k]? = w.heap[k]?

theorem Keep.refl (F : Nat → Prop) (w : World) : Keep F w w := ⟨rfl, rfl, rfl, Nat.le_refl _, fun _ _ _ => rfl⟩
theorem Keep.trans {F : Nat → Prop} {a b c : World} (h : Keep F a b) (k : Keep F b c) : Keep F a c :=
  ⟨k.os.trans h.os, k.tape.trans h.tape, k.output.trans h.output, Nat.le_trans h.size k.size, fun i hi hne => (k.block i (Nat.lt_of_lt_of_le hi h.size) hne).trans (h.block i hi hne)⟩
/-- .. where the second may turn new blocks besides. -/
theorem Keep.trans' {F G : Nat → Prop} {a b c : World} (h : Keep F a b) (k : Keep G b c) (hG : ∀ i, i < a.heap.size → G i → F i) : Keep F a c :=
  ⟨k.os.trans h.os, k.tape.trans h.tape, k.output.trans h.output, Nat.le_trans h.size k.size, fun i hi hne => (k.block i (Nat.lt_of_lt_of_le hi h.size) (fun hg => hne (hG i hi hg))).trans (h.block i hi hne)⟩
theorem Keep.mono {F G : Nat → Prop} {a b : World} (h : Keep F a b) (hG : ∀ i, i < a.heap.size → F i → G i) : Keep G a b :=
  ⟨h.os, h.tape, h.output, h.size, fun i hi hne => h.block i hi (fun hf => hne (hG i hi hf))⟩
theorem Keep.ofQ {F : Nat → Prop} {a b : World} (h : Q a b) : Keep F a b := ⟨Below.os h, Below.tape h, Below.output h, Below.size h, fun i hi _ => Below.block h i hi⟩
theorem Keep.toQ {F : Nat → Prop} {a b : World} (h : Keep F a b) (hF : ∀ i, i < a.heap.size → ¬ F i) : Q a b := by
  have hg : a.grownBy b none := ⟨h.os, h.tape, h.output, h.size, fun k hk _ => h.block k hk (hF k hk)⟩
  exact (Q.refl a).grown hg
theorem Keep.ofGrown {F : Nat → Prop} {a b : World} {row : Option Nat} (h : a.grownBy b row) (hr : ∀ k, row = some k → F k) : Keep F a b :=
  ⟨h.os, h.tape, h.output, h.size, fun i hi hne => h.block i hi (fun e => hne (hr i e.symm))⟩
theorem Keep.drew {F : Nat → Prop} {a b : World} (h : Keep F a b) : Keep F a b.drew := ⟨h.os, h.tape, h.output, h.size, h.block⟩
theorem Keep.drewN {F : Nat → Prop} {a b : World} (h : Keep F a b) (n : Nat) : Keep F a (b.drewN n) := ⟨h.os, h.tape, h.output, h.size, h.block⟩
theorem Keep.ofDrew {F : Nat → Prop} {a b : World} (h : Keep F a.drew b) : Keep F a b := ⟨h.os, h.tape, h.output, h.size, h.block⟩
theorem Keep.ofDrewN {F : Nat → Prop} {a b : World} {n : Nat} (h : Keep F (a.drewN n) b) : Keep F a b := ⟨h.os, h.tape, h.output, h.size, h.block⟩
theorem Keep.alloc {F : Nat → Prop} {a b : World} (h : Keep F a b) (o : Obj) : Keep F a (b.alloc o) := h.trans (Keep.ofQ ((Q.refl b).alloc o))
theorem Keep.setCell {F : Nat → Prop} {a b : World} (h : Keep F a b) (r j : Nat) (v : Value) (hr : F r ∨ a.heap.size ≤ r) : Keep F a (b.setCell ⟨r, j, none⟩ v) :=
  h.trans' (G := fun k => k = r) ⟨rfl, rfl, rfl, by simp [World.setCell], fun i hi hne => heap_setCell_other b ⟨r, j, none⟩ i v (fun e => hne (by simp [e]))⟩
    (fun i hi e => by subst e; rcases hr with hr | hr; exact hr; omega)
theorem Keep.setRow {F : Nat → Prop} {a b : World} (h : Keep F a b) (r : Nat) (v : Array Value) (hr : F r ∨ a.heap.size ≤ r) : Keep F a (b.setRow r v) :=
  h.trans' (G := fun k => k = r) ⟨rfl, rfl, rfl, by simp, fun i hi hne => setRow_other b r i v (fun e => hne (by simp [e]))⟩
    (fun i hi e => by subst e; rcases hr with hr | hr; exact hr; omega)
theorem Keep.cell {F : Nat → Prop} {a b : World} (h : Keep F a b) {k j : Nat} {v : Value} (hc : a.cell? ⟨k, j, none⟩ = some v) (hne : ¬ F k) : b.cell? ⟨k, j, none⟩ = some v := by
  rw [World.cell?_of_block (w := a) (h.block k (lt_of_cell hc) hne)]; exact hc
theorem Keep.below {F : Nat → Prop} {B : Nat} {w0 a b : World} (h : Keep F a b) (hb : Below B w0 a) (hs : B ≤ a.heap.size) (hF : ∀ i, F i → B ≤ i) : Below B w0 b := by
  have hg : ∀ k, k < B → b.heap[k]? = a.heap[k]? := fun k hk => h.block k (by omega) (fun hf => by have := hF k hf; omega)
  exact ⟨h.os.trans hb.os, h.tape.trans hb.tape, h.output.trans hb.output, by have := h.size; have := hb.size; omega, fun k hk => (hg k hk).trans (hb.block k hk)⟩

/-! ### bytes in memory -/
def blk (a : Option Addr) : Option Nat := a.map (·.block)

theorem Seg.keep {F : Nat → Prop} {w w' : World} {a : Option Addr} {zs : List Int} (h : Seg w a zs) (k : Keep F w w') (hF : ∀ b, blk a = some b → ¬ F b) : Seg w' a zs := by
  intro hne
  obtain ⟨b, off, ha, hc⟩ := h hne
  refine ⟨b, off, ha, fun i hi => k.cell (hc i hi) (hF b (by rw [ha]; rfl))⟩
/-- .. under what leaves all that lies below B. -/
theorem Seg.below {B : Nat} {w w' : World} {a : Option Addr} {zs : List Int} (h : Seg w a zs) (k : Below B w w') (hB : ∀ b, blk a = some b → b < B) : Seg w' a zs := by
  intro hne
  obtain ⟨b, off, ha, hc⟩ := h hne
  refine ⟨b, off, ha, fun i hi => ?_⟩
  rw [Below.cell k (hB b (by rw [ha]; rfl))]; exact hc i hi
theorem addr_add (b off j : Nat) : (⟨b, off, none⟩ : Addr).add j = ⟨b, off + j, none⟩ := by
  by_cases h0 : j = 0
  · simp [Addr.add, h0]
  · simp [Addr.add, h0]
theorem seg_drop {w : World} {b off : Nat} {zs : List Int} (h : Seg w (some ⟨b, off, none⟩) zs) (k : Nat) : Seg w (some ⟨b, off + k, none⟩) (zs.drop k) := by
  intro hne
  obtain ⟨b', off', ha, hc⟩ := h (by intro e; simp [e] at hne)
  simp only [Option.some.injEq, Addr.mk.injEq, and_true] at ha
  obtain ⟨rfl, rfl⟩ := ha
  refine ⟨b, off + k, rfl, fun i hi => ?_⟩
  have hi' : k + i < zs.length := by simp at hi; omega
  rw [show off + k + i = off + (k + i) by omega, hc (k + i) hi']
  simp [List.getD_eq_getElem?_getD]

/-! ### a row of the program's own, from anywhere in its block on -/
/-- The cells that the slice holds, and that its room is there. -/
def Sub (w : World) (e size : Nat) (a : Option Addr) (n cap : Nat) (vs : List Value) : Prop :=
  vs.length = n * size ∧ ((a = none ∧ n = 0 ∧ cap = 0) ∨ ∃ g off cur, a = some ⟨g, off, none⟩ ∧ w.heap[g]? = some (.cells cur e (0, 0)) ∧ n ≤ cap ∧ cap ≤ maxLen ∧ off + cap * size ≤ cur.size ∧ ∀ j, j < n * size → cur[off + j]? = vs[j]?)

section
variable {w w' : World} {e size n cap : Nat} {a : Option Addr} {vs : List Value}
theorem Sub.len (h : Sub w e size a n cap vs) : vs.length = n * size := h.1
theorem sub_nil (w : World) (e size : Nat) : Sub w e size none 0 0 [] := ⟨by simp, .inl ⟨rfl, rfl, rfl⟩⟩
theorem Sub.keep {F : Nat → Prop} (h : Sub w e size a n cap vs) (k : Keep F w w') (hF : ∀ b, blk a = some b → ¬ F b) : Sub w' e size a n cap vs := by
  refine ⟨h.1, ?_⟩
  rcases h.2 with h2 | ⟨g, off, cur, rfl, hg, r⟩
  · exact .inl h2
  · exact .inr ⟨g, off, cur, rfl, (k.block g (lt_of_block hg) (hF g rfl)).trans hg, r⟩
theorem Sub.q (h : Sub w e size a n cap vs) (k : Q w w') : Sub w' e size a n cap vs := h.keep (Keep.ofQ (F := fun _ => False) k) (fun _ _ => id)
theorem Sub.lt (h : Sub w e size a n cap vs) : ∀ b, blk a = some b → b < w.heap.size := by
  intro b hb
  rcases h.2 with ⟨rfl, _⟩ | ⟨g, off, cur, rfl, hg, r⟩
  · cases hb
  · cases hb; exact lt_of_block hg
theorem Sub.some_ (h : Sub w e size a n cap vs) (hn : 0 < n) : ∃ g off, a = some ⟨g, off, none⟩ ∧ (∀ j, w.frozen? ⟨g, j, none⟩ = false) ∧ ∀ j v, vs[j]? = some v → w.cell? ⟨g, off + j, none⟩ = some v := by
  rcases h.2 with ⟨_, h0, _⟩ | ⟨g, off, cur, rfl, hg, h1, h2, h3, h4⟩
  · omega
  · refine ⟨g, off, rfl, fun j => frozen_of_row w g j cur e hg, fun j v hj => ?_⟩
    have hj' : j < n * size := by
      rcases Nat.lt_or_ge j (n * size) with hh | hh
      · exact hh
      · rw [List.getElem?_eq_none (by rw [h.1]; exact hh)] at hj; cases hj
    rw [cell_of_row w g _ cur e (0, 0) hg, h4 j hj', hj]
theorem Sub.slice (h : Sub w e size a n cap vs) {k : Nat} (hk : k ≤ n) (a' : Option Addr) (ha' : a' = if cap = k then a else a.map (·.add (k * size))) : Sub w e size a' (n - k) (cap - k) (vs.drop (k * size)) := by
  refine ⟨by rw [List.length_drop, h.1, Nat.sub_mul], ?_⟩
  rcases h.2 with ⟨rfl, rfl, rfl⟩ | ⟨g, off, cur, rfl, hg, h1, h2, h3, h4⟩
  · exact .inl ⟨by rw [ha']; split <;> rfl, by omega, by omega⟩
  · by_cases hc : cap = k
    · rw [if_pos hc] at ha'
      subst ha'
      refine .inr ⟨g, off, cur, rfl, hg, by omega, by omega, by rw [Nat.sub_mul]; omega, fun j hj => ?_⟩
      have : n - k = 0 := by omega
      rw [this] at hj; omega
    · rw [if_neg hc] at ha'
      subst ha'
      refine .inr ⟨g, off + k * size, cur, by simp only [Option.map_some, addr_add], hg, by omega, by omega, ?_, fun j hj => ?_⟩
      · rw [Nat.add_assoc, ← Nat.add_mul, show k + (cap - k) = cap by omega]; exact h3
      · rw [Nat.sub_mul] at hj
        rw [Nat.add_assoc, h4 (k * size + j) (by omega), List.getElem?_drop]
theorem blk_slice {k : Nat} {a a' : Option Addr} {cap size : Nat} (ha' : a' = if cap = k then a else a.map (·.add (k * size))) : blk a' = blk a := by
  subst ha'
  split
  · rfl
  · cases a with
    | none => rfl
    | some x => simp [blk, Addr.add]; split <;> rfl
theorem Sub.set (h : Sub w e size a n cap vs) {g off j : Nat} (ha : a = some ⟨g, off, none⟩) (hj : j < n * size) (v : Value) : Sub (w.setCell ⟨g, off + j, none⟩ v) e size a n cap (vs.set j v) := by
  refine ⟨by rw [List.length_set, h.1], ?_⟩
  rcases h.2 with ⟨rfl, _⟩ | ⟨g', off', cur, ha2, hg, h1, h2, h3, h4⟩
  · cases ha
  · rw [ha] at ha2
    simp only [Option.some.injEq, Addr.mk.injEq, and_true] at ha2
    obtain ⟨rfl, rfl⟩ := ha2
    have hb := heap_setCell_same w g (off + j) cur e v hg
    refine .inr ⟨g, off, _, ha, hb, h1, h2, by simpa using h3, fun i hi => ?_⟩
    have hs : off + j < cur.size := by have := Nat.mul_le_mul_right size h1; omega
    by_cases hij : i = j
    · subst hij
      simp [h.1, hi, hs]
    · rw [List.getElem?_set, if_neg (fun e => hij e.symm), ← h4 i hi]
      rw [Array.getElem?_setIfInBounds, if_neg (by omega)]
end

section
variable {P : Program}
/-- append where there is room. -/
theorem run_append_in (w : World) (t tx ty e : TypeId) (i : TypeInfo) (ht : P.underlying t = some (.slice e)) (hi : P.info? e = some i) (g off n cap : Nat) (x : Value) (m : Nat) (news : List Value) (hs : Src P i.size tx x m news w)
    (cur : Array Value) (hg : w.heap[g]? = some (.cells cur e (0, 0))) (hroom : n + m ≤ cap) (hfit : off + n * i.size + news.length ≤ cur.size) :
    (Builtin.append_ #[t, tx] ty #[.slice (some ⟨g, off, none⟩) n cap, x]).run P w = .ok (.slice (some ⟨g, off, none⟩) (n + m) cap) (w.setRow g (cur.toList.take (off + n * i.size) ++ news ++ cur.toList.drop (off + n * i.size + news.length)).toArray) := by
  have hst := run_storeCells_at P g (off + n * i.size) e news 0 cur w hg (by simpa using hfit) hs.one
  rcases hs.kind with ⟨e', hk⟩ | hk <;> simp [Builtin.append_, run_underlying ht, run_underlying hk, sizeOf, typeInfo, hi, hs.len, hroom, hs.cells, addr_add, hst]

/-- .. of zeros. -/
theorem run_append_in_zeros (w : World) (t tn ty e : TypeId) (i : TypeInfo) (z : Value) (kq kn : IntKind) (ht : P.underlying t = some (.slice e)) (htn : P.underlying tn = some (.int kn)) (hi : P.info? e = some i) (hz : i.zero = some z) (hzs : z.cells.size = i.size) (h1 : ∀ v ∈ z.cells.toList, v.oneCell' = true) (hsz : 0 < i.size)
    (g off n cap m : Nat) (h0 : 0 < m) (h48 : m * i.bytes ≤ 281474976710656) (hm63 : m ≤ 9223372036854775807)
    (cur : Array Value) (hg : w.heap[g]? = some (.cells cur e (0, 0))) (hroom : n + m ≤ cap) (hfit : off + n * i.size + m * i.size ≤ cur.size) :
    (Builtin.append_ #[t, tn] ty #[.slice (some ⟨g, off, none⟩) n cap, .int kq m]).run P w = .ok (.slice (some ⟨g, off, none⟩) (n + m) cap) (w.setRow g (cur.toList.take (off + n * i.size) ++ (Builtin.zeroCells z.cells m).toList ++ cur.toList.drop (off + n * i.size + m * i.size)).toArray) := by
  have hzl : (Builtin.zeroCells z.cells m).toList.length = m * i.size := by simp [size_zeroCells, hzs]
  have hone : ∀ v ∈ (Builtin.zeroCells z.cells m).toList, v.oneCell' = true := by
    intro v hv
    simp only [Builtin.zeroCells, Array.toList_map, List.mem_map] at hv
    obtain ⟨j, _, rfl⟩ := hv
    refine h1 _ ?_
    have hlt : j % z.cells.size < z.cells.size := Nat.mod_lt _ (by omega)
    rw [getElem!_pos z.cells (j % z.cells.size) hlt]
    exact Array.getElem_mem_toList hlt
  have hst := run_storeCells_at P g (off + n * i.size) e _ 0 cur w hg (by rw [hzl]; simpa using hfit) hone
  rw [hzl] at hst
  have hw : IntKind.i64.wrap (m : Int) = m := by rw [IntKind.wrap_i64]; omega
  have hneg : ¬ ((m : Int) < 0) := by omega
  have hns : ¬ (m * i.size = 0) := Nat.mul_ne_zero (by omega) (by omega)
  have h48i : ¬ (281474976710656 < (m : Int) * (i.bytes : Int)) := by
    rw [← Int.natCast_mul]
    omega
  simp only [Nat.add_zero] at hst
  simp [Builtin.append_, run_underlying ht, run_underlying htn, sizeOf, typeInfo, zeroValue, hi, hz, asInt, asIntOf, hw, hneg, hns, h48i, hroom, addr_add, hst]

theorem run_append_zero (w : World) (t tx ty e : TypeId) (i : TypeInfo) (ht : P.underlying t = some (.slice e)) (hi : P.info? e = some i) (a : Option Addr) (n cap : Nat) (x : Value) (hs : Src P i.size tx x 0 [] w) (hn : n ≤ cap) :
    (Builtin.append_ #[t, tx] ty #[.slice a n cap, x]).run P w = .ok (.slice a n cap) w := by
  rcases hs.kind with ⟨e', hk⟩ | hk <;> cases a <;> simp [Builtin.append_, run_underlying ht, run_underlying hk, sizeOf, typeInfo, hi, hs.len, hn, hs.cells, storeCells]

theorem keep_row {w : World} {g e : Nat} {cur : Array Value} (hcur : w.heap[g]? = some (.cells cur e (0, 0))) (L : List Value) :
    Keep (fun k => k = g) w (w.setRow g L.toArray) ∧ (w.setRow g L.toArray).heap[g]? = some (.cells L.toArray e (0, 0)) :=
  ⟨(Keep.refl _ w).setRow g _ (.inl rfl), setRow_heap w g cur _ e _ hcur⟩
theorem Keep.atRow {a b : World} {g o : Nat} (h : Keep (fun k => k = g) a b) : Keep (fun b => blk (some ⟨g, o, none⟩) = some b) a b := h.mono (fun i _ e => by rw [e]; rfl)

theorem sub_room {w : World} {e size g off n cap m : Nat} {cur : Array Value} {vs news : List Value} (hl : vs.length = n * size) (hln : news.length = m * size) (hg : w.heap[g]? = some (.cells cur e (0, 0))) (hroom : n + m ≤ cap) (h2 : cap ≤ maxLen) (h3 : off + cap * size ≤ cur.size) (h4 : ∀ j, j < n * size → cur[off + j]? = vs[j]?) :
    Sub (w.setRow g (cur.toList.take (off + n * size) ++ news ++ cur.toList.drop (off + n * size + news.length)).toArray) e size (some ⟨g, off, none⟩) (n + m) cap (vs ++ news) := by
  have hcm := Nat.mul_le_mul_right size hroom
  rw [Nat.add_mul] at hcm
  have hlt : (cur.toList.take (off + n * size)).length = off + n * size := by simp; omega
  refine ⟨by rw [List.length_append, hl, hln, Nat.add_mul], .inr ⟨g, off, _, rfl, (keep_row hg _).2, hroom, h2, ?_, fun j hj => ?_⟩⟩
  · simp only [List.size_toArray, List.length_append, hlt, List.length_drop, Array.length_toList]; omega
  · rw [Nat.add_mul] at hj
    simp only [List.getElem?_toArray]
    by_cases hjn : j < n * size
    · rw [List.getElem?_append_left (by rw [List.length_append, hlt]; omega), List.getElem?_append_left (by rw [hlt]; omega), List.getElem?_append_left (by omega), List.getElem?_take, if_pos (by omega), ← h4 j hjn]
      simp
    · rw [List.getElem?_append_left (by rw [List.length_append, hlt]; omega), List.getElem?_append_right (by rw [hlt]; omega), List.getElem?_append_right (by omega), hlt, hl]
      congr 1; omega

theorem sub_grown {w : World} {e size n old : Nat} {vs : List Value} {z : Value} (hzs : z.cells.size = size) (hl : vs.length = n * size) (hn : n ≤ maxLen) (ys : Array Value) (hy : ys.toList = vs) :
    Sub (w.drew.alloc (.cells (ys ++ Builtin.zeroCells z.cells (grownCap w n old e - n)) e)) e size (some ⟨w.heap.size, 0, none⟩) n (grownCap w n old e) vs := by
  have hge := grownCap_ge w n old e
  have hsz : ys.size = n * size := by rw [← Array.length_toList, hy, hl]
  refine ⟨hl, .inr ⟨w.heap.size, 0, _, rfl, heap_alloc_new w.drew _, hge, grownCap_le_maxLen w n old e hn, ?_, fun j hj => ?_⟩⟩
  · simp only [Array.size_append, size_zeroCells, hzs, hsz, ← Nat.add_mul]
    rw [show n + (grownCap w n old e - n) = grownCap w n old e by omega]; omega
  · rw [Nat.zero_add, Array.getElem?_append_left (by omega), ← hy]; simp

/-- append onto such a row. -/
theorem sub_append {w : World} {t tx ty e : TypeId} {i : TypeInfo} {z : Value} {size bytes : Nat} (ht : P.underlying t = some (.slice e)) (hi : P.info? e = some i) (hz : i.zero = some z) (hsize : i.size = size) (hby : i.bytes = bytes) (hzs : z.cells.size = size)
    {a : Option Addr} {n cap : Nat} {vs : List Value} (h : Sub w e size a n cap vs) {x : Value} {m : Nat} {news : List Value} (hs : Src P size tx x m news w) (hn : n + m ≤ maxLen) (hb : ((n + m) + (n + m) / 4 + 192) * bytes ≤ 281474976710656) :
    ∃ a' cap' w', (Builtin.append_ #[t, tx] ty #[.slice a n cap, x]).run P w = .ok (.slice a' (n + m) cap') w' ∧ Sub w' e size a' (n + m) cap' (vs ++ news) ∧ Keep (fun b => blk a = some b) w w' ∧ (blk a' = blk a ∨ blk a' = some w.heap.size) := by
  subst hsize
  subst hby
  have hln := hs.newsLen
  have hroomL : ∀ (hle : n ≤ cap), n + m ≤ cap → m = 0 → ∃ a' cap' w', (Builtin.append_ #[t, tx] ty #[.slice a n cap, x]).run P w = .ok (.slice a' (n + m) cap') w' ∧ Sub w' e i.size a' (n + m) cap' (vs ++ news) ∧ Keep (fun b => blk a = some b) w w' ∧ (blk a' = blk a ∨ blk a' = some w.heap.size) := by
    intro hle _ h0
    subst h0
    obtain rfl : news = [] := List.eq_nil_of_length_eq_zero (by simpa using hln)
    exact ⟨a, cap, w, run_append_zero w t tx ty e i ht hi a n cap x hs hle, by simpa using h, Keep.refl _ _, .inl rfl⟩
  have hsmall : n + m ≤ 9223372036854775807 := by simp only [maxLen] at hn; omega
  by_cases h0 : m = 0
  · have hle : n ≤ cap := by
      rcases h.2 with ⟨_, h1, h2⟩ | ⟨g, off, cur, _, _, h1, _⟩ <;> omega
    exact hroomL hle (by omega) h0
  · rcases h.2 with ⟨rfl, rfl, rfl⟩ | ⟨g, off, cur, rfl, hg, h1, h2, h3, h4⟩
    · have hv : vs = [] := List.eq_nil_of_length_eq_zero (by simpa using h.1)
      subst hv
      have hr := run_append_grow_src w t tx ty e i z ht hi hz none 0 0 [] (by simp [Builtin.firstCells]) x m news hs (by omega) (by omega) (growslice_fits_wide (by omega) hb)
      exact ⟨_, _, _, hr, sub_grown hzs (by simp [hln]) hn _ (by simp), ((Keep.refl _ w).drew).alloc _, .inr rfl⟩
    · by_cases hroom : n + m ≤ cap
      · have hcm := Nat.mul_le_mul_right i.size hroom
        rw [Nat.add_mul] at hcm
        have hr := run_append_in w t tx ty e i ht hi g off n cap x m news hs cur hg hroom (by omega)
        exact ⟨_, _, _, hr, sub_room h.1 hln hg hroom h2 h3 h4, (keep_row hg _).1.atRow, .inl rfl⟩
      · have hc : ∀ j v, vs[j]? = some v → w.drew.cell? ((⟨g, off, none⟩ : Addr).add j) = some v := by
          intro j v hj
          have hj' : j < n * i.size := by
            rcases Nat.lt_or_ge j (n * i.size) with hh | hh
            · exact hh
            · rw [List.getElem?_eq_none (by rw [h.1]; exact hh)] at hj; cases hj
          rw [addr_add, cell_of_row w.drew g _ cur e (0, 0) hg, h4 j hj', hj]
        have hr := run_append_grow_src w t tx ty e i z ht hi hz (some ⟨g, off, none⟩) n cap vs (run_firstCells_some w.drew i.size n ⟨g, off, none⟩ n cap vs h.1 hc) x m news hs (by omega) (by omega) (growslice_fits_wide (by omega) hb)
        exact ⟨_, _, _, hr, sub_grown hzs (by rw [List.length_append, h.1, hln, Nat.add_mul]) hn _ (by simp), ((Keep.refl _ w).drew).alloc _, .inr rfl⟩

/-- .. of zeros. -/
theorem sub_append_zeros {w : World} {t tn ty e : TypeId} {i : TypeInfo} {z : Value} {kq kn : IntKind} {size bytes : Nat} (ht : P.underlying t = some (.slice e)) (htn : P.underlying tn = some (.int kn)) (hi : P.info? e = some i) (hz : i.zero = some z) (hsize : i.size = size) (hby : i.bytes = bytes) (hzs : z.cells.size = size) (hsz : 0 < size) (hone : ∀ v ∈ z.cells.toList, v.oneCell' = true)
    {a : Option Addr} {n cap : Nat} {vs : List Value} (h : Sub w e size a n cap vs) {m : Nat} (hm : 0 < m) (hn : n + m ≤ maxLen) (hb : ((n + m) + (n + m) / 4 + 192) * bytes ≤ 281474976710656) :
    ∃ a' cap' w', (Builtin.append_ #[t, tn] ty #[.slice a n cap, .int kq m]).run P w = .ok (.slice a' (n + m) cap') w' ∧ Sub w' e size a' (n + m) cap' (vs ++ (Builtin.zeroCells z.cells m).toList) ∧ Keep (fun b => blk a = some b) w w' ∧ (blk a' = blk a ∨ blk a' = some w.heap.size) := by
  subst hsize
  subst hby
  have hzl : (Builtin.zeroCells z.cells m).toList.length = m * i.size := by simp [size_zeroCells, hzs]
  have hsmall : n + m ≤ 9223372036854775807 := by simp only [maxLen] at hn; omega
  have h48 : m * i.bytes ≤ 281474976710656 := Nat.le_trans (Nat.mul_le_mul_right _ (by omega)) hb
  rcases h.2 with ⟨rfl, rfl, rfl⟩ | ⟨g, off, cur, rfl, hg, h1, h2, h3, h4⟩
  · have hv : vs = [] := List.eq_nil_of_length_eq_zero (by simpa using h.1)
    subst hv
    have hr := Lib.run_append_grow_zeros w t tn ty e i z kq kn ht htn hi hz none 0 0 [] (by simp [Builtin.firstCells]) m hm hsz (by omega) (by omega) h48 (growslice_fits_wide (by omega) hb)
    exact ⟨_, _, _, hr, sub_grown hzs (by rw [List.nil_append, hzl]; simp) hn _ (by simp), ((Keep.refl _ w).drew).alloc _, .inr rfl⟩
  · by_cases hroom : n + m ≤ cap
    · have hcm := Nat.mul_le_mul_right i.size hroom
      rw [Nat.add_mul] at hcm
      have hr := run_append_in_zeros w t tn ty e i z kq kn ht htn hi hz hzs hone hsz g off n cap m hm h48 (by omega) cur hg hroom (by omega)
      have hs := sub_room (news := (Builtin.zeroCells z.cells m).toList) h.1 hzl hg hroom h2 h3 h4
      rw [hzl] at hs
      exact ⟨_, _, _, hr, hs, (keep_row hg _).1.atRow, .inl rfl⟩
    · have hc : ∀ j v, vs[j]? = some v → w.drew.cell? ((⟨g, off, none⟩ : Addr).add j) = some v := by
        intro j v hj
        have hj' : j < n * i.size := by
          rcases Nat.lt_or_ge j (n * i.size) with hh | hh
          · exact hh
          · rw [List.getElem?_eq_none (by rw [h.1]; exact hh)] at hj; cases hj
        rw [addr_add, cell_of_row w.drew g _ cur e (0, 0) hg, h4 j hj', hj]
      have hr := Lib.run_append_grow_zeros w t tn ty e i z kq kn ht htn hi hz (some ⟨g, off, none⟩) n cap vs (run_firstCells_some w.drew i.size n ⟨g, off, none⟩ n cap vs h.1 hc) m hm hsz (by omega) (by omega) h48 (growslice_fits_wide (by omega) hb)
      exact ⟨_, _, _, hr, sub_grown hzs (by rw [List.length_append, h.1, hzl, Nat.add_mul]) hn _ (by simp), ((Keep.refl _ w).drew).alloc _, .inr rfl⟩
end

/-- A slice's words. -/
structure Sv where
  a : Option Addr
  n : Nat
  c : Nat
def nilS : Sv := ⟨none, 0, 0⟩
/-- Bytes in a row, ints in a row. -/
abbrev u8s (zs : List Int) : List Value := zs.map (.int .u8)
abbrev i64s (zs : List Int) : List Value := zs.map (.int .i64)
abbrev Row (w : World) (d : Sv) (zs : List Int) : Prop := Sub w 5 1 d.a d.n d.c (u8s zs)
abbrev RowN (w : World) (d : Sv) (zs : List Int) : Prop := Sub w 3 1 d.a d.n d.c (i64s zs)
theorem Row.len {w : World} {d : Sv} {zs : List Int} (h : Row w d zs) : zs.length = d.n := by simpa using h.1
theorem RowN.len {w : World} {d : Sv} {zs : List Int} (h : RowN w d zs) : zs.length = d.n := by simpa using h.1
theorem Own.row {w : World} {base : Nat} {a : Option Addr} {n cap : Nat} {zs : List Int} (h : Own w base a n cap zs) (hc : a = none → cap = 0) : Row w ⟨a, n, cap⟩ zs := by
  refine ⟨by simpa using h.1, ?_⟩
  rcases h.2 with ⟨h2, h3⟩ | ⟨g, cap', cur, hv, hb, hg, h1, h2, h3, h4⟩
  · simp only [Value.slice.injEq] at h2
    exact .inl ⟨h2.1, h3, h2.2.2⟩
  · simp only [Value.slice.injEq] at hv
    obtain ⟨rfl, _, rfl⟩ := hv
    refine .inr ⟨g, 0, cur, rfl, hg, h1, h2, by show 0 + cap * 1 ≤ cur.size; omega, fun j hj => ?_⟩
    rw [Nat.zero_add]
    show _ = (List.map (Value.int IntKind.u8) zs)[j]?
    rw [← h4, List.getElem?_take, if_pos hj]; simp
theorem Row.seg {w : World} {d : Sv} {zs : List Int} (h : Row w d zs) : Seg w d.a zs := by
  intro hne
  have hl := Row.len h
  have hp : 0 < d.n := by
    cases zs with
    | nil => exact absurd rfl hne
    | cons x r => simp at hl; omega
  obtain ⟨g, off, ha, _, hc⟩ := h.some_ hp
  refine ⟨g, off, ha, fun i hi => hc i _ ?_⟩
  rw [List.getElem?_map, List.getD_eq_getElem?_getD, List.getElem?_eq_getElem hi]; rfl
/-- The ints that a slice of ints holds. -/
def SegN (w : World) (a : Option Addr) (zs : List Int) : Prop :=
  zs ≠ [] → ∃ b off, a = some ⟨b, off, none⟩ ∧ ∀ i, i < zs.length → w.cell? ⟨b, off + i, none⟩ = some (.int .i64 (zs.getD i 0))
theorem SegN.q {w w' : World} {a : Option Addr} {zs : List Int} (h : SegN w a zs) (hq : Q w w') : SegN w' a zs := by
  intro hne
  obtain ⟨b, off, ha, hc⟩ := h hne
  refine ⟨b, off, ha, fun i hi => ?_⟩
  rw [hq.cell (lt_of_cell (hc i hi))]
  exact hc i hi
theorem RowN.seg {w : World} {d : Sv} {zs : List Int} (h : RowN w d zs) : SegN w d.a zs := by
  intro hne
  have hl := RowN.len h
  have hp : 0 < d.n := by
    cases zs with
    | nil => exact absurd rfl hne
    | cons x r => simp at hl; omega
  obtain ⟨g, off, ha, _, hc⟩ := h.some_ hp
  refine ⟨g, off, ha, fun i hi => hc i _ ?_⟩
  rw [List.getElem?_map, List.getD_eq_getElem?_getD, List.getElem?_eq_getElem hi]; rfl
/-- What is new: a slice that was made since the heap had B blocks. -/
def New (B : Nat) (x : Sv) : Prop := ∀ b, blk x.a = some b → B ≤ b
theorem New.mono {B B' : Nat} {x : Sv} (h : New B x) (hb : B' ≤ B) : New B' x := fun b e => Nat.le_trans hb (h b e)
theorem new_nil (B : Nat) : New B nilS := by intro b hb; cases hb

end Go.Proofs.YtclapheglgiokaaDoor
