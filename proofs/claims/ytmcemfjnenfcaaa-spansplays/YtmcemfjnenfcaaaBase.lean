/-
  Words on memory for layer 2: what a slice of spans holds, a row of spans of the program's own, which blocks a call may turn, and the three builtins append, copy and clear on such a row. Nothing is proved of a statement here.
-/
import Derived.Test.YtmcemfjnenfcaaaRows
import Derived.Test.YtmcemfjnenfcaaaMathTwo
import Derived.WalkKit
import Derived.WalkSpells
import Derived.WalkLawsBesides
import Derived.Laws.CopyOwn
import Derived.Laws.AppendOwn
namespace Go.Proofs.Ytmcemfjnenfcaaa
open Go.RowKit
set_option linter.unusedVariables false

theorem hid {p : Prop} (h : p) : Hid p := h

theorem info49 : (Try.prog.info? 49).map (fun i => (i.zero, i.size, i.bytes)) = some (some (.agg #[.int .i64 0, .int .i64 0]), 2, 16) := by kernel_rfl

/-! ### frames -/
/-- Nothing that was there has turned. -/
def Q (w w' : World) : Prop := Below w.heap.size w w'
theorem Q.refl (w : World) : Q w w := Below.refl _ _
theorem Q.size {w w' : World} (h : Q w w') : w.heap.size ≤ w'.heap.size := Below.size h
theorem Q.trans {a b c : World} (h : Q a b) (k : Q b c) : Q a c := Below.trans h (Below.mono k h.size)
theorem Q.drew {a b : World} (h : Q a b) : Q a b.drew := Below.drew h
theorem Q.drewN {a b : World} (h : Q a b) (n : Nat) : Q a (b.drewN n) := below_drewN h n
theorem Q.cell {w w' : World} (h : Q w w') {p : Addr} (hp : p.block < w.heap.size) : w'.cell? p = w.cell? p := Below.cell h hp
theorem Q.alloc {a w : World} (h : Q a w) (o : Obj) : Q a (w.alloc o) := Below.alloc h h.size o
theorem Q.grown {a w w' : World} (h : Q a w) (hg : w.grownBy w' none) : Q a w' := Below.grown h hg h.size (by intro k hk; cases hk)

theorem lt_of_cell {w : World} {b o : Nat} {v : Value} (h : w.cell? ⟨b, o, none⟩ = some v) : b < w.heap.size := by
  by_cases hb : b < w.heap.size
  · exact hb
  · have : w.heap[b]? = none := by simp; omega
    simp [World.cell?, this] at h

theorem lt_of_block {w : World} {b : Nat} {o : Obj} (h : w.heap[b]? = some o) : b < w.heap.size := (Array.getElem?_eq_some_iff.1 h).1

/-- Of what was there nothing has turned but the blocks in F. -/
structure Keep (F : Nat → Prop) (w w' : World) : Prop where
  os : w'.os = w.os
  tape : w'.tape = w.tape
  output : w'.output = w.output
  size : w.heap.size ≤ w'.heap.size
  block : ∀ k, k < w.heap.size → ¬ F k → w'.heap[k]? = w.heap[k]?

theorem Keep.refl (F : Nat → Prop) (w : World) : Keep F w w := ⟨rfl, rfl, rfl, Nat.le_refl _, fun _ _ _ => rfl⟩
theorem Keep.trans {F : Nat → Prop} {a b c : World} (h : Keep F a b) (k : Keep F b c) : Keep F a c :=
  ⟨k.os.trans h.os, k.tape.trans h.tape, k.output.trans h.output, Nat.le_trans h.size k.size, fun i hi hne => (k.block i (Nat.lt_of_lt_of_le hi h.size) hne).trans (h.block i hi hne)⟩
/-- .. where the second may turn new blocks besides. -/
theorem Keep.trans' {F G : Nat → Prop} {a b c : World} (h : Keep F a b) (k : Keep G b c) (hG : ∀ i, i < a.heap.size → G i → F i) : Keep F a c :=
  ⟨k.os.trans h.os, k.tape.trans h.tape, k.output.trans h.output, Nat.le_trans h.size k.size, fun i hi hne => (k.block i (Nat.lt_of_lt_of_le hi h.size) (fun hg => hne (hG i hi hg))).trans (h.block i hi hne)⟩
theorem Keep.mono {F G : Nat → Prop} {a b : World} (h : Keep F a b) (hG : ∀ i, i < a.heap.size → F i → G i) : Keep G a b :=
  ⟨h.os, h.tape, h.output, h.size, fun i hi hne => h.block i hi (fun hf => hne (hG i hi hf))⟩
theorem Keep.ofQ {F : Nat → Prop} {a b : World} (h : Q a b) : Keep F a b := ⟨Below.os h, Below.tape h, Below.output h, Below.size h, fun i hi _ => Below.block h i hi⟩
theorem Keep.toQ {F : Nat → Prop} {a b : World} (h : Keep F a b) (hF : ∀ i, i < a.heap.size → ¬ F i) : Q a b := by
  have hg : a.grownBy b none := ⟨h.os, h.tape, h.output, h.size, fun k hk _ => h.block k hk (hF k hk)⟩
  exact (Q.refl a).grown hg
theorem Keep.ofGrown {F : Nat → Prop} {a b : World} {row : Option Nat} (h : a.grownBy b row) (hr : ∀ k, row = some k → F k) : Keep F a b :=
  ⟨h.os, h.tape, h.output, h.size, fun i hi hne => h.block i hi (fun e => hne (hr i e.symm))⟩
theorem Keep.drew {F : Nat → Prop} {a b : World} (h : Keep F a b) : Keep F a b.drew := ⟨h.os, h.tape, h.output, h.size, h.block⟩
theorem Keep.drewN {F : Nat → Prop} {a b : World} (h : Keep F a b) (n : Nat) : Keep F a (b.drewN n) := ⟨h.os, h.tape, h.output, h.size, h.block⟩
theorem Keep.alloc {F : Nat → Prop} {a b : World} (h : Keep F a b) (o : Obj) : Keep F a (b.alloc o) := h.trans (Keep.ofQ ((Q.refl b).alloc o))
theorem Keep.setCell {F : Nat → Prop} {a b : World} (h : Keep F a b) (r j : Nat) (v : Value) (hr : F r ∨ a.heap.size ≤ r) : Keep F a (b.setCell ⟨r, j, none⟩ v) :=
  h.trans' (G := fun k => k = r) ⟨rfl, rfl, rfl, by simp [World.setCell], fun i hi hne => heap_setCell_other b ⟨r, j, none⟩ i v (fun e => hne (by simp [e]))⟩
    (fun i hi e => by subst e; rcases hr with hr | hr; exact hr; omega)
theorem Keep.setRow {F : Nat → Prop} {a b : World} (h : Keep F a b) (r : Nat) (v : Array Value) (hr : F r ∨ a.heap.size ≤ r) : Keep F a (b.setRow r v) :=
  h.trans' (G := fun k => k = r) ⟨rfl, rfl, rfl, by simp, fun i hi hne => setRow_other b r i v (fun e => hne (by simp [e]))⟩
    (fun i hi e => by subst e; rcases hr with hr | hr; exact hr; omega)
theorem Keep.cell {F : Nat → Prop} {a b : World} (h : Keep F a b) {k j : Nat} {v : Value} (hc : a.cell? ⟨k, j, none⟩ = some v) (hne : ¬ F k) : b.cell? ⟨k, j, none⟩ = some v := by
  rw [World.cell?_of_block (w := a) (h.block k (lt_of_cell hc) hne)]; exact hc
theorem Keep.below {F : Nat → Prop} {B : Nat} {w0 a b : World} (h : Keep F a b) (hb : Below B w0 a) (hs : B ≤ a.heap.size) (hF : ∀ i, F i → B ≤ i) : Below B w0 b := by
  have hg : ∀ k, k < B → b.heap[k]? = a.heap[k]? := fun k hk => h.block k (by omega) (fun hf => by have := hF k hf; omega)
  exact ⟨h.os.trans hb.os, h.tape.trans hb.tape, h.output.trans hb.output, by have := h.size; have := hb.size; omega, fun k hk => (hg k hk).trans (hb.block k hk)⟩

/-! ### spans in memory -/
/-- The cells of spans, one behind the other. -/
def flat (xs : List Sp) : List Value := xs.flatMap fun p => [.int .i64 p.1, .int .i64 p.2]
theorem flat_nil : flat [] = [] := rfl
theorem flat_cons (x : Sp) (r : List Sp) : flat (x :: r) = .int .i64 x.1 :: .int .i64 x.2 :: flat r := rfl
theorem flat_len (xs : List Sp) : (flat xs).length = xs.length * 2 := by
  induction xs with
  | nil => rfl
  | cons x r ih => rw [flat_cons]; simp only [List.length_cons, ih]; omega
theorem flat_append (xs ys : List Sp) : flat (xs ++ ys) = flat xs ++ flat ys := by simp [flat]
theorem flat_take (xs : List Sp) (k : Nat) : (flat xs).take (k * 2) = flat (xs.take k) := by
  induction xs generalizing k with
  | nil => simp [flat_nil]
  | cons x r ih =>
    cases k with
    | zero => simp [flat_nil]
    | succ k => rw [flat_cons, show (k + 1) * 2 = k * 2 + 1 + 1 by omega, List.take_succ_cons, List.take_succ_cons, ih, List.take_succ_cons, flat_cons]
theorem flat_drop (xs : List Sp) (k : Nat) : (flat xs).drop (k * 2) = flat (xs.drop k) := by
  induction xs generalizing k with
  | nil => simp [flat_nil]
  | cons x r ih =>
    cases k with
    | zero => simp
    | succ k => rw [flat_cons, show (k + 1) * 2 = k * 2 + 1 + 1 by omega, List.drop_succ_cons, List.drop_succ_cons, ih, List.drop_succ_cons]
theorem flat_get0 (xs : List Sp) (k : Nat) (h : k < xs.length) : (flat xs)[k * 2]? = some (.int .i64 (xs.getD k (0, 0)).1) := by
  have := flat_drop xs k
  rw [drop_cons h, flat_cons] at this
  have h2 : ((flat xs).drop (k * 2))[0]? = some (.int .i64 (xs.getD k (0, 0)).1) := by rw [this]; rfl
  simpa using h2
theorem flat_get1 (xs : List Sp) (k : Nat) (h : k < xs.length) : (flat xs)[k * 2 + 1]? = some (.int .i64 (xs.getD k (0, 0)).2) := by
  have := flat_drop xs k
  rw [drop_cons h, flat_cons] at this
  have h2 : ((flat xs).drop (k * 2))[1]? = some (.int .i64 (xs.getD k (0, 0)).2) := by rw [this]; rfl
  simpa using h2
theorem flat_one (xs : List Sp) : ∀ v ∈ flat xs, v.oneCell' = true := by
  intro v hv
  simp only [flat, List.mem_flatMap, List.mem_cons, List.not_mem_nil, or_false] at hv
  obtain ⟨p, _, h | h⟩ := hv
  · rw [h]; rfl
  · rw [h]; rfl

/-- The spans that a slice holds: its cells, where it has any. -/
def Seg (w : World) (a : Option Addr) (xs : List Sp) : Prop :=
  xs ≠ [] → ∃ b off, a = some ⟨b, off, none⟩ ∧ ∀ i, i < xs.length → w.cell? ⟨b, off + i * 2, none⟩ = some (.int .i64 (xs.getD i (0, 0)).1) ∧ w.cell? ⟨b, off + (i * 2 + 1), none⟩ = some (.int .i64 (xs.getD i (0, 0)).2)

def blk (a : Option Addr) : Option Nat := a.map (·.block)

theorem Seg.keep {F : Nat → Prop} {w w' : World} {a : Option Addr} {xs : List Sp} (h : Seg w a xs) (k : Keep F w w') (hF : ∀ b, blk a = some b → ¬ F b) : Seg w' a xs := by
  intro hne
  obtain ⟨b, off, ha, hc⟩ := h hne
  refine ⟨b, off, ha, fun i hi => ?_⟩
  have hb := hF b (by rw [ha]; rfl)
  exact ⟨k.cell (hc i hi).1 hb, k.cell (hc i hi).2 hb⟩
theorem Seg.q {w w' : World} {a : Option Addr} {xs : List Sp} (h : Seg w a xs) (k : Q w w') : Seg w' a xs := by
  intro hne
  obtain ⟨b, off, ha, hc⟩ := h hne
  refine ⟨b, off, ha, fun i hi => ?_⟩
  have hb := lt_of_cell (hc i hi).1
  exact ⟨by rw [k.cell hb]; exact (hc i hi).1, by rw [k.cell hb]; exact (hc i hi).2⟩
theorem seg_nil (w : World) (a : Option Addr) : Seg w a [] := fun h => absurd rfl h

/-- A row of spans of the program's own. -/
def Own (w : World) (base : Nat) (a : Option Addr) (n cap : Nat) (xs : List Sp) : Prop := w.ownsRow base 49 2 (.slice a n cap) n (flat xs)

theorem Own.len {w : World} {base : Nat} {a : Option Addr} {n cap : Nat} {xs : List Sp} (h : Own w base a n cap xs) : xs.length = n := by
  have := h.1; rw [flat_len] at this; omega

/-- Where the row is a row: its block. -/
theorem Own.row {w : World} {base : Nat} {a : Option Addr} {n cap : Nat} {xs : List Sp} (h : Own w base a n cap xs) :
    (a = none ∧ n = 0 ∧ cap = 0 ∧ xs = []) ∨ ∃ g cur, a = some ⟨g, 0, none⟩ ∧ base ≤ g ∧ w.heap[g]? = some (.cells cur 49 (0, 0)) ∧ n ≤ cap ∧ cap ≤ maxLen ∧ cur.size = cap * 2 ∧ cur.toList.take (n * 2) = flat xs := by
  have hl := h.len
  rcases h.2 with ⟨h2, h3⟩ | ⟨g, cap', cur, hv, hb, hg, h1, h2, h3, h4⟩
  · simp only [Value.slice.injEq] at h2
    obtain ⟨rfl, _, rfl⟩ := h2
    exact .inl ⟨rfl, h3, rfl, List.eq_nil_of_length_eq_zero (by omega)⟩
  · simp only [Value.slice.injEq] at hv
    obtain ⟨rfl, _, rfl⟩ := hv
    exact .inr ⟨g, cur, rfl, hb, hg, h1, h2, h3, h4⟩

theorem own_nil (w : World) (base : Nat) : Own w base none 0 0 [] := World.ownsRow_nil w base 49 2
theorem own_mk {w : World} {base g n cap : Nat} {cur : Array Value} {xs : List Sp} (hl : xs.length = n) (hb : base ≤ g) (hg : w.heap[g]? = some (.cells cur 49 (0, 0))) (h1 : n ≤ cap) (h2 : cap ≤ maxLen) (h3 : cur.size = cap * 2) (h4 : cur.toList.take (n * 2) = flat xs) :
    Own w base (some ⟨g, 0, none⟩) n cap xs :=
  ⟨by rw [flat_len, hl], .inr ⟨g, cap, cur, rfl, hb, hg, h1, h2, h3, h4⟩⟩

theorem Own.keep {F : Nat → Prop} {w w' : World} {base : Nat} {a : Option Addr} {n cap : Nat} {xs : List Sp} (h : Own w base a n cap xs) (k : Keep F w w') (hF : ∀ b, blk a = some b → ¬ F b) : Own w' base a n cap xs := by
  have hl := h.len
  rcases h.row with ⟨rfl, rfl, rfl, rfl⟩ | ⟨g, cur, rfl, hb, hg, h1, h2, h3, h4⟩
  · exact own_nil w' base
  · exact own_mk hl hb ((k.block g (lt_of_block hg) (hF g rfl)).trans hg) h1 h2 h3 h4
theorem Own.q {w w' : World} {base : Nat} {a : Option Addr} {n cap : Nat} {xs : List Sp} (h : Own w base a n cap xs) (k : Q w w') : Own w' base a n cap xs := h.keep (Keep.ofQ (F := fun _ => False) k) (fun _ _ => id)
theorem Own.base {w : World} {base base' : Nat} {a : Option Addr} {n cap : Nat} {xs : List Sp} (h : Own w base a n cap xs) (hb : ∀ b, blk a = some b → base' ≤ b) : Own w base' a n cap xs := by
  have hl := h.len
  rcases h.row with ⟨rfl, rfl, rfl, rfl⟩ | ⟨g, cur, rfl, _, hg, h1, h2, h3, h4⟩
  · exact own_nil w base'
  · exact own_mk hl (hb g rfl) hg h1 h2 h3 h4
theorem Own.lt {w : World} {base : Nat} {a : Option Addr} {n cap : Nat} {xs : List Sp} (h : Own w base a n cap xs) : ∀ b, blk a = some b → base ≤ b ∧ b < w.heap.size := by
  intro b e
  rcases h.row with ⟨rfl, rfl, rfl, rfl⟩ | ⟨g, cur, rfl, hb, hg, h1, h2, h3, h4⟩
  · cases e
  · cases e; exact ⟨hb, lt_of_block hg⟩

theorem cur_get {cur : Array Value} {n : Nat} {xs : List Sp} (h4 : cur.toList.take (n * 2) = flat xs) {j : Nat} (hj : j < n * 2) : cur[j]? = (flat xs)[j]? := by
  rw [← h4, List.getElem?_take, if_pos hj]; simp

theorem Own.seg {w : World} {base : Nat} {a : Option Addr} {n cap : Nat} {xs : List Sp} (h : Own w base a n cap xs) : Seg w a xs := by
  intro hne
  have hl := h.len
  rcases h.row with ⟨rfl, rfl, rfl, rfl⟩ | ⟨g, cur, rfl, hb, hg, h1, h2, h3, h4⟩
  · exact absurd rfl hne
  · refine ⟨g, 0, rfl, fun i hi => ⟨?_, ?_⟩⟩
    · rw [cell_of_row w g _ cur 49 (0, 0) hg, Nat.zero_add, cur_get h4 (by omega), flat_get0 xs i hi]
    · rw [cell_of_row w g _ cur 49 (0, 0) hg, Nat.zero_add, cur_get h4 (by omega), flat_get1 xs i hi]

/-- A set's own cells: the most, the floor, the spans. -/
def Hd (w : World) (t rb : Nat) (most floor : Int) (a : Option Addr) (n c : Nat) : Prop := w.heap[rb]? = some (.cells #[.int .i64 most, .int .i64 floor, .slice a n c] t (0, 0))
section
variable {w w' : World} {t rb : Nat} {most floor : Int} {a : Option Addr} {n c : Nat}
theorem Hd.c0 (h : Hd w t rb most floor a n c) : w.cell? ⟨rb, 0, none⟩ = some (.int .i64 most) := by rw [cell_of_row w rb 0 _ t (0, 0) h]; rfl
theorem Hd.c1 (h : Hd w t rb most floor a n c) : w.cell? ⟨rb, 1, none⟩ = some (.int .i64 floor) := by rw [cell_of_row w rb 1 _ t (0, 0) h]; rfl
theorem Hd.c2 (h : Hd w t rb most floor a n c) : w.cell? ⟨rb, 2, none⟩ = some (.slice a n c) := by rw [cell_of_row w rb 2 _ t (0, 0) h]; rfl
theorem Hd.free (h : Hd w t rb most floor a n c) (j : Nat) : w.frozen? ⟨rb, j, none⟩ = false := frozen_of_row w rb j _ t h
theorem Hd.lt (h : Hd w t rb most floor a n c) : rb < w.heap.size := lt_of_block h
theorem Hd.drew (h : Hd w t rb most floor a n c) : Hd w.drew t rb most floor a n c := h
theorem Hd.drewN (h : Hd w t rb most floor a n c) (k : Nat) : Hd (w.drewN k) t rb most floor a n c := h
theorem Hd.floor_ (h : Hd w t rb most floor a n c) (q : Int) : Hd (w.setCell ⟨rb, 1, none⟩ (.int .i64 q)) t rb most q a n c := by
  have := heap_setCell_same w rb 1 _ t (.int .i64 q) h
  simpa [Hd] using this
theorem Hd.list_ (h : Hd w t rb most floor a n c) (a' : Option Addr) (n' c' : Nat) : Hd (w.setCell ⟨rb, 2, none⟩ (.slice a' n' c')) t rb most floor a' n' c' := by
  have := heap_setCell_same w rb 2 _ t (.slice a' n' c') h
  simpa [Hd] using this
theorem Hd.keep {F : Nat → Prop} (h : Hd w t rb most floor a n c) (k : Keep F w w') (hF : ¬ F rb) : Hd w' t rb most floor a n c := (k.block rb h.lt hF).trans h
theorem Hd.q (h : Hd w t rb most floor a n c) (k : Q w w') : Hd w' t rb most floor a n c := h.keep (Keep.ofQ (F := fun _ => False) k) id
end

end Go.Proofs.Ytmcemfjnenfcaaa
