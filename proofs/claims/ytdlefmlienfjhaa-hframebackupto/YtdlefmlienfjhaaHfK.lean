/-
  What the law's all has in memory: the reader, the events and the body that it told, the bytes that are left. Nothing is proved of a statement here.
-/
import Derived.Test.YtdlefmlienfjhaaHfJ
import Derived.Test.YtdlefmlienfjhaaHfA
namespace Go.Proofs.Ytdlefmlienfjhaa
open Go.RowKit
set_option linter.unusedVariables false
set_option maxRecDepth 20000

def evV (L : List (Ev × Sv)) : List Value := L.flatMap fun p => (eC p.1 p.2).toList
theorem evV_app (A B : List (Ev × Sv)) : evV (A ++ B) = evV A ++ evV B := by simp [evV]
theorem evV_one (p : Ev × Sv) : evV [p] = (eC p.1 p.2).toList := by simp [evV]
theorem evV_len (A : List (Ev × Sv)) : (evV A).length = A.length * 6 := by
  induction A with
  | nil => rfl
  | cons a l ih => rw [show evV (a :: l) = (eC a.1 a.2).toList ++ evV l from rfl, List.length_append, ih]; show 6 + l.length * 6 = (l.length + 1) * 6; omega
abbrev RowE (w : World) (x : Sv) (L : List (Ev × Sv)) : Prop := Sub w 41 6 x.a x.n x.c (evV L)
theorem RowE.len {w : World} {x : Sv} {L : List (Ev × Sv)} (h : RowE w x L) : L.length = x.n := by
  have := Sub.len h
  rw [evV_len] at this
  omega
structure AL (w : World) (rb : Nat) (wr : World) (H : Hf) (s x y r : Sv) (L : List (Ev × Sv)) (bd zs : List Int) : Prop where
  q : Q w wr
  h : HI wr rb H s
  e : RowE wr x L
  d : ∀ p ∈ L, Seg wr p.2.a p.1.d ∧ p.1.d.length = p.2.n
  ry : Row wr y bd
  z : Seg wr r.a zs
  zl : zs.length = r.n
  zc : r.n ≤ r.c
  nb : w.heap.size ≤ rb
  ns : ∀ b, blk s.a = some b → w.heap.size ≤ b
  nx : ∀ b, blk x.a = some b → w.heap.size ≤ b ∧ b ≠ rb ∧ blk s.a ≠ some b
  ny : ∀ b, blk y.a = some b → w.heap.size ≤ b ∧ b ≠ rb ∧ blk s.a ≠ some b ∧ blk x.a ≠ some b
  nd : ∀ p ∈ L, ∀ b, blk p.2.a = some b → b < wr.heap.size ∧ b ≠ rb ∧ blk s.a ≠ some b ∧ blk x.a ≠ some b ∧ blk y.a ≠ some b
  nr : ∀ b, blk r.a = some b → b < wr.heap.size ∧ b ≠ rb ∧ blk s.a ≠ some b ∧ blk x.a ≠ some b ∧ blk y.a ≠ some b
section
variable {w : World} {rb : Nat} {wr w2 : World} {H G : Hf} {s t x y r : Sv} {L : List (Ev × Sv)} {bd zs : List Int}
theorem AL.mv (h : AL w rb wr H s x y r L bd zs) (k : Q wr w2) : AL w rb w2 H s x y r L bd zs :=
  ⟨h.q.trans k, h.h.q k, Sub.q h.e k, fun p hp => ⟨(h.d p hp).1.q k, (h.d p hp).2⟩, Sub.q h.ry k, h.z.q k, h.zl, h.zc, h.nb, h.ns, h.nx, h.ny, fun p hp b e => ⟨Nat.lt_of_lt_of_le (h.nd p hp b e).1 k.size, (h.nd p hp b e).2⟩, fun b e => ⟨Nat.lt_of_lt_of_le (h.nr b e).1 k.size, (h.nr b e).2⟩⟩
/-- A call of the reader that may turn its block alone. -/
theorem AL.call (h : AL w rb wr H s x y r L bd zs) (hi : HI w2 rb G t) (k : Keep (fun b => b = rb) wr w2) (f : From s t) : AL w rb w2 G t x y r L bd zs :=
  ⟨k.below h.q h.q.size (fun i e => by rw [e]; exact h.nb), hi, Sub.keep h.e k (fun b e e2 => (h.nx b e).2.1 e2), fun p hp => ⟨(h.d p hp).1.keep k (fun b e e2 => (h.nd p hp b e).2.1 e2), (h.d p hp).2⟩, Sub.keep h.ry k (fun b e e2 => (h.ny b e).2.1 e2), h.z.keep k (fun b e e2 => (h.nr b e).2.1 e2), h.zl, h.zc, h.nb,
   fun b e => h.ns b (f b e), fun b e => ⟨(h.nx b e).1, (h.nx b e).2.1, fun e2 => (h.nx b e).2.2 (f b e2)⟩, fun b e => ⟨(h.ny b e).1, (h.ny b e).2.1, fun e2 => (h.ny b e).2.2.1 (f b e2), (h.ny b e).2.2.2⟩,
   fun p hp b e => ⟨Nat.lt_of_lt_of_le (h.nd p hp b e).1 k.size, (h.nd p hp b e).2.1, fun e2 => (h.nd p hp b e).2.2.1 (f b e2), (h.nd p hp b e).2.2.2⟩, fun b e => ⟨Nat.lt_of_lt_of_le (h.nr b e).1 k.size, (h.nr b e).2.1, fun e2 => (h.nr b e).2.2.1 (f b e2), (h.nr b e).2.2.2⟩⟩
theorem AL.feed (h : AL w rb wr H s x y r L bd zs) (hi : HI w2 rb G t) (k : Keep (fun b => b = rb ∨ blk s.a = some b) wr w2) (f : ∀ b, blk t.a = some b → blk s.a = some b ∨ wr.heap.size ≤ b) : AL w rb w2 G t x y r L bd zs := by
  have hx : ∀ b, blk x.a = some b → b < wr.heap.size := fun b e => Sub.lt h.e b e
  have hy : ∀ b, blk y.a = some b → b < wr.heap.size := fun b e => Sub.lt h.ry b e
  have hq := h.q.size
  have hk := k.size
  refine ⟨k.below h.q h.q.size (fun i e => ?_), hi, Sub.keep h.e k (fun b e e2 => e2.elim (h.nx b e).2.1 (h.nx b e).2.2), fun p hp => ⟨(h.d p hp).1.keep k (fun b e e2 => e2.elim (h.nd p hp b e).2.1 (h.nd p hp b e).2.2.1), (h.d p hp).2⟩, Sub.keep h.ry k (fun b e e2 => e2.elim (h.ny b e).2.1 (h.ny b e).2.2.1), h.z.keep k (fun b e e2 => e2.elim (h.nr b e).2.1 (h.nr b e).2.2.1), h.zl, h.zc, h.nb, fun b e => ?_, fun b e => ⟨(h.nx b e).1, (h.nx b e).2.1, fun e2 => ?_⟩, fun b e => ⟨(h.ny b e).1, (h.ny b e).2.1, fun e2 => ?_, (h.ny b e).2.2.2⟩,
    fun p hp b e => ⟨Nat.lt_of_lt_of_le (h.nd p hp b e).1 k.size, (h.nd p hp b e).2.1, fun e2 => ?_, (h.nd p hp b e).2.2.2⟩, fun b e => ⟨Nat.lt_of_lt_of_le (h.nr b e).1 k.size, (h.nr b e).2.1, fun e2 => ?_, (h.nr b e).2.2.2⟩⟩
  · rcases e with e | e
    · rw [e]; exact h.nb
    · exact h.ns i e
  · rcases f b e with e2 | e2
    · exact h.ns b e2
    · omega
  · rcases f b e2 with e3 | e3
    · exact (h.nx b e).2.2 e3
    · have := hx b e; omega
  · rcases f b e2 with e3 | e3
    · exact (h.ny b e).2.2.1 e3
    · have := hy b e; omega
  · rcases f b e2 with e3 | e3
    · exact (h.nd p hp b e).2.2.1 e3
    · have := (h.nd p hp b e).1; omega
  · rcases f b e2 with e3 | e3
    · exact (h.nr b e).2.2.1 e3
    · have := (h.nr b e).1; omega
/-- The body grows. -/
theorem AL.body (h : AL w rb wr H s x y r L bd zs) {y2 : Sv} {bd2 : List Int} (hr : Row w2 y2 bd2) (k : Keep (fun b => blk y.a = some b) wr w2) (hb : blk y2.a = blk y.a ∨ blk y2.a = some wr.heap.size) : AL w rb w2 H s x y2 r L bd2 zs := by
  have hx : ∀ b, blk x.a = some b → b < wr.heap.size := fun b e => Sub.lt h.e b e
  have hs : ∀ b, blk s.a = some b → b < wr.heap.size := fun b e => Sub.lt h.h.r b e
  have hrb := h.h.lt
  have hq := h.q.size
  have hnew : ∀ b, blk y2.a = some b → blk y.a = some b ∨ b = wr.heap.size := fun b e => by
    rcases hb with h2 | h2
    · exact .inl (by rw [← h2]; exact e)
    · rw [h2] at e; cases e; exact .inr rfl
  refine ⟨k.below h.q h.q.size (fun i e => (h.ny i e).1), h.h.keep k (fun e => (h.ny rb e).2.1 rfl) (fun b e e2 => (h.ny b e2).2.2.1 e), Sub.keep h.e k (fun b e e2 => (h.ny b e2).2.2.2 e), fun p hp => ⟨(h.d p hp).1.keep k (fun b e e2 => (h.nd p hp b e).2.2.2.2 e2), (h.d p hp).2⟩, hr, h.z.keep k (fun b e e2 => (h.nr b e).2.2.2.2 e2), h.zl, h.zc, h.nb, h.ns, h.nx, fun b e => ?_,
    fun p hp b e => ⟨Nat.lt_of_lt_of_le (h.nd p hp b e).1 k.size, (h.nd p hp b e).2.1, (h.nd p hp b e).2.2.1, (h.nd p hp b e).2.2.2.1, fun e2 => ?_⟩, fun b e => ⟨Nat.lt_of_lt_of_le (h.nr b e).1 k.size, (h.nr b e).2.1, (h.nr b e).2.2.1, (h.nr b e).2.2.2.1, fun e2 => ?_⟩⟩
  · rcases hnew b e with e2 | e2
    · exact h.ny b e2
    · subst e2
      exact ⟨hq, by omega, fun e3 => by have := hs _ e3; omega, fun e3 => by have := hx _ e3; omega⟩
  · rcases hnew b e2 with e3 | e3
    · exact (h.nd p hp b e).2.2.2.2 e3
    · have := (h.nd p hp b e).1; omega
  · rcases hnew b e2 with e3 | e3
    · exact (h.nr b e).2.2.2.2 e3
    · have := (h.nr b e).1; omega
/-- An event more. -/
theorem AL.out (h : AL w rb wr H s x y r L bd zs) {x2 : Sv} {p : Ev × Sv} (hr : RowE w2 x2 (L ++ [p])) (k : Keep (fun b => blk x.a = some b) wr w2) (hb : blk x2.a = blk x.a ∨ blk x2.a = some wr.heap.size) (hs : Seg wr p.2.a p.1.d) (hl : p.1.d.length = p.2.n)
    (hp : ∀ b, blk p.2.a = some b → b < wr.heap.size ∧ b ≠ rb ∧ blk s.a ≠ some b ∧ blk x.a ≠ some b ∧ blk y.a ≠ some b) : AL w rb w2 H s x2 y r (L ++ [p]) bd zs := by
  have hy : ∀ b, blk y.a = some b → b < wr.heap.size := fun b e => Sub.lt h.ry b e
  have hss : ∀ b, blk s.a = some b → b < wr.heap.size := fun b e => Sub.lt h.h.r b e
  have hrb := h.h.lt
  have hq := h.q.size
  have hnew : ∀ b, blk x2.a = some b → blk x.a = some b ∨ b = wr.heap.size := fun b e => by
    rcases hb with h2 | h2
    · exact .inl (by rw [← h2]; exact e)
    · rw [h2] at e; cases e; exact .inr rfl
  have hall : ∀ u ∈ L ++ [p], (Seg wr u.2.a u.1.d ∧ u.1.d.length = u.2.n) ∧ ∀ b, blk u.2.a = some b → b < wr.heap.size ∧ b ≠ rb ∧ blk s.a ≠ some b ∧ blk x.a ≠ some b ∧ blk y.a ≠ some b := by
    intro u hu
    rcases List.mem_append.1 hu with hu | hu
    · exact ⟨h.d u hu, h.nd u hu⟩
    · simp only [List.mem_singleton] at hu
      subst hu
      exact ⟨⟨hs, hl⟩, hp⟩
  refine ⟨k.below h.q h.q.size (fun i e => (h.nx i e).1), h.h.keep k (fun e => (h.nx rb e).2.1 rfl) (fun b e e2 => (h.nx b e2).2.2 e), hr, fun u hu => ⟨(hall u hu).1.1.keep k (fun b e e2 => ((hall u hu).2 b e).2.2.2.1 e2), (hall u hu).1.2⟩, Sub.keep h.ry k (fun b e e2 => (h.ny b e).2.2.2 e2), h.z.keep k (fun b e e2 => (h.nr b e).2.2.2.1 e2), h.zl, h.zc, h.nb, h.ns, fun b e => ?_, fun b e => ⟨(h.ny b e).1, (h.ny b e).2.1, (h.ny b e).2.2.1, fun e2 => ?_⟩,
    fun u hu b e => ⟨Nat.lt_of_lt_of_le ((hall u hu).2 b e).1 k.size, ((hall u hu).2 b e).2.1, ((hall u hu).2 b e).2.2.1, fun e2 => ?_, ((hall u hu).2 b e).2.2.2.2⟩, fun b e => ⟨Nat.lt_of_lt_of_le (h.nr b e).1 k.size, (h.nr b e).2.1, (h.nr b e).2.2.1, fun e2 => ?_, (h.nr b e).2.2.2.2⟩⟩
  · rcases hnew b e with e2 | e2
    · exact h.nx b e2
    · subst e2
      exact ⟨hq, by omega, fun e3 => by have := hss _ e3; omega⟩
  · rcases hnew b e2 with e3 | e3
    · exact (h.ny b e).2.2.2 e3
    · have := hy b e; omega
  · rcases hnew b e2 with e3 | e3
    · exact ((hall u hu).2 b e).2.2.2.1 e3
    · have := ((hall u hu).2 b e).1; omega
  · rcases hnew b e2 with e3 | e3
    · exact (h.nr b e).2.2.2.1 e3
    · have := (h.nr b e).1; omega
/-- What is left, behind a piece. -/
theorem AL.rest (h : AL w rb wr H s x y r L bd zs) (m : Nat) (hm : m ≤ r.n) : AL w rb wr H s x y ⟨if r.c = m then r.a else r.a.map (·.add m), r.n - m, r.c - m⟩ L bd (zs.drop m) := by
  have hzl := h.zl
  have hzc := h.zc
  refine ⟨h.q, h.h, h.e, h.d, h.ry, seg_from h.z h.zl hm h.zc, by rw [List.length_drop]; show _ = r.n - m; omega, by show r.n - m ≤ r.c - m; omega, h.nb, h.ns, h.nx, h.ny, h.nd, fun b e => h.nr b ?_⟩
  rw [← blk_slice (size := 1) (k := m) (cap := r.c) (a := r.a) (a' := if r.c = m then r.a else r.a.map (·.add m)) (by rw [Nat.mul_one])]
  exact e
end
theorem info41' : (Try.prog.info? 41).map (fun i => (i.zero, i.size, i.bytes)) = some (some (.agg #[.int .i64 0, .slice none 0 0, .int .i64 0, .int .i64 0, .int .i64 0, .int .i64 0]), 6, 64) := by kernel_rfl
/-- append of one event, laid as a literal. -/
theorem rowE_append {u : World} {x : Sv} {L : List (Ev × Sv)} {ty : TypeId} (p : Ev × Sv) (h : RowE u x L) (hn : x.n ≤ 2000000000000) :
    ∃ x2 w2, (Builtin.append_ #[64, 64] ty #[.slice x.a x.n x.c, .slice (some ⟨u.heap.size, 0, none⟩) 1 1]).run Try.prog (u.alloc (.cells (eC p.1 p.2) 41)) = .ok (.slice x2.a x2.n x2.c) w2 ∧ RowE w2 x2 (L ++ [p]) ∧ Keep (fun b => blk x.a = some b) (u.alloc (.cells (eC p.1 p.2) 41)) w2 ∧ (blk x2.a = blk x.a ∨ blk x2.a = some (u.alloc (.cells (eC p.1 p.2) 41)).heap.size) := by
  obtain ⟨i0, hi, hz0, hz1, hz2⟩ := info_parts info41'
  have hb := heap_alloc_new u (.cells (eC p.1 p.2) 41)
  have hsrc : Src Try.prog 6 64 (.slice (some ⟨u.heap.size, 0, none⟩) 1 1) 1 (eC p.1 p.2).toList (u.alloc (.cells (eC p.1 p.2) 41)) := by
    refine Src.ofSlice (size := 6) _ Try.underlying64 ⟨u.heap.size, 0, none⟩ 1 1 _ rfl (fun j v hj => ?_) (fun v hv => ?_)
    · rw [addr_add, Nat.zero_add, cell_of_row _ _ _ _ 41 (0, 0) hb]
      simpa using hj
    · have := one41 p.1 p.2
      rw [Array.all_eq_true'] at this
      exact this v (by simpa using hv)
  obtain ⟨a', c', w', h1, h2, h3, h4⟩ := sub_append (P := Try.prog) (ty := ty) Try.underlying64 hi hz0 hz1 hz2 rfl (Sub.q h ((Q.refl u).alloc _)) hsrc (by unfold maxLen; omega) (by omega)
  exact ⟨⟨a', x.n + 1, c'⟩, w', h1, by show Sub _ _ _ _ _ _ (evV _); rw [evV_app, evV_one]; exact h2, h3, h4⟩
end Go.Proofs.Ytdlefmlienfjhaa
