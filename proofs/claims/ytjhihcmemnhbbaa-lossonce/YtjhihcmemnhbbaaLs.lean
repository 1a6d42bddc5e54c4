/-
  The program's Loss in memory: its 26 cells, the rows of packets that are out and of spans that were sent, and what writing one of them leaves. Nothing is proved of a statement here.
-/
import Derived.Test.YtjhihcmemnhbbaaBase
import Derived.BigQuiet
import Derived.Deep.QuietTactic
namespace Go.Proofs.Ytjhihcmemnhbbaa
open Go.RowKit
set_option linter.unusedVariables false
set_option maxRecDepth 20000

theorem ret_int {k : IntKind} {a b : Int} (h : a = b) : Ending.returned (.int k a) = .returned (.int k b) := by rw [h]
theorem ret_bool {a b : Bool} (h : a = b) : Ending.returned (.bool a) = .returned (.bool b) := by rw [h]

/-- A slice's words. -/
structure Sv where
  a : Option Addr
  n : Nat
  c : Nat
def nilS : Sv := ⟨none, 0, 0⟩

/-! ### rows of structs -/
section
variable {α : Type} {f : α → List Value} {m : Nat}
def flt (f : α → List Value) (l : List α) : List Value := l.flatMap f
theorem flt_nil : flt f [] = [] := rfl
theorem flt_cons (x : α) (l : List α) : flt f (x :: l) = f x ++ flt f l := by simp [flt]
theorem flt_append (x y : List α) : flt f (x ++ y) = flt f x ++ flt f y := by simp [flt]
theorem flt_len (hf : ∀ x, (f x).length = m) (l : List α) : (flt f l).length = l.length * m := by
  induction l with
  | nil => simp [flt]
  | cons x r ih => rw [flt_cons, List.length_append, ih, hf, List.length_cons, Nat.add_mul]; omega
theorem flt_get (hf : ∀ x, (f x).length = m) (d : α) (l : List α) {i j : Nat} (hi : i < l.length) (hj : j < m) : (flt f l)[i * m + j]? = (f (l.getD i d))[j]? := by
  induction l generalizing i with
  | nil => simp at hi
  | cons x r ih =>
    rw [flt_cons]
    cases i with
    | zero => rw [Nat.zero_mul, Nat.zero_add, List.getElem?_append_left (by rw [hf]; exact hj)]; rfl
    | succ i =>
      rw [List.getElem?_append_right (by rw [hf, Nat.add_mul]; omega), hf, show (i + 1) * m + j - m = i * m + j by rw [Nat.add_mul]; omega, ih (by simp at hi; omega)]
      rfl
theorem flt_take (hf : ∀ x, (f x).length = m) (l : List α) (k : Nat) : (flt f l).take (k * m) = flt f (l.take k) := by
  induction l generalizing k with
  | nil => simp [flt]
  | cons x r ih =>
    cases k with
    | zero => simp [flt]
    | succ k => rw [flt_cons, List.take_succ_cons, flt_cons, show (k + 1) * m = (f x).length + k * m by rw [hf, Nat.add_mul]; omega, List.take_length_add_append, ih]
theorem flt_one (h1 : ∀ x, ∀ v ∈ f x, v.oneCell' = true) (l : List α) : ∀ v ∈ flt f l, v.oneCell' = true := by
  intro v hv
  simp only [flt, List.mem_flatMap] at hv
  obtain ⟨x, _, h⟩ := hv
  exact h1 x v h
end

def pcl (p : Pk) : List Value := [.int .i64 p.n, .int .i64 p.s, .int .i64 p.a, .bool p.e]
theorem pcl_len (p : Pk) : (pcl p).length = 4 := rfl
theorem pcl_one (p : Pk) : ∀ v ∈ pcl p, v.oneCell' = true := by
  intro v hv
  simp only [pcl, List.mem_cons, List.not_mem_nil, or_false] at hv
  rcases hv with rfl | rfl | rfl | rfl <;> rfl
def scl (p : Spn) : List Value := [.int .i64 p.1, .int .i64 p.2]
theorem scl_len (p : Spn) : (scl p).length = 2 := rfl
theorem scl_one (p : Spn) : ∀ v ∈ scl p, v.oneCell' = true := by
  intro v hv
  simp only [scl, List.mem_cons, List.not_mem_nil, or_false] at hv
  rcases hv with rfl | rfl <;> rfl
def noPk : Pk := ⟨0, 0, 0, false⟩
abbrev RowP (w : World) (d : Sv) (l : List Pk) : Prop := Sub w 73 4 d.a d.n d.c (flt pcl l)
abbrev RowS (w : World) (d : Sv) (l : List Spn) : Prop := Sub w 57 2 d.a d.n d.c (flt scl l)
abbrev i64s (l : List Int) : List Value := l.map (.int .i64)
abbrev RowI (w : World) (d : Sv) (l : List Int) : Prop := Sub w 3 1 d.a d.n d.c (i64s l)
theorem RowP.len {w : World} {d : Sv} {l : List Pk} (h : RowP w d l) : l.length = d.n := by have := h.1; rw [flt_len pcl_len] at this; omega
theorem RowS.len {w : World} {d : Sv} {l : List Spn} (h : RowS w d l) : l.length = d.n := by have := h.1; rw [flt_len scl_len] at this; omega
theorem RowI.len {w : World} {d : Sv} {l : List Int} (h : RowI w d l) : l.length = d.n := by simpa using h.1
theorem Sub.cap {w : World} {e m : Nat} {a : Option Addr} {n c : Nat} {vs : List Value} (h : Sub w e m a n c vs) : n ≤ c := by
  rcases h.2 with ⟨_, h1, h2⟩ | ⟨g, off, cur, _, _, h1, _⟩ <;> omega

/-- A packet at a place. -/
structure PAt (w : World) (g o : Nat) (p : Pk) : Prop where
  c0 : w.cell? ⟨g, o, none⟩ = some (.int .i64 p.n)
  c1 : w.cell? ⟨g, o + 1, none⟩ = some (.int .i64 p.s)
  c2 : w.cell? ⟨g, o + 2, none⟩ = some (.int .i64 p.a)
  c3 : w.cell? ⟨g, o + 3, none⟩ = some (.bool p.e)
/-- A span at a place. -/
structure SAt (w : World) (g o : Nat) (p : Spn) : Prop where
  c0 : w.cell? ⟨g, o, none⟩ = some (.int .i64 p.1)
  c1 : w.cell? ⟨g, o + 1, none⟩ = some (.int .i64 p.2)
theorem RowP.at_ {w : World} {d : Sv} {l : List Pk} (h : RowP w d l) {k : Nat} (hk : k < d.n) : ∃ g o, d.a = some ⟨g, o, none⟩ ∧ (∀ j, w.frozen? ⟨g, j, none⟩ = false) ∧ PAt w g (o + k * 4) (l.getD k noPk) := by
  obtain ⟨g, o, ha, hf, hc⟩ := h.some_ (by omega)
  have hk' : k < l.length := by rw [h.len]; exact hk
  have hg : ∀ j, j < 4 → w.cell? ⟨g, o + k * 4 + j, none⟩ = (pcl (l.getD k noPk))[j]? := by
    intro j hj
    have e := flt_get pcl_len noPk l hk' hj
    rw [Nat.add_assoc]
    rcases (show j = 0 ∨ j = 1 ∨ j = 2 ∨ j = 3 by omega) with rfl | rfl | rfl | rfl <;> exact hc _ _ e
  exact ⟨g, o, ha, hf, hg 0 (by omega), hg 1 (by omega), hg 2 (by omega), hg 3 (by omega)⟩
theorem RowS.at_ {w : World} {d : Sv} {l : List Spn} (h : RowS w d l) {k : Nat} (hk : k < d.n) : ∃ g o, d.a = some ⟨g, o, none⟩ ∧ (∀ j, w.frozen? ⟨g, j, none⟩ = false) ∧ SAt w g (o + k * 2) (l.getD k (0, 0)) := by
  obtain ⟨g, o, ha, hf, hc⟩ := h.some_ (by omega)
  have hk' : k < l.length := by rw [h.len]; exact hk
  have hg : ∀ j, j < 2 → w.cell? ⟨g, o + k * 2 + j, none⟩ = (scl (l.getD k (0, 0)))[j]? := by
    intro j hj
    have e := flt_get scl_len (0, 0) l hk' hj
    rw [Nat.add_assoc]
    rcases (show j = 0 ∨ j = 1 by omega) with rfl | rfl <;> exact hc _ _ e
  exact ⟨g, o, ha, hf, hg 0 (by omega), hg 1 (by omega)⟩

/-- The spans that a slice holds: its cells, where it has any. -/
def SegS (w : World) (a : Option Addr) (xs : List Spn) : Prop :=
  xs ≠ [] → ∃ b off, a = some ⟨b, off, none⟩ ∧ ∀ i, i < xs.length → SAt w b (off + i * 2) (xs.getD i (0, 0))
theorem SegS.keep {F : Nat → Prop} {w w' : World} {a : Option Addr} {xs : List Spn} (h : SegS w a xs) (k : Keep F w w') (hF : ∀ b, blk a = some b → ¬ F b) : SegS w' a xs := by
  intro hne
  obtain ⟨b, off, ha, hc⟩ := h hne
  have hb := hF b (by rw [ha]; rfl)
  exact ⟨b, off, ha, fun i hi => ⟨k.cell (hc i hi).c0 hb, k.cell (hc i hi).c1 hb⟩⟩
theorem SegS.q {w w' : World} {a : Option Addr} {xs : List Spn} (h : SegS w a xs) (k : Q w w') : SegS w' a xs := h.keep (Keep.ofQ (F := fun _ => False) k) (fun _ _ => id)
theorem RowS.seg {w : World} {d : Sv} {l : List Spn} (h : RowS w d l) : SegS w d.a l := by
  intro hne
  have h0 : 0 < d.n := by rw [← h.len]; exact List.length_pos_iff.2 hne
  obtain ⟨g, o, ha, _, _⟩ := h.at_ h0
  refine ⟨g, o, ha, fun i hi => ?_⟩
  obtain ⟨g', o', ha', _, hc⟩ := h.at_ (k := i) (by rw [← h.len]; exact hi)
  rw [ha] at ha'
  simp only [Option.some.injEq, Addr.mk.injEq, and_true] at ha'
  obtain ⟨rfl, rfl⟩ := ha'
  exact hc

/-! ### the head -/
def hcells (S : Lo) (r : Nat → Sv) : Array Value :=
  #[.int .i64 S.most, .int .i64 S.now,
    .slice (r 0).a (r 0).n (r 0).c, .slice (r 1).a (r 1).n (r 1).c, .int .i64 (S.sp 0).ack, .int .i64 (S.sp 0).last, .int .i64 (S.sp 0).lt,
    .slice (r 2).a (r 2).n (r 2).c, .slice (r 3).a (r 3).n (r 3).c, .int .i64 (S.sp 1).ack, .int .i64 (S.sp 1).last, .int .i64 (S.sp 1).lt,
    .slice (r 4).a (r 4).n (r 4).c, .slice (r 5).a (r 5).n (r 5).c, .int .i64 (S.sp 2).ack, .int .i64 (S.sp 2).last, .int .i64 (S.sp 2).lt,
    .int .i64 S.win, .int .i64 S.thr, .int .i64 S.rcv, .int .i64 S.prb, .bool S.smp, .int .i64 S.lat, .int .i64 S.lea, .int .i64 S.smo, .int .i64 S.var]
def Hd (w : World) (rb : Nat) (S : Lo) (r : Nat → Sv) : Prop := w.heap[rb]? = some (.cells (hcells S r) 66 (0, 0))
def updr (r : Nat → Sv) (k : Nat) (x : Sv) : Nat → Sv := fun i => if i = k then x else r i
theorem updr_same (r : Nat → Sv) (k : Nat) (x : Sv) : updr r k x k = x := if_pos rfl
theorem updr_other (r : Nat → Sv) {k i : Nat} (x : Sv) (h : i ≠ k) : updr r k x i = r i := if_neg h
section
variable {w w' : World} {rb : Nat} {S : Lo} {r : Nat → Sv}
theorem Hd.cell (h : Hd w rb S r) (j : Nat) : w.cell? ⟨rb, j, none⟩ = (hcells S r)[j]? := cell_of_row w rb j _ 66 (0, 0) h
theorem Hd.free (h : Hd w rb S r) (j : Nat) : w.frozen? ⟨rb, j, none⟩ = false := frozen_of_row w rb j _ 66 h
theorem Hd.lt (h : Hd w rb S r) : rb < w.heap.size := lt_of_block h
theorem Hd.keep {F : Nat → Prop} (h : Hd w rb S r) (k : Keep F w w') (hF : ¬ F rb) : Hd w' rb S r := (k.block rb h.lt hF).trans h
theorem Hd.q (h : Hd w rb S r) (k : Q w w') : Hd w' rb S r := h.keep (Keep.ofQ (F := fun _ => False) k) id
theorem Hd.c0 (h : Hd w rb S r) : w.cell? ⟨rb, 0, none⟩ = some (.int .i64 S.most) := h.cell 0
theorem Hd.c1 (h : Hd w rb S r) : w.cell? ⟨rb, 1, none⟩ = some (.int .i64 S.now) := h.cell 1
theorem Hd.out (h : Hd w rb S r) {k : Nat} (hk : k < 3) : w.cell? ⟨rb, 2 + k * 5, none⟩ = some (.slice (r (2 * k)).a (r (2 * k)).n (r (2 * k)).c) := by
  rcases (show k = 0 ∨ k = 1 ∨ k = 2 by omega) with rfl | rfl | rfl <;> exact h.cell _
theorem Hd.sent (h : Hd w rb S r) {k : Nat} (hk : k < 3) : w.cell? ⟨rb, 2 + k * 5 + 1, none⟩ = some (.slice (r (2 * k + 1)).a (r (2 * k + 1)).n (r (2 * k + 1)).c) := by
  rcases (show k = 0 ∨ k = 1 ∨ k = 2 by omega) with rfl | rfl | rfl <;> exact h.cell _
theorem Hd.ack (h : Hd w rb S r) {k : Nat} (hk : k < 3) : w.cell? ⟨rb, 2 + k * 5 + 2, none⟩ = some (.int .i64 (S.sp k).ack) := by
  rcases (show k = 0 ∨ k = 1 ∨ k = 2 by omega) with rfl | rfl | rfl <;> exact h.cell _
theorem Hd.last (h : Hd w rb S r) {k : Nat} (hk : k < 3) : w.cell? ⟨rb, 2 + k * 5 + 3, none⟩ = some (.int .i64 (S.sp k).last) := by
  rcases (show k = 0 ∨ k = 1 ∨ k = 2 by omega) with rfl | rfl | rfl <;> exact h.cell _
theorem Hd.lt_ (h : Hd w rb S r) {k : Nat} (hk : k < 3) : w.cell? ⟨rb, 2 + k * 5 + 4, none⟩ = some (.int .i64 (S.sp k).lt) := by
  rcases (show k = 0 ∨ k = 1 ∨ k = 2 by omega) with rfl | rfl | rfl <;> exact h.cell _
theorem Hd.win (h : Hd w rb S r) : w.cell? ⟨rb, 17, none⟩ = some (.int .i64 S.win) := h.cell 17
theorem Hd.thr (h : Hd w rb S r) : w.cell? ⟨rb, 18, none⟩ = some (.int .i64 S.thr) := h.cell 18
theorem Hd.rcv (h : Hd w rb S r) : w.cell? ⟨rb, 19, none⟩ = some (.int .i64 S.rcv) := h.cell 19
theorem Hd.prb (h : Hd w rb S r) : w.cell? ⟨rb, 20, none⟩ = some (.int .i64 S.prb) := h.cell 20
theorem Hd.smp (h : Hd w rb S r) : w.cell? ⟨rb, 21, none⟩ = some (.bool S.smp) := h.cell 21
theorem Hd.lat (h : Hd w rb S r) : w.cell? ⟨rb, 22, none⟩ = some (.int .i64 S.lat) := h.cell 22
theorem Hd.lea (h : Hd w rb S r) : w.cell? ⟨rb, 23, none⟩ = some (.int .i64 S.lea) := h.cell 23
theorem Hd.smo (h : Hd w rb S r) : w.cell? ⟨rb, 24, none⟩ = some (.int .i64 S.smo) := h.cell 24
theorem Hd.var (h : Hd w rb S r) : w.cell? ⟨rb, 25, none⟩ = some (.int .i64 S.var) := h.cell 25

theorem Hd.set (h : Hd w rb S r) (j : Nat) (v : Value) {S' : Lo} {r' : Nat → Sv} (e : (hcells S r).setIfInBounds j v = hcells S' r') : Hd (w.setCell ⟨rb, j, none⟩ v) rb S' r' := by
  have := heap_setCell_same w rb j _ 66 v h
  rw [e] at this
  exact this
theorem Hd.now_ (h : Hd w rb S r) (q : Int) : Hd (w.setCell ⟨rb, 1, none⟩ (.int .i64 q)) rb { S with now := q } r := h.set _ _ rfl
theorem Hd.win_ (h : Hd w rb S r) (q : Int) : Hd (w.setCell ⟨rb, 17, none⟩ (.int .i64 q)) rb { S with win := q } r := h.set _ _ rfl
theorem Hd.thr_ (h : Hd w rb S r) (q : Int) : Hd (w.setCell ⟨rb, 18, none⟩ (.int .i64 q)) rb { S with thr := q } r := h.set _ _ rfl
theorem Hd.rcv_ (h : Hd w rb S r) (q : Int) : Hd (w.setCell ⟨rb, 19, none⟩ (.int .i64 q)) rb { S with rcv := q } r := h.set _ _ rfl
theorem Hd.prb_ (h : Hd w rb S r) (q : Int) : Hd (w.setCell ⟨rb, 20, none⟩ (.int .i64 q)) rb { S with prb := q } r := h.set _ _ rfl
theorem Hd.smp_ (h : Hd w rb S r) (q : Bool) : Hd (w.setCell ⟨rb, 21, none⟩ (.bool q)) rb { S with smp := q } r := h.set _ _ rfl
theorem Hd.lat_ (h : Hd w rb S r) (q : Int) : Hd (w.setCell ⟨rb, 22, none⟩ (.int .i64 q)) rb { S with lat := q } r := h.set _ _ rfl
theorem Hd.lea_ (h : Hd w rb S r) (q : Int) : Hd (w.setCell ⟨rb, 23, none⟩ (.int .i64 q)) rb { S with lea := q } r := h.set _ _ rfl
theorem Hd.smo_ (h : Hd w rb S r) (q : Int) : Hd (w.setCell ⟨rb, 24, none⟩ (.int .i64 q)) rb { S with smo := q } r := h.set _ _ rfl
theorem Hd.var_ (h : Hd w rb S r) (q : Int) : Hd (w.setCell ⟨rb, 25, none⟩ (.int .i64 q)) rb { S with var := q } r := h.set _ _ rfl
theorem Hd.ack_ (h : Hd w rb S r) {k : Nat} (hk : k < 3) (q : Int) : Hd (w.setCell ⟨rb, 2 + k * 5 + 2, none⟩ (.int .i64 q)) rb (S.put k { S.sp k with ack := q }) r := by
  rcases (show k = 0 ∨ k = 1 ∨ k = 2 by omega) with rfl | rfl | rfl <;> exact h.set _ _ rfl
theorem Hd.last_ (h : Hd w rb S r) {k : Nat} (hk : k < 3) (q : Int) : Hd (w.setCell ⟨rb, 2 + k * 5 + 3, none⟩ (.int .i64 q)) rb (S.put k { S.sp k with last := q }) r := by
  rcases (show k = 0 ∨ k = 1 ∨ k = 2 by omega) with rfl | rfl | rfl <;> exact h.set _ _ rfl
theorem Hd.ltm_ (h : Hd w rb S r) {k : Nat} (hk : k < 3) (q : Int) : Hd (w.setCell ⟨rb, 2 + k * 5 + 4, none⟩ (.int .i64 q)) rb (S.put k { S.sp k with lt := q }) r := by
  rcases (show k = 0 ∨ k = 1 ∨ k = 2 by omega) with rfl | rfl | rfl <;> exact h.set _ _ rfl
theorem Hd.out_ (h : Hd w rb S r) {k : Nat} (hk : k < 3) (d : Sv) (l : List Pk) : Hd (w.setCell ⟨rb, 2 + k * 5, none⟩ (.slice d.a d.n d.c)) rb (S.put k { S.sp k with out := l }) (updr r (2 * k) d) := by
  rcases (show k = 0 ∨ k = 1 ∨ k = 2 by omega) with rfl | rfl | rfl <;> exact h.set _ _ rfl
theorem Hd.sent_ (h : Hd w rb S r) {k : Nat} (hk : k < 3) (d : Sv) (l : List Spn) : Hd (w.setCell ⟨rb, 2 + k * 5 + 1, none⟩ (.slice d.a d.n d.c)) rb (S.put k { S.sp k with sent := l }) (updr r (2 * k + 1) d) := by
  rcases (show k = 0 ∨ k = 1 ∨ k = 2 by omega) with rfl | rfl | rfl <;> exact h.set _ _ rfl
end

/-- The blocks that are a Loss's own. -/
def Fp (rb : Nat) (r : Nat → Sv) (b : Nat) : Prop := b = rb ∨ ∃ i, i < 6 ∧ blk (r i).a = some b

/-- Its rows. -/
structure Rs (w : World) (rb : Nat) (r : Nat → Sv) (S : Lo) : Prop where
  o : ∀ k, k < 3 → RowP w (r (2 * k)) (S.sp k).out
  t : ∀ k, k < 3 → RowS w (r (2 * k + 1)) (S.sp k).sent
  ap : ∀ i j, i < 6 → j < 6 → i ≠ j → ∀ b, blk (r i).a = some b → blk (r j).a ≠ some b
  far : ∀ i, i < 6 → blk (r i).a ≠ some rb
theorem Rs.keep {F : Nat → Prop} {w w' : World} {rb : Nat} {r : Nat → Sv} {S : Lo} (h : Rs w rb r S) (k : Keep F w w') (hF : ∀ i, i < 6 → ∀ b, blk (r i).a = some b → ¬ F b) : Rs w' rb r S :=
  ⟨fun i hi => (h.o i hi).keep k (hF _ (by omega)), fun i hi => (h.t i hi).keep k (hF _ (by omega)), h.ap, h.far⟩
theorem Rs.lt {w : World} {rb : Nat} {r : Nat → Sv} {S : Lo} (h : Rs w rb r S) {i : Nat} (hi : i < 6) : ∀ b, blk (r i).a = some b → b < w.heap.size := by
  rcases (show i = 2 * (i / 2) ∨ i = 2 * (i / 2) + 1 by omega) with e | e
  · rw [e]; exact (h.o (i / 2) (by omega)).lt
  · rw [e]; exact (h.t (i / 2) (by omega)).lt
structure La (w : World) (rb : Nat) (r : Nat → Sv) (S : Lo) : Prop where
  hd : Hd w rb S r
  rs : Rs w rb r S
/-- What a call leaves: new memory, and of the old the Loss's own blocks alone. -/
structure Wr (w w' : World) (rb : Nat) (r r' : Nat → Sv) (S' : Lo) : Prop where
  la : La w' rb r' S'
  kp : Keep (Fp rb r) w w'
  fr : ∀ b, Fp rb r' b → Fp rb r b ∨ w.heap.size ≤ b
section
variable {w w' : World} {rb : Nat} {S : Lo} {r : Nat → Sv}
theorem La.lt (h : La w rb r S) : ∀ b, Fp rb r b → b < w.heap.size := by
  rintro b (rfl | ⟨i, hi, e⟩)
  · exact h.hd.lt
  · exact h.rs.lt hi b e
theorem La.keep {F : Nat → Prop} (h : La w rb r S) (k : Keep F w w') (hF : ∀ i, Fp rb r i → ¬ F i) : La w' rb r S :=
  ⟨h.hd.keep k (hF rb (.inl rfl)), h.rs.keep k (fun i hi b e => hF b (.inr ⟨i, hi, e⟩))⟩
theorem La.q (h : La w rb r S) (k : Q w w') : La w' rb r S := h.keep (Keep.ofQ (F := fun _ => False) k) (fun _ _ => id)
theorem Wr.refl (h : La w rb r S) : Wr w w rb r r S := ⟨h, Keep.refl _ _, fun b e => .inl e⟩
theorem Wr.ofQ (h : La w rb r S) (q : Q w w') : Wr w w' rb r r S := ⟨h.q q, Keep.ofQ q, fun b e => .inl e⟩
theorem Wr.trans {w1 w2 w3 : World} {r1 r2 r3 : Nat → Sv} {S2 S3 : Lo} (h : Wr w1 w2 rb r1 r2 S2) (k : Wr w2 w3 rb r2 r3 S3) : Wr w1 w3 rb r1 r3 S3 := by
  refine ⟨k.la, h.kp.trans' k.kp (fun i hi e => ?_), fun b e => ?_⟩
  · rcases h.fr i e with e | e
    · exact e
    · omega
  · rcases k.fr b e with e | e
    · exact h.fr b e
    · have := h.kp.size; exact .inr (by omega)
theorem Wr.qr {w1 w2 w3 : World} {r1 r2 : Nat → Sv} {S2 : Lo} (h : Wr w1 w2 rb r1 r2 S2) (q : Q w2 w3) : Wr w1 w3 rb r1 r2 S2 := h.trans (Wr.ofQ h.la q)
theorem Wr.ql {w1 w2 w3 : World} {r1 r2 : Nat → Sv} {S2 : Lo} (q : Q w1 w2) (h0 : La w1 rb r1 S) (h : Wr w2 w3 rb r1 r2 S2) : Wr w1 w3 rb r1 r2 S2 := (Wr.ofQ h0 q).trans h
/-- A cell of the head is set that is no slice. -/
theorem La.setHd (h : La w rb r S) (j : Nat) (v : Value) {S' : Lo} (hh : Hd (w.setCell ⟨rb, j, none⟩ v) rb S' r) (e : ∀ k, k < 3 → (S'.sp k).out = (S.sp k).out ∧ (S'.sp k).sent = (S.sp k).sent) : Wr w (w.setCell ⟨rb, j, none⟩ v) rb r r S' := by
  have k := (Keep.refl (fun k => k = rb) w).setCell rb j v (.inl rfl)
  have hr := h.rs.keep k (fun i hi b e1 e2 => h.rs.far i hi (by rw [e1, e2]))
  exact ⟨⟨hh, ⟨fun k hk => by rw [(e k hk).1]; exact hr.o k hk, fun k hk => by rw [(e k hk).2]; exact hr.t k hk, hr.ap, hr.far⟩⟩, k.mono (fun i _ e => .inl e), fun b e => .inl e⟩
/-- A row is another one, and its slice is told. -/
theorem rs_new {w1 : World} {d : Sv} {i0 : Nat} {S' : Lo} (h : La w rb r S) (hi0 : i0 < 6) (k1 : Keep (fun b => blk (r i0).a = some b) w w1) (hb : ∀ b, blk d.a = some b → blk (r i0).a = some b ∨ w.heap.size ≤ b) (j : Nat) (v : Value)
    (ho : ∀ k, k < 3 → 2 * k = i0 → RowP w1 d (S'.sp k).out) (ht : ∀ k, k < 3 → 2 * k + 1 = i0 → RowS w1 d (S'.sp k).sent)
    (eo : ∀ k, k < 3 → 2 * k ≠ i0 → (S'.sp k).out = (S.sp k).out) (et : ∀ k, k < 3 → 2 * k + 1 ≠ i0 → (S'.sp k).sent = (S.sp k).sent)
    (hh : Hd (w1.setCell ⟨rb, j, none⟩ v) rb S' (updr r i0 d)) : Wr w (w1.setCell ⟨rb, j, none⟩ v) rb r (updr r i0 d) S' := by
  have hdrb : blk d.a ≠ some rb := fun e => by
    rcases hb rb e with e | e
    · exact h.rs.far i0 hi0 e
    · have := h.hd.lt; omega
  have k2 := (Keep.refl (fun k => k = rb) w1).setCell rb j v (.inl rfl)
  have hold : ∀ i, i < 6 → i ≠ i0 → ∀ b, blk (r i).a = some b → ¬ (fun b => blk (r i0).a = some b) b := fun i hi hne b e e' => h.rs.ap i i0 hi hi0 hne b e e'
  refine ⟨⟨hh, ⟨fun k hk => ?_, fun k hk => ?_, fun i j hi hj hne b => ?_, fun i hi => ?_⟩⟩, ?_, ?_⟩
  · by_cases e : 2 * k = i0
    · rw [show updr r i0 d (2 * k) = d by rw [e]; exact updr_same r i0 d]
      exact (ho k hk e).keep k2 (fun b e1 e2 => hdrb (by rw [e1, e2]))
    · rw [updr_other r d e, eo k hk e]
      exact ((h.rs.o k hk).keep k1 (hold _ (by omega) e)).keep k2 (fun b e1 e2 => h.rs.far (2 * k) (by omega) (by rw [e1, e2]))
  · by_cases e : 2 * k + 1 = i0
    · rw [show updr r i0 d (2 * k + 1) = d by rw [e]; exact updr_same r i0 d]
      exact (ht k hk e).keep k2 (fun b e1 e2 => hdrb (by rw [e1, e2]))
    · rw [updr_other r d e, et k hk e]
      exact ((h.rs.t k hk).keep k1 (hold _ (by omega) e)).keep k2 (fun b e1 e2 => h.rs.far (2 * k + 1) (by omega) (by rw [e1, e2]))
  · by_cases e1 : i = i0
    · subst e1
      have e2 : j ≠ i := fun e => hne e.symm
      rw [updr_same, updr_other r d e2]
      intro e e'
      rcases hb b e with e3 | e3
      · exact h.rs.ap i j hi hj hne b e3 e'
      · have := h.rs.lt hj b e'; omega
    · rw [updr_other r d e1]
      by_cases e2 : j = i0
      · subst e2
        rw [updr_same]
        intro e e'
        rcases hb b e' with e3 | e3
        · exact h.rs.ap i j hi hj hne b e e3
        · have := h.rs.lt hi b e; omega
      · rw [updr_other r d e2]; exact h.rs.ap i j hi hj hne b
  · by_cases e1 : i = i0
    · subst e1; rw [updr_same]; exact hdrb
    · rw [updr_other r d e1]; exact h.rs.far i hi
  · exact (k1.mono (fun b _ e => Or.inr ⟨i0, hi0, e⟩)).setCell rb j v (.inl (.inl rfl))
  · rintro b (rfl | ⟨i, hi, e⟩)
    · exact .inl (.inl rfl)
    · by_cases e1 : i = i0
      · subst e1
        rw [updr_same] at e
        rcases hb b e with e | e
        · exact .inl (.inr ⟨i, hi, e⟩)
        · exact .inr e
      · rw [updr_other r d e1] at e; exact .inl (.inr ⟨i, hi, e⟩)
theorem La.newOut {w1 : World} {d : Sv} {l : List Pk} {k : Nat} (h : La w rb r S) (hk : k < 3) (k1 : Keep (fun b => blk (r (2 * k)).a = some b) w w1) (hrow : RowP w1 d l) (hb : ∀ b, blk d.a = some b → blk (r (2 * k)).a = some b ∨ w.heap.size ≤ b) :
    Wr w (w1.setCell ⟨rb, 2 + k * 5, none⟩ (.slice d.a d.n d.c)) rb r (updr r (2 * k) d) (S.put k { S.sp k with out := l }) := by
  refine rs_new h (by omega) k1 hb _ _ (fun i hi e => ?_) (fun i hi e => by omega) (fun i hi e => ?_) (fun i hi e => ?_) ?_
  · obtain rfl : i = k := by omega
    simp only [Lo.put, upd_same]; exact hrow
  · simp only [Lo.put, upd_other S.sp _ (show i ≠ k by omega)]
  · by_cases e1 : i = k
    · subst e1; simp only [Lo.put, upd_same]
    · simp only [Lo.put, upd_other S.sp _ e1]
  · exact (h.hd.keep k1 (fun e => h.rs.far _ (by omega) e)).out_ hk d l
theorem La.newSent {w1 : World} {d : Sv} {l : List Spn} {k : Nat} (h : La w rb r S) (hk : k < 3) (k1 : Keep (fun b => blk (r (2 * k + 1)).a = some b) w w1) (hrow : RowS w1 d l) (hb : ∀ b, blk d.a = some b → blk (r (2 * k + 1)).a = some b ∨ w.heap.size ≤ b) :
    Wr w (w1.setCell ⟨rb, 2 + k * 5 + 1, none⟩ (.slice d.a d.n d.c)) rb r (updr r (2 * k + 1) d) (S.put k { S.sp k with sent := l }) := by
  refine rs_new h (by omega) k1 hb _ _ (fun i hi e => by omega) (fun i hi e => ?_) (fun i hi e => ?_) (fun i hi e => ?_) ?_
  · obtain rfl : i = k := by omega
    simp only [Lo.put, upd_same]; exact hrow
  · by_cases e1 : i = k
    · subst e1; simp only [Lo.put, upd_same]
    · simp only [Lo.put, upd_other S.sp _ e1]
  · simp only [Lo.put, upd_other S.sp _ (show i ≠ k by omega)]
  · exact (h.hd.keep k1 (fun e => h.rs.far _ (by omega) e)).sent_ hk d l
end
end Go.Proofs.Ytjhihcmemnhbbaa
