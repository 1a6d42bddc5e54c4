/-
  What frame.ackItems does: a contract that the statements' walks use.
-/
import Derived.Test.YtdoodbaogmdloabLast
namespace Go.Proofs.Ytdoodbaogmdloab
open Go.RowKit
set_option linter.unusedVariables false
set_option maxRecDepth 20000

/-- Ints in a row. -/
abbrev i64s (zs : List Int) : List Value := zs.map (.int .i64)
abbrev RowN (w : World) (d : Sv) (zs : List Int) : Prop := Sub w 3 1 d.a d.n d.c (i64s zs)
theorem RowN.len {w : World} {d : Sv} {zs : List Int} (h : RowN w d zs) : zs.length = d.n := by simpa using h.1
theorem RowN.seg {w : World} {d : Sv} {zs : List Int} (h : RowN w d zs) : SegN w d.a zs := by
  intro hne
  have hl := RowN.len h
  have hp : 0 < d.n := by
    cases zs with
    | nil => exact absurd rfl hne
    | cons x r => simp at hl; omega
  obtain ⟨g, off, ha, _, hc⟩ := h.some_ hp
  refine ⟨g, off, ha, fun i hi => hc i _ ?_⟩
  rw [List.getElem?_map, List.getD_eq_getElem?_getD, List.getElem?_eq_getElem hi]; rfl
theorem src_segN {w : World} {a : Option Addr} {n c : Nat} {zs : List Int} (h : SegN w a zs) (hl : zs.length = n) : Src Try.prog 1 85 (.slice a n c) n (i64s zs) w := by
  by_cases h0 : zs = []
  · subst h0
    obtain rfl : n = 0 := by simpa using hl.symm
    cases a with
    | none => exact Src.ofNil w Try.underlying85 c
    | some ad => exact Src.ofSlice (size := 1) w Try.underlying85 ad 0 c [] (by simp) (by intro j u hj; cases hj) (by intro u hu; cases hu)
  · obtain ⟨b, off, rfl, hc⟩ := h h0
    refine Src.ofSlice (size := 1) w Try.underlying85 ⟨b, off, none⟩ n c (i64s zs) (by simp [hl]) (fun j u hj => ?_) (ints_oneCell _ _)
    have hj' : j < zs.length := by
      rcases Nat.lt_or_ge j zs.length with hh | hh
      · exact hh
      · rw [List.getElem?_eq_none (by simpa using hh)] at hj; cases hj
    rw [addr_add, hc j hj']
    rw [List.getElem?_map, List.getElem?_eq_getElem hj'] at hj
    simp only [Option.map_some, Option.some.injEq] at hj
    rw [← hj, List.getD_eq_getElem?_getD, List.getElem?_eq_getElem hj']; rfl
theorem rown_append {w : World} {d : Sv} {zs ys : List Int} {x : Value} {m : Nat} {ty : TypeId} (h : RowN w d zs) (hs : Src Try.prog 1 85 x m (i64s ys) w) (hn : d.n + m ≤ 1000000) :
    ∃ d' w', (Builtin.append_ #[85, 85] ty #[.slice d.a d.n d.c, x]).run Try.prog w = .ok (.slice d'.a d'.n d'.c) w' ∧ RowN w' d' (zs ++ ys) ∧ Keep (fun b => blk d.a = some b) w w' ∧ (blk d'.a = blk d.a ∨ blk d'.a = some w.heap.size) := by
  obtain ⟨i0, hi, hz0, hz1, hz2⟩ := info_parts info3
  obtain ⟨a', c', w', h1, h2, h3, h4⟩ := sub_append (P := Try.prog) (ty := ty) Try.underlying85 hi hz0 hz1 hz2 rfl h hs (by unfold maxLen; omega) (by omega)
  exact ⟨⟨a', d.n + m, c'⟩, w', h1, by show Sub _ _ _ _ _ _ (i64s _); rw [show i64s (zs ++ ys) = i64s zs ++ i64s ys from List.map_append]; exact h2, h3, h4⟩

/-- The items behind the first span, downwards. -/
def downs : Int × Int → List (Int × Int) → List Int
  | _, [] => []
  | t, s :: r => (t.1 - s.2 - 2) :: (s.2 - s.1) :: downs s r
theorem downs_len (t : Int × Int) (l : List (Int × Int)) : (downs t l).length = 2 * l.length := by
  induction l generalizing t with
  | nil => rfl
  | cons s r ih => simp [downs, ih]; omega
def marks (f : Fr) : List Int := if f.kind = 3 then [f.e0, f.e1, f.e2] else []
/-- The numbers of an ack. -/
def ackN (f : Fr) : List Int :=
  match f.sp.reverse with
  | [] => marks f
  | t :: r => [t.2, f.dl, (r.length : Int), t.2 - t.1] ++ downs t r ++ marks f

theorem spOk_all {low : Int} {l : List (Int × Int)} (h0 : 0 ≤ low) (h : spOk low l = true) : ∀ x ∈ l, 0 ≤ x.1 ∧ x.1 ≤ x.2 ∧ x.2 ≤ 4611686018427387903 := by
  induction l generalizing low with
  | nil => intro x hx; cases hx
  | cons s r ih =>
    simp only [spOk, Bool.and_eq_true, decide_eq_true_eq] at h
    intro x hx
    rcases List.mem_cons.1 hx with rfl | hx
    · omega
    · exact ih (by omega) h.2 x hx

theorem rev_take {l : List (Int × Int)} {j : Nat} (hj : j < l.length) : (l.take (j + 1)).reverse = l.getD j (0, 0) :: (l.take j).reverse := by
  rw [List.take_succ_eq_append_getElem hj, List.getD_eq_getElem?_getD, List.getElem?_eq_getElem hj]; simp

/-- A span in a block of its own. -/
def Tb (w : World) (tb : Nat) (t : Int × Int) : Prop := w.heap[tb]? = some (.cells #[.int .i64 t.1, .int .i64 t.2] 36 (0, 0))
theorem Tb.c0 {w : World} {tb : Nat} {t : Int × Int} (h : Tb w tb t) : w.cell? ⟨tb, 0, none⟩ = some (.int .i64 t.1) := by rw [cell_of_row w tb 0 _ 36 (0, 0) h]; rfl
theorem Tb.c1 {w : World} {tb : Nat} {t : Int × Int} (h : Tb w tb t) : w.cell? ⟨tb, 1, none⟩ = some (.int .i64 t.2) := by rw [cell_of_row w tb 1 _ 36 (0, 0) h]; rfl
theorem Tb.free {w : World} {tb : Nat} {t : Int × Int} (h : Tb w tb t) (j : Nat) : w.frozen? ⟨tb, j, none⟩ = false := frozen_of_row w tb j _ 36 h
theorem Tb.keep {F : Nat → Prop} {w w' : World} {tb : Nat} {t : Int × Int} (h : Tb w tb t) (k : Keep F w w') (hF : ¬ F tb) : Tb w' tb t := (k.block tb (lt_of_block h) hF).trans h
theorem Tb.set {w : World} {tb : Nat} {t : Int × Int} (h : Tb w tb t) (x y : Int) : Tb ((w.setCell ⟨tb, 0, none⟩ (.int .i64 x)).setCell ⟨tb, 1, none⟩ (.int .i64 y)) tb (x, y) := by
  have h1 := heap_setCell_same w tb 0 _ 36 (.int .i64 x) h
  have h2 := heap_setCell_same _ tb 1 _ 36 (.int .i64 y) h1
  simpa [Tb] using h2

theorem segN_box {w : World} {t fb : Nat} {f : Fr} {d c s : Sv} (h : Box w t fb f d c s) : SegN w (some ⟨fb, 10, none⟩) [f.e0, f.e1, f.e2] := by
  intro _
  refine ⟨fb, 10, rfl, fun i hi => ?_⟩
  have : i = 0 ∨ i = 1 ∨ i = 2 := by simp at hi; omega
  rcases this with rfl | rfl | rfl
  · exact h.c10
  · exact h.c11
  · exact h.c12

/-- The loop's state: the first items and what is still to come. -/
structure AckI (w wr : World) (f : Fr) (d c s : Sv) (j : Nat) (x : Sv) (acc : List Int) : Prop where
  q : Q w wr
  box : Box wr 34 w.heap.size f d c s
  tb : Tb wr (w.heap.size + 1) (f.sp.getD j (0, 0))
  row : RowN wr x acc
  new : New w.heap.size x
  n0 : blk x.a ≠ some w.heap.size
  n1 : blk x.a ≠ some (w.heap.size + 1)
  len : acc.length + 2 * j ≤ 4 + 2 * 63
  eq : ackN f = acc ++ downs (f.sp.getD j (0, 0)) (f.sp.take j).reverse ++ marks f

theorem AckI.step {w wr w2 : World} {f : Fr} {d c s x y : Sv} {j : Nat} {acc : List Int} {g : World} (h : AckI w wr f d c s (j + 1) x acc) (hj : j + 1 < f.sp.length) (q1 : Q wr g) (hrow : RowN w2 y (acc ++ [(f.sp.getD (j + 1) (0, 0)).1 - (f.sp.getD j (0, 0)).2 - 2, (f.sp.getD j (0, 0)).2 - (f.sp.getD j (0, 0)).1]))
    (k : Keep (fun b => blk x.a = some b) g w2) (hb : blk y.a = blk x.a ∨ blk y.a = some g.heap.size) :
    AckI w ((w2.setCell ⟨w.heap.size + 1, 0, none⟩ (.int .i64 (f.sp.getD j (0, 0)).1)).setCell ⟨w.heap.size + 1, 1, none⟩ (.int .i64 (f.sp.getD j (0, 0)).2)) f d c s j y (acc ++ [(f.sp.getD (j + 1) (0, 0)).1 - (f.sp.getD j (0, 0)).2 - 2, (f.sp.getD j (0, 0)).2 - (f.sp.getD j (0, 0)).1]) := by
  have hlt1 : w.heap.size + 1 < wr.heap.size := lt_of_block h.tb
  have hgs := q1.size
  have hy : ∀ b, blk y.a = some b → blk x.a = some b ∨ wr.heap.size ≤ b := fun b e => by
    rcases hb with h' | h'
    · exact .inl (by rw [← h']; exact e)
    · rw [h'] at e; cases e; exact .inr hgs
  have n0 : blk y.a ≠ some w.heap.size := fun e => by
    rcases hy _ e with h' | h'
    · exact h.n0 h'
    · omega
  have n1 : blk y.a ≠ some (w.heap.size + 1) := fun e => by
    rcases hy _ e with h' | h'
    · exact h.n1 h'
    · omega
  have q2 : Q w w2 := k.below (h.q.trans q1) (h.q.trans q1).size (fun i hi => h.new i hi)
  have ks : Keep (fun b => b = w.heap.size + 1) w2 ((w2.setCell ⟨w.heap.size + 1, 0, none⟩ (.int .i64 (f.sp.getD j (0, 0)).1)).setCell ⟨w.heap.size + 1, 1, none⟩ (.int .i64 (f.sp.getD j (0, 0)).2)) :=
    ((Keep.refl (fun b => b = w.heap.size + 1) w2).setCell _ _ _ (.inl rfl)).setCell _ _ _ (.inl rfl)
  refine ⟨ks.below q2 q2.size (fun i hi => by omega), ((h.box.q q1).keep k h.n0).keep ks (by omega), Tb.set ((h.tb.keep (Keep.ofQ (F := fun _ => False) q1) id).keep k h.n1) _ _, hrow.keep ks (fun b hb' e => n1 (by rw [hb', e])), fun b e => ?_, n0, n1, ?_, ?_⟩
  · rcases hy b e with h' | h'
    · exact h.new b h'
    · have := h.q.size; omega
  · have := h.len; simp; omega
  · rw [h.eq, rev_take (by omega), downs]
    simp [List.append_assoc]

theorem ack_start {f : Fr} {m : Nat} (hm : f.sp.length = m + 1) : ackN f = [(f.sp.getD m (0, 0)).2, f.dl, (m : Int), (f.sp.getD m (0, 0)).2 - (f.sp.getD m (0, 0)).1] ++ downs (f.sp.getD m (0, 0)) (f.sp.take m).reverse ++ marks f := by
  have e : f.sp.reverse = f.sp.getD m (0, 0) :: (f.sp.take m).reverse := by
    rw [← rev_take (by omega), List.take_of_length_le (by omega)]
  unfold ackN
  rw [e]
  simp [hm]

theorem spans_in {w : World} {a : Option Addr} {l : List (Int × Int)} (h : SegS w a l) {j : Nat} (hj : j < l.length) : ∃ b off, a = some ⟨b, off, none⟩ ∧ b < w.heap.size ∧ w.cell? ⟨b, off + j * 2, none⟩ = some (.int .i64 (l.getD j (0, 0)).1) ∧ w.cell? ⟨b, off + j * 2 + 1, none⟩ = some (.int .i64 (l.getD j (0, 0)).2) := by
  obtain ⟨b, off, ha, hc⟩ := h (by intro e; simp [e] at hj)
  exact ⟨b, off, ha, lt_of_cell (hc j hj).1, (hc j hj).1, (hc j hj).2⟩

set_option maxHeartbeats 4000000 in
theorem ackItems_any (f : Fr) (d c s : Sv) (w : World) (h : Holds w f d c s) (hk : f.kind = 2 ∨ f.kind = 3) (hsp : spansB f.sp = true) :
    Calls Try.prog 28 #[fv f d c s] w fun e w' => ∃ r : Sv, e = .returned (.slice r.a r.n r.c) ∧ Q w w' ∧ Row w' r (forms (ackN f)) ∧ New w.heap.size r := by
  unfold spansB at hsp
  rw [Bool.and_eq_true, decide_eq_true_eq] at hsp
  obtain ⟨⟨h1, h64⟩, hok⟩ := hsp
  have hall := spOk_all (by omega) hok
  have hsl := h.sl
  obtain ⟨m, hm⟩ : ∃ m, f.sp.length = m + 1 := ⟨f.sp.length - 1, by omega⟩
  have hsn : s.n = m + 1 := by omega
  have hm63 : m ≤ 63 := by omega
  obtain ⟨b, off, ha, hb, cm0, cm1⟩ := spans_in h.ss (j := m) (by omega)
  obtain ⟨sa, sn, sc⟩ := s
  dsimp only at ha hsn hsl
  subst ha
  subst hsn
  have HSS := hid h.ss
  have HALL := hid (fun j (hj : j < f.sp.length) => hall (f.sp.getD j (0, 0)) (by rw [List.getD_eq_getElem?_getD, List.getElem?_eq_getElem hj]; exact List.getElem_mem _))
  have hr := HALL.out m (by omega)
  have ST := hid (ack_start hm)
  have HM := hid hm
  clear h hok hall hm hsl h1 h64
  have hw0 : IntKind.i64.wrap (((m + 1 : Nat) : Int) - 1) = m := by rw [IntKind.wrap_i64]; omega
  have hw0' : IntKind.i64.wrap ((m : Int) + 1 - 1) = m := by rw [IntKind.wrap_i64]; omega
  have hw1 : IntKind.i64.wrap ((f.sp.getD m (0, 0)).2 - (f.sp.getD m (0, 0)).1) = (f.sp.getD m (0, 0)).2 - (f.sp.getD m (0, 0)).1 := by rw [IntKind.wrap_i64]; omega
  have hw2 : IntKind.i64.wrap ((m : Int) - 1) = (m : Int) - 1 := by rw [IntKind.wrap_i64]; omega
  have hmi : (m : Int) < (m : Int) + 1 := by omega
  have START := hid (show ∀ wr, wr = (((w.alloc (.cells (fcells f d c ⟨some ⟨b, off, none⟩, m + 1, sc⟩) 34)).alloc (.cells #[.int .i64 (f.sp.getD m (0, 0)).1, .int .i64 (f.sp.getD m (0, 0)).2] 36)).alloc (.cells #[.int .i64 (f.sp.getD m (0, 0)).2, .int .i64 f.dl, .int .i64 m, .int .i64 ((f.sp.getD m (0, 0)).2 - (f.sp.getD m (0, 0)).1)] 3)) →
      AckI w wr f d c ⟨some ⟨b, off, none⟩, m + 1, sc⟩ m ⟨some ⟨w.heap.size + 2, 0, none⟩, 4, 4⟩ [(f.sp.getD m (0, 0)).2, f.dl, (m : Int), (f.sp.getD m (0, 0)).2 - (f.sp.getD m (0, 0)).1] from by
    rintro wr rfl
    refine ⟨(((Q.refl w).alloc _).alloc _).alloc _, ?_, ?_, ?_, ?_, ?_, ?_, by simp; omega, ST.out⟩
    · exact Box.q (Box.q (w := w.alloc _) (heap_alloc_new w _) ((Q.refl _).alloc _)) ((Q.refl _).alloc _)
    · have := heap_alloc_new (w.alloc (.cells (fcells f d c ⟨some ⟨b, off, none⟩, m + 1, sc⟩) 34)) (.cells #[.int .i64 (f.sp.getD m (0, 0)).1, .int .i64 (f.sp.getD m (0, 0)).2] 36)
      have ht : Tb ((w.alloc (.cells (fcells f d c ⟨some ⟨b, off, none⟩, m + 1, sc⟩) 34)).alloc (.cells #[.int .i64 (f.sp.getD m (0, 0)).1, .int .i64 (f.sp.getD m (0, 0)).2] 36)) (w.heap.size + 1) (f.sp.getD m (0, 0)) := by simpa [Tb] using this
      exact ht.keep (Keep.ofQ (F := fun _ => False) ((Q.refl _).alloc _)) id
    · have := heap_alloc_new ((w.alloc (.cells (fcells f d c ⟨some ⟨b, off, none⟩, m + 1, sc⟩) 34)).alloc (.cells #[.int .i64 (f.sp.getD m (0, 0)).1, .int .i64 (f.sp.getD m (0, 0)).2] 36)) (.cells #[.int .i64 (f.sp.getD m (0, 0)).2, .int .i64 f.dl, .int .i64 m, .int .i64 ((f.sp.getD m (0, 0)).2 - (f.sp.getD m (0, 0)).1)] 3)
      refine ⟨rfl, .inr ⟨w.heap.size + 2, 0, _, rfl, by simpa using this, by simp, by show 4 ≤ maxLen; unfold maxLen; omega, by simp, fun j hj => by simp⟩⟩
    · intro b' hb'; cases hb'; simp
    · intro e; simp [blk] at e
    · intro e; simp [blk] at e)
  generalize hT : f.sp.getD m (0, 0) = T at *
  go_enter Try.func28, Try.ntmps28
  go_wp2
  go_loopw [5, 6] (fun it i wr => ∃ (j : Nat) (x : Sv) (acc : List Int), j ≤ m ∧ i = .int .i64 ((j : Int) - 1) ∧ it = .slice x.a x.n x.c ∧ AckI w wr f d c ⟨some ⟨b, off, none⟩, m + 1, sc⟩ j x acc) (fun _ i _ => (intOf i + 1).toNat)
  case atStart => exact ⟨m, ⟨some ⟨w.heap.size + 2, 0, none⟩, 4, 4⟩, _, Nat.le_refl _, rfl, rfl, START.out _ rfl⟩
  case round =>
    obtain ⟨j, ⟨xa, xn, xc⟩, acc, hj, rfl, rfl, hI⟩ := hrel
    have HI := hid hI
    cases j with
    | zero =>
      have c0 := hI.box.c0
      have c10 := hI.box.c10
      have HE := hid (show ackN f = acc ++ marks f from by have := hI.eq; simpa [downs] using this)
      have hlen := hI.len
      have hxl := RowN.len hI.row
      have hq := hI.q
      have hnew := hI.new
      have hrow := hI.row
      have hbox := hI.box
      clear hI
      dsimp only at hxl
      rcases hk with hk | hk
      · rw [hk] at c0
        rw [show marks f = [] from by simp [marks, hk], List.append_nil] at HE
        have HQ := hid hq
        have HW := hid hrow
        clear hq hnew hrow hbox hk
        go_wp2_with fail
        refine (numbers_any xa xn xc acc _ hxl HW.out.seg (by omega)).mono ?_
        rintro e w2 ⟨r, rfl, hq2, hr2, hn2⟩
        have HX := hid (show Q w w2 ∧ Row w2 r (forms (ackN f)) ∧ New w.heap.size r from ⟨HQ.out.trans hq2, by rw [HE.out]; exact hr2, hn2.mono HQ.out.size⟩)
        clear hq2 hr2 hn2
        go_wp2
        go_ret
        exact ⟨r, rfl, HX.out⟩
      · rw [hk] at c0
        rw [show marks f = [f.e0, f.e1, f.e2] from by simp [marks, hk]] at HE
        obtain ⟨⟨ya, yn, yc⟩, w2, hrun, hrow2, hk2, hb2⟩ := rown_append (ty := 85) (d := ⟨xa, xn, xc⟩) (x := .slice (some ⟨w.heap.size, 10, none⟩) 3 3) (m := 3) (ys := [f.e0, f.e1, f.e2]) hrow (src_segN (segN_box hbox) rfl) (by dsimp only; omega)
        have hyl := RowN.len hrow2
        dsimp only at hyl
        have hns := new_step rfl hq hnew hk2 hb2
        have HN := hid hns
        have HW := hid hrow2
        clear hq hnew hrow hbox hk hrow2 hk2 hb2 hns
        go_wp2_with (at_builtin; refine Lib.wpList_append_run _ rfl _ _ _ _ rfl _ _ rfl rfl _ _ hrun ?_)
        refine (numbers_any ya yn yc _ _ hyl HW.out.seg (by rw [← hyl]; simp; omega)).mono ?_
        rintro e w3 ⟨r, rfl, hq2, hr2, hn2⟩
        have HX := hid (show Q w w3 ∧ Row w3 r (forms (ackN f)) ∧ New w.heap.size r from ⟨HN.out.1.trans hq2, by rw [HE.out]; exact hr2, hn2.mono HN.out.1.size⟩)
        clear hq2 hr2 hn2
        go_wp2
        go_ret
        exact ⟨r, rfl, HX.out⟩
    | succ j =>
      obtain ⟨b', off', hbb, hb', d0, d1⟩ := spans_in HSS.out (j := j) (by rw [HM.out]; omega)
      simp only [Option.some.injEq, Addr.mk.injEq, and_true] at hbb
      obtain ⟨rfl, rfl⟩ := hbb
      have c8 := hI.box.c8
      have t0 := hI.tb.c0
      have t1 := hI.tb.c1
      have f0 := hI.tb.free 0
      have f1 := hI.tb.free 1
      have hq := hI.q
      rw [← hq.cell (by exact hb)] at d0 d1
      have r1 := HALL.out (j + 1) (by rw [HM.out]; omega)
      have r0 := HALL.out j (by rw [HM.out]; omega)
      have hlen := hI.len
      have hrow := hI.row
      have hxl := RowN.len hI.row
      have ST := hid (fun (w2 : World) (y : Sv) (g : World) (q1 : Q wr g) => hI.step (w2 := w2) (y := y) (g := g) (by rw [HM.out]; omega) q1)
      have hbr : b < wr.heap.size := Nat.lt_of_lt_of_le hb hq.size
      have htb : w.heap.size + 1 < wr.heap.size := lt_of_block hI.tb
      clear hI
      generalize f.sp.getD (j + 1) (0, 0) = T1 at *
      generalize f.sp.getD j (0, 0) = T0 at *
      obtain ⟨p1, u1⟩ := T1
      obtain ⟨p0, u0⟩ := T0
      dsimp only at *
      have v1 : IntKind.i64.wrap (p1 - u0) = p1 - u0 := by rw [IntKind.wrap_i64]; omega
      have v2 : IntKind.i64.wrap (p1 - u0 - 2) = p1 - u0 - 2 := by rw [IntKind.wrap_i64]; omega
      have v3 : IntKind.i64.wrap (u0 - p0) = u0 - p0 := by rw [IntKind.wrap_i64]; omega
      have hji : (((j + 1 : Nat) : Int)) - 1 = (j : Int) := by omega
      rw [hji]
      have hj0 : ¬ (j : Int) < 0 := by omega
      have hj1 : (j : Int) < (m : Int) + 1 := by omega
      have hj2 : (0 : Int) ≤ (j : Int) := by omega
      have hw3 : IntKind.i64.wrap ((j : Int) - 1) = (j : Int) - 1 := by rw [IntKind.wrap_i64]; omega
      obtain ⟨g, hg⟩ : ∃ g, g = (wr.alloc (.cells #[.int .i64 p0, .int .i64 u0] 36)).alloc (.cells #[.int .i64 (p1 - u0 - 2), .int .i64 (u0 - p0)] 3) := ⟨_, rfl⟩
      have hqg : Q wr g := by rw [hg]; exact ((Q.refl wr).alloc _).alloc _
      have hsg : SegN g (some ⟨wr.heap.size + 1, 0, none⟩) [p1 - u0 - 2, u0 - p0] := by
        rw [hg]
        have := segN_new (wr.alloc (.cells #[.int .i64 p0, .int .i64 u0] 36)) [p1 - u0 - 2, u0 - p0]
        simpa using this
      have hbg : Tb g wr.heap.size (p0, u0) := by
        rw [hg]
        have := heap_alloc_new wr (.cells #[.int .i64 p0, .int .i64 u0] 36)
        exact Tb.keep (w := wr.alloc (.cells #[.int .i64 p0, .int .i64 u0] 36)) this (Keep.ofQ (F := fun _ => False) ((Q.refl _).alloc _)) id
      obtain ⟨⟨ya, yn, yc⟩, w2, hrun, hrow2, hk2, hb2⟩ := rown_append (ty := 85) (d := ⟨xa, xn, xc⟩) (x := .slice (some ⟨wr.heap.size + 1, 0, none⟩) 2 2) (m := 2) (ys := [p1 - u0 - 2, u0 - p0]) (hrow.q hqg) (src_segN hsg rfl) (by dsimp only; omega)
      have hT2 := (HI.out.tb.keep (Keep.ofQ (F := fun _ => False) hqg) id).keep hk2 HI.out.n1
      have hB2 := hbg.keep hk2 (fun e => by have := hrow.lt _ e; omega)
      have e0 := hB2.c0
      have e1 := hB2.c1
      have g0 := hT2.c0
      have g1 := hT2.c1
      have g2 := hT2.free 0
      have g3 := hT2.free 1
      have REL := hid (ST.out w2 ⟨ya, yn, yc⟩ g hqg hrow2 hk2 hb2)
      rw [hg] at hrun
      clear hq hrow hsg hbg hrow2 hk2 hb2 hT2 hB2 hqg HI
      go_wp2_with (at_builtin; refine Lib.wpList_append_run _ rfl _ _ _ _ rfl _ _ rfl rfl _ _ hrun ?_)
      go_roundw
      case rel => exact ⟨j, ⟨ya, yn, yc⟩, _, by omega, rfl, rfl, REL.out⟩
      case measure => simp [intOf]
end Go.Proofs.Ytdoodbaogmdloab
