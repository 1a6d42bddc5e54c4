/-
  What prim.sum, sized, number and Digest do: contracts that the statements' walks use.
-/
import Derived.Test.YtekpepnonhbkcaaMix
namespace Go.Proofs.Ytekpepnonhbkcaa
open Go.RowKit
set_option linter.unusedVariables false
set_option maxRecDepth 20000

/-- A word's eight bytes, the highest first; a count's four bytes, the lowest first. -/
def by8 (a : Int) : List Int := [a / 72057594037927936 % 256, a / 281474976710656 % 256, a / 1099511627776 % 256, a / 4294967296 % 256, a / 16777216 % 256, a / 65536 % 256, a / 256 % 256, a % 256]
def tail4 (c : Int) : List Int := [c % 256, c / 256 % 256, c / 65536 % 256, c / 16777216 % 256]
theorem tail4_lt (c : Int) : ∀ y ∈ tail4 c, 0 ≤ y ∧ y < 256 := by
  intro y hy
  simp only [tail4, List.mem_cons, List.not_mem_nil, or_false] at hy
  omega
/-- The digest once all its bytes are in. -/
def sumL (m : Mx) : List Int := by8 (mix m (tail4 m.c)).a ++ by8 (mix m (tail4 m.c)).b
/-- The digest of bytes. -/
def dg (zs : List Int) : List Int := sumL (mix st0 zs)
theorem seg_lit (w : World) (zs : List Int) : Seg (w.alloc (.cells (zs.map (Value.int .u8)).toArray 5)) (some ⟨w.heap.size, 0, none⟩) zs := by
  intro _
  refine ⟨w.heap.size, 0, rfl, fun i hi => ?_⟩
  rw [cell_of_row _ w.heap.size (0 + i) _ 5 (0, 0) (heap_alloc_new w _), Nat.zero_add]
  simp [List.getD_eq_getElem?_getD, hi]
/-- The value of an array of bytes. -/
abbrev arr (zs : List Int) : Value := .agg (u8s zs).toArray
theorem ret_arr {fn : Func} {p : Tmp} {a : Act} {w : World} {R : Ending → World → Prop} (hr : fn.results = #[.cell p 63]) (hd : a.defers = [])
    (g : Nat) (zs : List Int) (hp : a.tmps.getD p undef = .pointer (some ⟨g, 0, none⟩)) (hl : zs.length = 16) (hb : w.heap[g]? = some (.cells (u8s zs).toArray 63 (0, 0))) (hR : R (.returned (arr zs)) w) : bodyPost Try.prog fn R .ret a w :=
  ⟨hd, _, results_cell_row hr _ w g 63 _ (0, 0) _ hp hb Try.underlying63 rfl (by rw [show (u8s zs).toArray.size = 16 from by simp [hl]]; kernel_rfl), hR⟩

theorem arr_one (zs : List Int) : ((u8s zs).toArray).all (·.oneCell') = true := by simp [Value.oneCell']
theorem arr_info (zs : List Int) (h : zs.length = 16) : (Try.prog.info? 63).map (·.size) = some (u8s zs).toArray.size := by
  rw [show (u8s zs).toArray.size = 16 from by simp [h]]
  kernel_rfl
theorem arr_sizes (xs ys : List Int) (h : xs.length = 16) (h' : ys.length = 16) : (u8s xs).toArray.size = (u8s ys).toArray.size := by simp [h, h']
abbrev z16 : Array Value := (u8s (List.replicate 16 0)).toArray
set_option maxHeartbeats 4000000 in
theorem sum_any (m : Mx) (w : World) : Calls Try.prog 85 #[mv m] w fun e w' => e = .returned (arr (sumL m)) ∧ Q w w' := by
  have HD := hid (show sumL m = by8 (mix m (tail4 m.c)).a ++ by8 (mix m (tail4 m.c)).b from rfl)
  have HT := hid (tail4_lt m.c)
  go_enter Try.func85, Try.ntmps85
  go_wp2_with fail
  generalize hw1 : World.alloc (World.alloc (World.alloc w _) _) _ = w1
  have q1 : Q w w1 := by rw [← hw1]; exact (((Q.refl w).alloc _).alloc _).alloc _
  have s1 : Seg w1 (some ⟨w.heap.size + 1 + 1, 0, none⟩) (tail4 m.c) := by
    rw [← hw1]
    have := seg_lit ((w.alloc (.cells (mcells m) 114)).alloc (.cells z16 63)) (tail4 m.c)
    rw [show ((w.alloc (.cells (mcells m) 114)).alloc (.cells z16 63)).heap.size = w.heap.size + 1 + 1 from by simp] at this
    exact this
  have b1 : MBox w1 w.heap.size m := by rw [← hw1]; exact (Below.block ((Q.refl ((w.alloc (.cells (mcells m) 114)).alloc (.cells z16 63))).alloc _) _ (by simp; omega)).trans (heap_alloc2_old w _ _)
  have z1 : w1.heap[w.heap.size + 1]? = some (.cells z16 63 (0, 0)) := by rw [← hw1]; exact (Below.block ((Q.refl ((w.alloc (.cells (mcells m) 114)).alloc (.cells z16 63))).alloc _) _ (by simp)).trans (heap_alloc2_new w _ _)
  clear hw1
  refine (with_any m (some ⟨w.heap.size + 1 + 1, 0, none⟩) 4 4 (tail4 m.c) w1 rfl (by omega) HT.out s1).mono ?_
  rintro e w2 ⟨rfl, q2⟩
  have B2 := hid (b1.q q2)
  have Z2 := hid (show w2.heap[w.heap.size + 1]? = some (.cells z16 63 (0, 0)) from (Below.block q2 _ (lt_of_block z1)).trans z1)
  have Q2 := hid (q1.trans q2)
  clear q1 q2 s1 b1 z1
  generalize hM : mix m (tail4 m.c) = M at *
  clear hM
  have c0 := B2.out.c0
  have c1 := B2.out.c1
  have c2 := B2.out.c2
  have f0 := B2.out.free 0
  have f1 := B2.out.free 1
  have f2 := B2.out.free 2
  go_wp2_with fail
  generalize hw3 : World.setCell (World.setCell (World.setCell w2 _ _) _ _) _ _ = w3
  have b3 : MBox w3 w.heap.size M := by rw [← hw3]; exact ((B2.out.a_ _).b_ _).c_ _
  have k3 : Keep (fun i => i = w.heap.size) w2 w3 := by rw [← hw3]; exact (((Keep.refl (fun i => i = w.heap.size) w2).setCell _ _ _ (.inl rfl)).setCell _ _ _ (.inl rfl)).setCell _ _ _ (.inl rfl)
  have hs3 : w2.heap.size = w3.heap.size := by rw [← hw3]; simp [World.setCell]
  clear hw3 c0 c1 c2 f0 f1 f2
  have Z3 := hid (show w3.heap[w.heap.size + 1]? = some (.cells z16 63 (0, 0)) from (k3.block _ (lt_of_block Z2.out) (by omega)).trans Z2.out)
  have Q3 := hid (show Q w w3 from k3.below Q2.out Q2.out.size (fun i e => by omega))
  have c0 := b3.c0
  have c1 := b3.c1
  have hlt := b3.lt
  rw [hs3]
  clear hs3 k3 b3 Z2 Q2 B2
  refine wp_loop_rounds 9 ?_
  iterate 8
    rw [rounds_succ]
    go_wp2
  rw [rounds_succ]
  go_wp2_with (refine wpList_store_row rfl 63 _ _ rfl (w.heap.size + 1) (u8s (by8 M.a ++ by8 M.b)).toArray rfl rfl 63 z16 ((Below.block ((Q.refl w3).alloc _) _ (lt_of_block Z3.out)).trans Z3.out) (arr_info _ rfl) (arr_sizes _ _ rfl rfl) (arr_one _) ?_; refine Hid.out ?_)
  refine hid ?_
  generalize hw4 : World.alloc w3 _ = w4
  have q4 : Q w3 w4 := by rw [← hw4]; exact (Q.refl w3).alloc _
  clear hw4
  have Z4 := hid (show w4.heap[w.heap.size + 1]? = some (.cells z16 63 (0, 0)) from (Below.block q4 _ (lt_of_block Z3.out)).trans Z3.out)
  go_wp2
  rw [HD.out]
  refine ret_arr rfl rfl (w.heap.size + 1) (by8 M.a ++ by8 M.b) rfl rfl (setRow_heap w4 _ _ _ 63 _ Z4.out) ⟨rfl, ?_⟩
  have k4 : Keep (fun i => i = w.heap.size + 1) w4 (w4.setRow (w.heap.size + 1) (u8s (by8 M.a ++ by8 M.b)).toArray) := (Keep.refl _ w4).setRow _ _ (.inl rfl)
  exact k4.below (Q3.out.trans q4) (Q3.out.trans q4).size (fun i e => by omega)

theorem seg_lit1 (w : World) (x : Int) : Seg (w.alloc (.cells #[.int .u8 x] 5)) (some ⟨w.heap.size, 0, none⟩) [x] := seg_lit w [x]
end Go.Proofs.Ytekpepnonhbkcaa
