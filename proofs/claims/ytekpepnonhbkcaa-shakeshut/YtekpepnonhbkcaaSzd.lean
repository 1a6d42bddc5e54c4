/-
  What prim.sized, number and Digest do: contracts that the statements' walks use.
-/
import Derived.Test.YtekpepnonhbkcaaSum
namespace Go.Proofs.Ytekpepnonhbkcaa
open Go.RowKit
set_option linter.unusedVariables false
set_option maxRecDepth 20000

/-- Bytes behind the number of them; a number in four bytes. -/
def tx (zs : List Int) : List Int := (zs.length : Int) % 256 :: zs
def wrd (n : Int) : List Int := [n / 16777216 % 256, n / 65536 % 256, n / 256 % 256, n % 256]
theorem wrd_lt (c : Int) : ∀ y ∈ wrd c, 0 ≤ y ∧ y < 256 := by
  intro y hy
  simp only [wrd, List.mem_cons, List.not_mem_nil, or_false] at hy
  omega
theorem one_lt (c : Int) : ∀ y ∈ [c % 256], 0 ≤ y ∧ y < 256 := by
  intro y hy
  simp only [List.mem_cons, List.not_mem_nil, or_false] at hy
  omega

set_option maxHeartbeats 4000000 in
theorem sized_any (m : Mx) (a : Option Addr) (n c : Nat) (zs : List Int) (w : World) (hl : zs.length = n) (hn : n ≤ 140737488355328) (hz : ∀ y ∈ zs, 0 ≤ y ∧ y < 256) (hseg : Seg w a zs) :
    Calls Try.prog 90 #[mv m, .slice a n c] w fun e w' => e = .returned (mv (mix m (tx zs))) ∧ Q w w' := by
  have HL := hid hl
  have HS := hid hseg
  have HZ := hid hz
  have HT := hid (show mix m (tx zs) = mix (mix m [(n : Int) % 256]) zs from by rw [mix_append]; unfold tx; rw [hl]; rfl)
  clear hl hseg hz
  go_enter Try.func90, Try.ntmps90
  go_wp2_with fail
  generalize hw1 : World.alloc (World.alloc (World.alloc w _) _) _ = w1
  have q1 : Q w w1 := by rw [← hw1]; exact (((Q.refl w).alloc _).alloc _).alloc _
  have s1 : Seg w1 (some ⟨w.heap.size + 1 + 1, 0, none⟩) [(n : Int) % 256] := by
    rw [← hw1]
    have := seg_lit1 ((w.alloc (.cells (mcells m) 114)).alloc (.cells (mcells ⟨0, 0, 0⟩) 114)) ((n : Int) % 256)
    rw [show ((w.alloc (.cells (mcells m) 114)).alloc (.cells (mcells ⟨0, 0, 0⟩) 114)).heap.size = w.heap.size + 1 + 1 from by simp] at this
    exact this
  have z1 : MBox w1 (w.heap.size + 1) ⟨0, 0, 0⟩ := by rw [← hw1]; exact (Below.block ((Q.refl ((w.alloc (.cells (mcells m) 114)).alloc (.cells (mcells ⟨0, 0, 0⟩) 114))).alloc _) _ (by simp)).trans (heap_alloc2_new w _ _)
  clear hw1
  refine (with_any m (some ⟨w.heap.size + 1 + 1, 0, none⟩) 1 1 [(n : Int) % 256] w1 rfl (by omega) (one_lt _) s1).mono ?_
  rintro e w2 ⟨rfl, q2⟩
  have Q2 := hid (q1.trans q2)
  have Z2 := hid (z1.q q2)
  clear q1 q2 s1 z1
  generalize mix m [(n : Int) % 256] = m2 at *
  go_wp2_with fail
  refine (with_any m2 a n c zs w2 HL.out hn HZ.out (HS.out.q Q2.out)).mono ?_
  rintro e w3 ⟨rfl, q3⟩
  have Q3 := hid (Q2.out.trans q3)
  have z3 := Z2.out.q q3
  have Z3 := hid z3
  have d0 := z3.c0
  have d1 := z3.c1
  have d2 := z3.c2
  have e0 := z3.free 0
  have e1 := z3.free 1
  have e2 := z3.free 2
  clear z3 q3 Q2 Z2
  generalize mix m2 zs = m3 at *
  go_wp2
  rw [HT.out]
  refine ret_mx rfl rfl (w.heap.size + 1) m3 rfl ?_ ⟨rfl, ?_⟩
  · exact ((Z3.out.a_ _).b_ _).c_ _
  · have k4 : Keep (fun i => i = w.heap.size + 1) w3 _ := (((Keep.refl (fun i => i = w.heap.size + 1) w3).setCell (w.heap.size + 1) 0 (.int .u64 m3.a) (.inl rfl)).setCell (w.heap.size + 1) 1 (.int .u64 m3.b) (.inl rfl)).setCell (w.heap.size + 1) 2 (.int .u32 m3.c) (.inl rfl)
    exact k4.below Q3.out Q3.out.size (fun i e => by omega)

set_option maxHeartbeats 4000000 in
theorem dg_len (zs : List Int) : (dg zs).length = 16 := rfl
theorem sumL_len (m : Mx) : (sumL m).length = 16 := rfl
set_option maxHeartbeats 4000000 in
theorem digest_any (a : Option Addr) (n c : Nat) (zs : List Int) (w : World) (hl : zs.length = n) (hn : n ≤ 140737488355328) (hz : ∀ y ∈ zs, 0 ≤ y ∧ y < 256) (hseg : Seg w a zs) :
    Calls Try.prog 80 #[.slice a n c] w fun e w' => e = .returned (arr (dg zs)) ∧ Q w w' := by
  have HL := hid hl
  have HS := hid hseg
  have HZ := hid hz
  have HD := hid (dg_len zs)
  clear hl hseg hz
  go_enter Try.func80, Try.ntmps80
  go_wp2_with fail
  generalize hw1 : World.alloc w _ = w1
  have q1 : Q w w1 := by rw [← hw1]; exact (Q.refl w).alloc _
  have z1 : w1.heap[w.heap.size]? = some (.cells z16 63 (0, 0)) := by rw [← hw1]; exact heap_alloc_new w _
  clear hw1
  refine (start_any w1).mono ?_
  rintro e w2 ⟨rfl, q2⟩
  have Q2 := hid (q1.trans q2)
  have Z2 := hid (show w2.heap[w.heap.size]? = some (.cells z16 63 (0, 0)) from (Below.block q2 _ (lt_of_block z1)).trans z1)
  clear q1 q2 z1
  generalize hm0 : st0 = m0 at *
  have HM0 := hid hm0
  clear hm0
  go_wp2_with fail
  refine (with_any m0 a n c zs w2 HL.out hn HZ.out (HS.out.q Q2.out)).mono ?_
  rintro e w3 ⟨rfl, q3⟩
  have Q3 := hid (Q2.out.trans q3)
  have Z3 := hid (show w3.heap[w.heap.size]? = some (.cells z16 63 (0, 0)) from (Below.block q3 _ (lt_of_block Z2.out)).trans Z2.out)
  have HD2 := hid (show dg zs = sumL (mix m0 zs) from by rw [← HM0.out]; rfl)
  clear q3 Q2 Z2
  generalize mix m0 zs = m3 at *
  go_wp2_with fail
  refine (sum_any m3 w3).mono ?_
  rintro e w4 ⟨rfl, q4⟩
  have Q4 := hid (Q3.out.trans q4)
  have Z4 := hid (show w4.heap[w.heap.size]? = some (.cells z16 63 (0, 0)) from (Below.block q4 _ (lt_of_block Z3.out)).trans Z3.out)
  rw [← HD2.out]
  clear q4 Q3 Z3
  generalize hds : dg zs = ds at *
  have HS2 := hid hds
  clear hds
  go_wp2_with (refine wpList_store_row rfl 63 _ _ rfl w.heap.size (u8s ds).toArray rfl rfl 63 z16 Z4.out (arr_info _ HD.out) (arr_sizes _ _ rfl HD.out) (arr_one _) ?_; refine Hid.out ?_)
  refine hid ?_
  go_wp2
  refine ret_arr rfl rfl w.heap.size ds rfl HD.out (setRow_heap w4 _ _ _ 63 _ Z4.out) ⟨by rw [HS2.out], ?_⟩
  have k4 : Keep (fun i => i = w.heap.size) w4 (w4.setRow w.heap.size (u8s ds).toArray) := (Keep.refl _ w4).setRow _ _ (.inl rfl)
  exact k4.below Q4.out Q4.out.size (fun i e => by omega)
end Go.Proofs.Ytekpepnonhbkcaa
