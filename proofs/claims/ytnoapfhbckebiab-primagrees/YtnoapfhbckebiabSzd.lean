/-
  What prim.sized, number and Digest do: contracts that the statements' walks use.
-/
import Derived.Test.YtnoapfhbckebiabSum
namespace Go.Proofs.Ytnoapfhbckebiab
open Go.RowKit
set_option linter.unusedVariables false
set_option maxRecDepth 20000

/-- Bytes behind the number of them; a number in four bytes. -/
def tx (zs : List Int) : List Int := (zs.length : Int) % 256 :: zs
def wrd (n : Int) : List Int := [n / 16777216 % 256, n / 65536 % 256, n / 256 % 256, n % 256]
theorem wrd_lt (c : Int) : ∀ y ∈ wrd c, 0 ≤ y ∧ y < 256 := by
  intro y hy
  simp only [wrd, List.mem_cons, List.not_mem_nil, or_false] at hy
  omega
theorem one_lt (c : Int) : ∀ y ∈ [c % 256], 0 ≤ y ∧ y < 256 := by
  intro y hy
  simp only [List.mem_cons, List.not_mem_nil, or_false] at hy
  omega

set_option maxHeartbeats 4000000 in
theorem sized_any (m : Mx) (a : Option Addr) (n c : Nat) (zs : List Int) (w : World) (hl : zs.length = n) (hn : n ≤ 140737488355328) (hz : ∀ y ∈ zs, 0 ≤ y ∧ y < 256) (hseg : Seg w a zs) :
    Calls Try.prog 18 #[mv m, .slice a n c] w fun e w' => e = .returned (mv (mix m (tx zs))) ∧ Q w w' := by
  have HL := hid hl
  have HS := hid hseg
  have HZ := hid hz
  have HT := hid (show mix m (tx zs) = mix (mix m [(n : Int) % 256]) zs from by rw [mix_append]; unfold tx; rw [hl]; rfl)
  clear hl hseg hz
  go_enter Try.func18, Try.ntmps18
  go_wp2_with fail
  generalize hw1 : World.alloc (World.alloc (World.alloc w _) _) _ = w1
  have q1 : Q w w1 := by rw [← hw1]; exact (((Q.refl w).alloc _).alloc _).alloc _
  have s1 : Seg w1 (some ⟨w.heap.size + 1 + 1, 0, none⟩) [(n : Int) % 256] := by
    rw [← hw1]
    have := seg_lit1 ((w.alloc (.cells (mcells m) 42)).alloc (.cells (mcells ⟨0, 0, 0⟩) 42)) ((n : Int) % 256)
    rw [show ((w.alloc (.cells (mcells m) 42)).alloc (.cells (mcells ⟨0, 0, 0⟩) 42)).heap.size = w.heap.size + 1 + 1 from by simp] at this
    exact this
  have z1 : MBox w1 (w.heap.size + 1) ⟨0, 0, 0⟩ := by rw [← hw1]; exact (Below.block ((Q.refl ((w.alloc (.cells (mcells m) 42)).alloc (.cells (mcells ⟨0, 0, 0⟩) 42))).alloc _) _ (by simp)).trans (heap_alloc2_new w _ _)
  clear hw1
  refine (with_any m (some ⟨w.heap.size + 1 + 1, 0, none⟩) 1 1 [(n : Int) % 256] w1 rfl (by omega) (one_lt _) s1).mono ?_
  rintro e w2 ⟨rfl, q2⟩
  have Q2 := hid (q1.trans q2)
  have Z2 := hid (z1.q q2)
  clear q1 q2 s1 z1
  generalize mix m [(n : Int) % 256] = m2 at *
  go_wp2_with fail
  refine (with_any m2 a n c zs w2 HL.out hn HZ.out (HS.out.q Q2.out)).mono ?_
  rintro e w3 ⟨rfl, q3⟩
  have Q3 := hid (Q2.out.trans q3)
  have z3 := Z2.out.q q3
  have Z3 := hid z3
  have d0 := z3.c0
  have d1 := z3.c1
  have d2 := z3.c2
  have e0 := z3.free 0
  have e1 := z3.free 1
  have e2 := z3.free 2
  clear z3 q3 Q2 Z2
  generalize mix m2 zs = m3 at *
  go_wp2
  rw [HT.out]
  refine ret_mx rfl rfl (w.heap.size + 1) m3 rfl ?_ ⟨rfl, ?_⟩
  · exact ((Z3.out.a_ _).b_ _).c_ _
  · have k4 : Keep (fun i => i = w.heap.size + 1) w3 _ := (((Keep.refl (fun i => i = w.heap.size + 1) w3).setCell (w.heap.size + 1) 0 (.int .u64 m3.a) (.inl rfl)).setCell (w.heap.size + 1) 1 (.int .u64 m3.b) (.inl rfl)).setCell (w.heap.size + 1) 2 (.int .u32 m3.c) (.inl rfl)
    exact k4.below Q3.out Q3.out.size (fun i e => by omega)

set_option maxHeartbeats 4000000 in
theorem number_any (m : Mx) (n : Int) (w : World) :
    Calls Try.prog 19 #[mv m, .int .i64 n] w fun e w' => e = .returned (mv (mix m (wrd n))) ∧ Q w w' := by
  go_enter Try.func19, Try.ntmps19
  go_wp2_with fail
  generalize hw1 : World.alloc (World.alloc (World.alloc w _) _) _ = w1
  have q1 : Q w w1 := by rw [← hw1]; exact (((Q.refl w).alloc _).alloc _).alloc _
  have s1 : Seg w1 (some ⟨w.heap.size + 1 + 1, 0, none⟩) (wrd n) := by
    rw [← hw1]
    have := seg_lit ((w.alloc (.cells (mcells m) 42)).alloc (.cells (mcells ⟨0, 0, 0⟩) 42)) (wrd n)
    rw [show ((w.alloc (.cells (mcells m) 42)).alloc (.cells (mcells ⟨0, 0, 0⟩) 42)).heap.size = w.heap.size + 1 + 1 from by simp] at this
    exact this
  have z1 : MBox w1 (w.heap.size + 1) ⟨0, 0, 0⟩ := by rw [← hw1]; exact (Below.block ((Q.refl ((w.alloc (.cells (mcells m) 42)).alloc (.cells (mcells ⟨0, 0, 0⟩) 42))).alloc _) _ (by simp)).trans (heap_alloc2_new w _ _)
  clear hw1
  refine (with_any m (some ⟨w.heap.size + 1 + 1, 0, none⟩) 4 4 (wrd n) w1 rfl (by omega) (wrd_lt _) s1).mono ?_
  rintro e w3 ⟨rfl, q3⟩
  have Q3 := hid (q1.trans q3)
  have z3 := z1.q q3
  have Z3 := hid z3
  have d0 := z3.c0
  have d1 := z3.c1
  have d2 := z3.c2
  have e0 := z3.free 0
  have e1 := z3.free 1
  have e2 := z3.free 2
  clear q1 q3 s1 z1 z3
  generalize hm3 : mix m (wrd n) = m3 at *
  have HM := hid hm3
  clear hm3
  go_wp2
  refine ret_mx rfl rfl (w.heap.size + 1) m3 rfl ?_ ⟨by rw [HM.out], ?_⟩
  · exact ((Z3.out.a_ _).b_ _).c_ _
  · have k4 : Keep (fun i => i = w.heap.size + 1) w3 _ := (((Keep.refl (fun i => i = w.heap.size + 1) w3).setCell (w.heap.size + 1) 0 (.int .u64 m3.a) (.inl rfl)).setCell (w.heap.size + 1) 1 (.int .u64 m3.b) (.inl rfl)).setCell (w.heap.size + 1) 2 (.int .u32 m3.c) (.inl rfl)
    exact k4.below Q3.out Q3.out.size (fun i e => by omega)

theorem dg_len (zs : List Int) : (dg zs).length = 16 := rfl
theorem sumL_len (m : Mx) : (sumL m).length = 16 := rfl
end Go.Proofs.Ytnoapfhbckebiab
