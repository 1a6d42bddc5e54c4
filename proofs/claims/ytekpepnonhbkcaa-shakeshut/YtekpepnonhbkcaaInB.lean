/-
  Bytes that a slice brings, in memory. Nothing is proved of a statement here.
-/
import Derived.Test.YtekpepnonhbkcaaSlM
namespace Go.Proofs.Ytekpepnonhbkcaa
open Go.RowKit
set_option linter.unusedVariables false
set_option maxRecDepth 20000

theorem cell_lit (w : World) (vs : Array Value) (t j : Nat) : (w.alloc (.cells vs t)).cell? ⟨w.heap.size, j, none⟩ = vs[j]? := by
  rw [cell_of_row _ w.heap.size j vs t (0, 0) (heap_alloc_new w _)]
theorem seg_arr {w : World} {g : Nat} {zs : List Int} {t : Nat} (h : w.heap[g]? = some (.cells (u8s zs).toArray t (0, 0))) : Seg w (some ⟨g, 0, none⟩) zs := by
  intro _
  refine ⟨g, 0, rfl, fun i hi => ?_⟩
  rw [cell_of_row w g (0 + i) _ t (0, 0) h, Nat.zero_add]
  simp [List.getD_eq_getElem?_getD, hi]
/-- The bytes that a slice brings. -/
structure In (w : World) (x : Sv) (zs : List Int) : Prop where
  s : Seg w x.a zs
  l : zs.length = x.n
  z : ∀ y ∈ zs, 0 ≤ y ∧ y < 256
theorem In.q {w w' : World} {x : Sv} {zs : List Int} (h : In w x zs) (k : Q w w') : In w' x zs := ⟨h.s.q k, h.l, h.z⟩
theorem one_byte (c : Int) (h0 : 0 ≤ c) (h1 : c < 256) : ∀ y ∈ [c], 0 ≤ y ∧ y < 256 := by
  intro y hy
  simp only [List.mem_cons, List.not_mem_nil, or_false] at hy
  omega
/-- with, of one byte that the call lays. -/
theorem with_one (m : Mx) (x : Int) (w : World) (h0 : 0 ≤ x) (h1 : x < 256) :
    Calls Try.prog 84 #[mv m, .slice (some ⟨w.heap.size, 0, none⟩) 1 1] (w.alloc (.cells #[.int .u8 x] 5)) fun e w' => e = .returned (mv (mix m [x])) ∧ Q w w' := by
  refine (with_any m (some ⟨w.heap.size, 0, none⟩) 1 1 [x] _ rfl (by omega) (one_byte x h0 h1) (seg_lit1 w x)).mono ?_
  rintro e w1 ⟨rfl, q⟩
  exact ⟨rfl, ((Q.refl w).alloc _).trans q⟩

end Go.Proofs.Ytekpepnonhbkcaa
