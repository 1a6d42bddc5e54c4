/-
  A table in memory; what route's New and Next do: contracts that the statement's walk uses.
-/
import Derived.Test.YtnnjogfpapndaaaAkM
import Derived.Test.YtnnjogfpapndaaaRMf
import Derived.Carry
import Derived.MapKept
import Derived.Deep.Cut
import Derived.Deep.CutRange
namespace Go.Proofs.Ytnnjogfpapndaaa
open Go.RowKit
set_option linter.unusedVariables false
set_option maxRecDepth 20000

theorem look_empty (w : World) (mb clock : Nat) (s : ByteArray) (hb : w.heap[mb]? = some (.map #[] clock)) : (Instr.lookup 74 (.map (some mb)) (.string s) true).run Try.prog w = .ok (.tuple #[.int .i64 0, .bool false]) w := by
  have hc : (Instr.checkKey true 10000 9 (.string s)).run Try.prog w = .ok () w := MapKept.run_checkKey (k := .string s) Try.underlying9 (by simp [MapKept.IsKey]) true 9999
  have hk : (Instr.findKey 9 (.string s) []).run Try.prog w = .ok none w := by kernel_rfl
  have hz : (zeroValue 3).run Try.prog w = .ok (.int .i64 0) w := by kernel_rfl
  simp [Instr.lookup, run_underlying Try.underlying74, MapKept.run_getObj_map hb, hc, hk, hz, Result.andThen]
/-- The words of a table. -/
abbrev tcells (k : Sv) (ser : Int) (mi mc : Nat) : Array Value := #[.slice k.a k.n k.c, .int .i64 9, .int .i64 3, .bool true, .int .i64 ser, .map (some mi), .map (some mc)]
/-- A table in memory: its block, its map (empty), its secret. -/
structure Tb (w : World) (tb mi mc : Nat) (k : Sv) (ser : Int) : Prop where
  b : w.heap[tb]? = some (.cells (tcells k ser mi mc) 77 (0, 0))
  m : w.heap[mi]? = some (.map #[] 0)
  i : In w k secL
  n : k.n = 16
  d : mi ≠ tb
  kd : ∀ x, blk k.a = some x → x ≠ tb
section
variable {w w' : World} {tb mi mc : Nat} {k : Sv} {ser : Int}
theorem Tb.lt (h : Tb w tb mi mc k ser) : tb < w.heap.size := lt_of_block h.b
theorem Tb.q (h : Tb w tb mi mc k ser) (q : Q w w') : Tb w' tb mi mc k ser :=
  ⟨(Below.block q _ (lt_of_block h.b)).trans h.b, (Below.block q _ (lt_of_block h.m)).trans h.m, h.i.q q, h.n, h.d, h.kd⟩
theorem Tb.keep {F : Nat → Prop} (h : Tb w tb mi mc k ser) (q : Keep F w w') (hF : ∀ i, i < w.heap.size → ¬ F i) : Tb w' tb mi mc k ser := h.q (q.toQ hF)
theorem Tb.c0 (h : Tb w tb mi mc k ser) : w.cell? ⟨tb, 0, none⟩ = some (.slice k.a k.n k.c) := by rw [cell_of_row w tb 0 _ 77 (0, 0) h.b]; rfl
theorem Tb.c1 (h : Tb w tb mi mc k ser) : w.cell? ⟨tb, 1, none⟩ = some (.int .i64 9) := by rw [cell_of_row w tb 1 _ 77 (0, 0) h.b]; rfl
theorem Tb.c3 (h : Tb w tb mi mc k ser) : w.cell? ⟨tb, 3, none⟩ = some (.bool true) := by rw [cell_of_row w tb 3 _ 77 (0, 0) h.b]; rfl
theorem Tb.c4 (h : Tb w tb mi mc k ser) : w.cell? ⟨tb, 4, none⟩ = some (.int .i64 ser) := by rw [cell_of_row w tb 4 _ 77 (0, 0) h.b]; rfl
theorem Tb.c5 (h : Tb w tb mi mc k ser) : w.cell? ⟨tb, 5, none⟩ = some (.map (some mi)) := by rw [cell_of_row w tb 5 _ 77 (0, 0) h.b]; rfl
theorem Tb.free (h : Tb w tb mi mc k ser) (j : Nat) : w.frozen? ⟨tb, j, none⟩ = false := frozen_of_row w tb j _ 77 h.b
theorem Tb.set (h : Tb w tb mi mc k ser) (s : Int) : Tb (w.setCell ⟨tb, 4, none⟩ (.int .i64 s)) tb mi mc k s := by
  have kp : Keep (fun i => i = tb) w (w.setCell ⟨tb, 4, none⟩ (.int .i64 s)) := (Keep.refl (fun i => i = tb) w).setCell tb _ _ (.inl rfl)
  refine ⟨?_, (kp.block mi (lt_of_block h.m) h.d).trans h.m, ⟨h.i.s.keep kp h.kd, h.i.l, h.i.z⟩, h.n, h.d, h.kd⟩
  have := heap_setCell_same w tb 4 _ 77 (.int .i64 s) h.b
  simpa using this
end
theorem row_copy_in {w : World} {x : Sv} {zs : List Int} (h : Row w x zs) (hz : By zs) : In w x zs := row_in h hz
set_option maxHeartbeats 8000000 in
/-- A new table of the statement's config. -/
theorem new_any (g : Nat) (w : World) (hk : In w ⟨some ⟨g, 0, none⟩, 16, 16⟩ secL) :
    Calls Try.prog 21 #[.agg #[.slice (some ⟨g, 0, none⟩) 16 16, .int .i64 9, .int .i64 3, .bool true]] w fun e w' => ∃ tb mi mc k, e = .returned (.tuple #[.pointer (some ⟨tb, 0, none⟩), .int .i64 0]) ∧ Q w w' ∧ Tb w' tb mi mc k 0 ∧ w.heap.size ≤ tb := by
  have HK := hid hk
  clear hk
  have hw9 : wiB 9 255 = true := by decide
  have mm := @run_makeMap Try.prog
  go_enter Try.func21, Try.ntmps21
  go_wp2_with (go_at_call 25; refine (within_any _ _ _).mono ?_; rintro e w' ⟨rfl, rfl⟩)
  generalize hv1 : World.alloc w _ = v1
  have Q1 := hid (show Q w v1 from by rw [← hv1]; exact (Q.refl w).alloc _)
  have b1 : v1.heap[w.heap.size]? = some (.cells #[.slice (some ⟨g, 0, none⟩) 16 16, .int .i64 9, .int .i64 3, .bool true] 52 (0, 0)) := by rw [← hv1]; exact heap_alloc_new w _
  clear hv1
  have HB := hid (Nat.le_refl w.heap.size)
  generalize hbx : w.heap.size = bx at b1 ⊢
  have HBX := hid hbx
  clear hbx
  refine (clone_any ⟨some ⟨g, 0, none⟩, 16, 16⟩ secL v1 (HK.out.q Q1.out) (by show 16 ≤ _; omega)).mono ?_
  rintro e v2 ⟨⟨ya, yn, yc⟩, rfl, q, r, n⟩
  have hyn : yn = 16 := (Row.len r).symm
  subst hyn
  have b2 := (Below.block q _ (lt_of_block b1)).trans b1
  have hbl := lt_of_block b1
  have Q2 := hid (Q1.out.trans q)
  have R2 := hid r
  have N2 := hid n
  have c0 : v2.cell? ⟨bx, 0, none⟩ = some (.slice (some ⟨g, 0, none⟩) 16 16) := by rw [cell_of_row v2 bx 0 _ 52 (0, 0) b2]; rfl
  have f0 := frozen_of_row v2 bx 0 _ 52 b2
  have B3 := hid (show (v2.setCell ⟨bx, 0, none⟩ (.slice ya 16 yc)).heap[bx]? = some (.cells #[.slice ya 16 yc, .int .i64 9, .int .i64 3, .bool true] 52 (0, 0)) from by
    have := heap_setCell_same v2 bx 0 _ 52 (.slice ya 16 yc) b2
    simpa using this)
  have HBL := hid hbl
  clear q r n b1 hbl
  go_upto_region 8 with fail
  generalize hv3 : World.setCell v2 _ _ = v3
  have k3 : Keep (fun i => i = bx) v2 v3 := by rw [← hv3]; exact (Keep.refl (fun i => i = bx) v2).setCell bx _ _ (.inl rfl)
  have Q3 := hid (show Q w v3 from k3.below Q2.out Q2.out.size (fun i e => by have := HBX.out; omega))
  have R3 := hid (show Row v3 ⟨ya, 16, yc⟩ secL from Sub.keep R2.out k3 (fun i e e2 => by have := N2.out i e; have := HBL.out; omega))
  have b3 : v3.heap[bx]? = some (.cells #[.slice ya 16 yc, .int .i64 9, .int .i64 3, .bool true] 52 (0, 0)) := by rw [← hv3]; exact B3.out
  clear hv3 k3 B3 c0 f0
  have d0 : v3.cell? ⟨bx, 0, none⟩ = some (.slice ya 16 yc) := by rw [cell_of_row v3 bx 0 _ 52 (0, 0) b3]; rfl
  have d1 : v3.cell? ⟨bx, 1, none⟩ = some (.int .i64 9) := by rw [cell_of_row v3 bx 1 _ 52 (0, 0) b3]; rfl
  have d2 : v3.cell? ⟨bx, 2, none⟩ = some (.int .i64 3) := by rw [cell_of_row v3 bx 2 _ 52 (0, 0) b3]; rfl
  have d3 : v3.cell? ⟨bx, 3, none⟩ = some (.bool true) := by rw [cell_of_row v3 bx 3 _ 52 (0, 0) b3]; rfl
  have s1 := mm 74 v3
  have s2 := mm 75 (v3.alloc (.map #[] 0))
  clear b3 b2
  go_wp2
  go_ret2
  have qa : Q v3 (v3.alloc (.map #[] 0)) := (Q.refl _).alloc _
  have qb : Q (v3.alloc (.map #[] 0)) ((v3.alloc (.map #[] 0)).alloc (.map #[] 0)) := (Q.refl _).alloc _
  have qc : Q ((v3.alloc (.map #[] 0)).alloc (.map #[] 0)) (((v3.alloc (.map #[] 0)).alloc (.map #[] 0)).alloc (.cells (tcells ⟨ya, 16, yc⟩ 0 v3.heap.size (v3.heap.size + 1)) 77)) := (Q.refl _).alloc _
  have hs : ((v3.alloc (.map #[] 0)).alloc (.map #[] 0)).heap.size = v3.heap.size + 1 + 1 := by simp
  refine ⟨v3.heap.size + 1 + 1, v3.heap.size, v3.heap.size + 1, ⟨ya, 16, yc⟩, rfl, Q3.out.trans (qa.trans (qb.trans qc)), ⟨?_, ?_, ?_, rfl, by omega, ?_⟩, by have := Q3.out.size; omega⟩
  · have h := heap_alloc_new ((v3.alloc (.map #[] 0)).alloc (.map #[] 0)) (.cells (tcells ⟨ya, 16, yc⟩ 0 v3.heap.size (v3.heap.size + 1)) 77)
    rw [hs] at h
    exact h
  · have h := heap_alloc_new v3 (.map #[] 0)
    rw [Below.block (qb.trans qc) _ (lt_of_block h)]
    exact h
  · exact row_in (R3.out.q (qa.trans (qb.trans qc))) secL_by
  · intro x hx e
    have := Sub.lt R3.out x hx
    omega
end Go.Proofs.Ytnnjogfpapndaaa
