/-
  What comparing two arrays of 16 bytes tells. A law that the statements' walks use.
-/
import Derived.Test.YtnnjogfpapndaaaSum
import Derived.ChangeKeysEq
import Derived.Laws.StructEq
namespace Go.Proofs.Ytnnjogfpapndaaa
open Go.RowKit
set_option linter.unusedVariables false
set_option maxRecDepth 20000

theorem plain5 : Try.prog.plainKey 5 = true := by kernel_rfl
theorem cells5' : Try.prog.cellsOf 5 = 1 := by kernel_rfl
theorem eq_items (xs ys : List Int) (w : World) : ∀ is : List Nat, (∀ i ∈ is, i < xs.length ∧ i < ys.length) →
    (Op.eqItems 9999 5 1 (u8s xs).toArray (u8s ys).toArray is).run Try.prog w = .ok (is.all fun i => xs.getD i 0 == ys.getD i 0) w
  | [], _ => by simp [Op.eqItems]
  | i :: is, h => by
    obtain ⟨h1, h2⟩ := h i (by simp)
    have p1 : (part 5 (u8s xs).toArray (i * 1)).run Try.prog w = .ok (.int .u8 (xs.getD i 0)) w := run_part_plain w plain5 (by simp [List.getD_eq_getElem?_getD, h1])
    have p2 : (part 5 (u8s ys).toArray (i * 1)).run Try.prog w = .ok (.int .u8 (ys.getD i 0)) w := run_part_plain w plain5 (by simp [List.getD_eq_getElem?_getD, h2])
    have ih := eq_items xs ys w is (fun j hj => h j (by simp [hj]))
    have p3 := run_equalIn_int (P := Try.prog) w 9998 5 .u8 .u8 (xs.getD i 0) (ys.getD i 0) Try.underlying5
    simp only [Op.eqItems, Sem.run_bind, p1, p2, p3, Result.andThen_ok, List.all_cons]
    by_cases e : xs.getD i 0 = ys.getD i 0
    · rw [e]; simpa using ih
    · have : (xs.getD i 0 == ys.getD i 0) = false := by simpa using e
      rw [this]; simp
theorem arr_eq (xs ys : List Int) (h1 : xs.length = 16) (h2 : ys.length = 16) (w : World) : (Op.equalIn 10000 90 (arr xs) (arr ys)).run Try.prog w = .ok (decide (xs = ys)) w := by
  obtain ⟨i0, hi, hz0, hz1, hz2⟩ := info_parts info5
  have h := run_equalIn_array (P := Try.prog) w 9999 (u8s xs).toArray (u8s ys).toArray Try.underlying90 hi
  rw [cells5', eq_items xs ys w (List.range 16) (fun i hi => by have := List.mem_range.1 hi; omega)] at h
  rw [h]
  congr 1
  rw [Bool.eq_iff_iff]
  simp only [List.all_eq_true, List.mem_range, beq_iff_eq, decide_eq_true_eq]
  constructor
  · intro h
    apply List.ext_getElem (by omega)
    intro i h3 h4
    have := h i (by omega)
    simpa [List.getD_eq_getElem?_getD, h3, h4] using this
  · rintro rfl i _
    rfl
end Go.Proofs.Ytnnjogfpapndaaa
