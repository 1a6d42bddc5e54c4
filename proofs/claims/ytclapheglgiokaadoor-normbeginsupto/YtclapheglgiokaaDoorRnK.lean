/-
  isValue, HasPrefix, isPseudo, isHop, refuseIf: contracts that the statements' walks use.
-/
import Derived.Test.YtclapheglgiokaaDoorRnJ
namespace Go.Proofs.YtclapheglgiokaaDoor
open Go.RowKit
set_option linter.unusedVariables false
set_option maxRecDepth 20000

theorem neq_size {t s : ByteArray} (h : t.size < s.size) : (t.toList == s.toList) = false := by
  rw [beq_eqS]
  cases he : eqS t s with
  | false => rfl
  | true => have := (eqS_iff t s).1 he; subst this; omega
theorem fst_byte (s : ByteArray) (h : 1 ≤ s.size) (c : UInt8) : eqS (s.extract 0 1) ⟨#[c]⟩ = (match s.data.toList with | [] => false | b :: _ => decide (b.toNat = c.toNat)) := by
  unfold eqS
  rw [ByteArray.data_extract]
  simp only [Array.toList_extract, List.extract_eq_take_drop]
  cases hl : s.data.toList with
  | nil => have : s.data.toList.length = 0 := by rw [hl]; rfl
           have : s.size = 0 := by simpa using this
           omega
  | cons b r =>
    rw [Bool.eq_iff_iff]
    simp
    exact UInt8.toNat_inj.symm
end Go.Proofs.YtclapheglgiokaaDoor
