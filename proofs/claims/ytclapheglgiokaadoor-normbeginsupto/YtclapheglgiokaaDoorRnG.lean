/-
  Which texts are tokens, names, authorities, digits, paths: contracts that the statements' walks use.
-/
import Derived.Test.YtclapheglgiokaaDoorRnF
namespace Go.Proofs.YtclapheglgiokaaDoor
open Go.RowKit
set_option linter.unusedVariables false
set_option maxRecDepth 20000

theorem beq_eqS (a b : ByteArray) : (a.toList == b.toList) = eqS a b := by
  rw [ByteArray.toList_eq, ByteArray.toList_eq]; rfl
theorem emp_neS (a : ByteArray) : a.toList.isEmpty = !neS a := by
  rw [ByteArray.toList_eq]
  unfold neS
  simp
theorem emp_eqS (a : ByteArray) : (a.toList == (⟨#[]⟩ : ByteArray).toList) = !neS a := by
  rw [beq_eqS]
  unfold neS eqS
  cases a.data.toList <;> simp
def mTok : ByteArray := ⟨#[33, 35, 36, 37, 38, 39, 42, 43, 45, 46, 94, 95, 124, 126, 96]⟩
def mAut : ByteArray := ⟨#[45, 46, 95, 126, 58, 91, 93, 37]⟩
theorem asc_of (l : List UInt8) (h4 : 4 ≤ l.length) (h100 : l.length ≤ 100) (h : l.all (fun b => decide (b.toNat < 128)) = true) : Asc ⟨l.toArray⟩ := by
  refine ⟨h4, h100, fun j hj => ?_⟩
  have hj' : j < l.length := hj
  have := List.all_eq_true.1 h l[j] (List.getElem_mem hj')
  show (l.toArray[j]).toNat < 128
  simpa using this
theorem asc_tok : Asc mTok := asc_of _ (by decide) (by decide) (by decide)
theorem asc_aut : Asc mAut := asc_of _ (by decide) (by decide) (by decide)
theorem or_tok (r : Nat) : orB mTok r = tokB r := by
  have h : hasR mTok r = tokM.contains r := by
    unfold hasR
    rw [Bool.eq_iff_iff]
    simp [mTok, tokM]
    omega
  unfold orB tokB alB
  rw [h]
theorem or_aut (r : Nat) : orB mAut r = autB r := by
  have h : hasR mAut r = autM.contains r := by
    unfold hasR
    rw [Bool.eq_iff_iff]
    simp [mAut, autM]
    omega
  unfold orB autB alB
  rw [h]
end Go.Proofs.YtclapheglgiokaaDoor
