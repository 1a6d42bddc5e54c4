/-
  The coded form of a text are bytes. Nothing is proved of a statement here.
-/
import Derived.Test.YtchkiohmjgmmbaaEncM
namespace Go.Proofs.Ytchkiohmjgmmbaa
set_option linter.unusedVariables false
theorem bytes_hE (zs : List Int) : ∀ y ∈ hE zs, 0 ≤ y ∧ y < 256 := by
  intro y hy
  unfold hE pk at hy
  obtain ⟨j, _, rfl⟩ := List.mem_map.1 hy
  have hb : Bits (((hB zs ++ List.replicate 7 1).drop (8 * j)).take 8) := (((hB_bits zs).app (ones_bits 7)).drop _).take _
  have h := v2_bound _ hb
  have hl : (((hB zs ++ List.replicate 7 1).drop (8 * j)).take 8).length ≤ 8 := List.length_take_le _ _
  have hp := Nat.pow_le_pow_right (n := 2) (by decide) hl
  have e := pow_cast (((hB zs ++ List.replicate 7 1).drop (8 * j)).take 8).length
  refine ⟨h.1, Int.lt_of_lt_of_le h.2 ?_⟩
  rw [← e]
  exact Int.ofNat_le.2 hp
end Go.Proofs.Ytchkiohmjgmmbaa
