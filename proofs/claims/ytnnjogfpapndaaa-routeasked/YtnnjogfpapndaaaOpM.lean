/-
  Opening undoes sealing, and other bytes in the tag's place are refused: plain mathematics. Nothing is proved of a statement here.
-/
import Derived.Test.YtnnjogfpapndaaaOpn
namespace Go.Proofs.Ytnnjogfpapndaaa
open Go.RowKit

theorem sealL_len (ks ns az ds : List Int) : (sealL ks ns az ds).length = ds.length + 16 := by
  unfold sealL; rw [List.length_append, ovl_len, tagL_len]
theorem open_app (ks ns az ds ts : List Int) (ht : ts.length = 16) (hc : chkE ks.length ns.length az.length ds.length = 0) :
    opnE ks ns az (ovl ks ns ds ++ ts) = if tagL ks ns az (ovl ks ns ds) = ts then 0 else 71 := by
  have hl : (ovl ks ns ds ++ ts).length = ds.length + 16 := by rw [List.length_append, ovl_len, ht]
  unfold opnE
  rw [hl, show ((ds.length + 16 : Nat) : Int) - 16 = (ds.length : Int) by omega, hc, if_neg (by simp), if_neg (by omega), show ds.length + 16 - 16 = ds.length by omega]
  rw [List.take_append_of_le_length (by rw [ovl_len]; exact Nat.le_refl _), List.take_of_length_le (by rw [ovl_len]; exact Nat.le_refl _)]
  rw [List.drop_append_of_le_length (by rw [ovl_len]; exact Nat.le_refl _), List.drop_eq_nil_of_le (by rw [ovl_len]; exact Nat.le_refl _), List.nil_append]
theorem open_seal (ks ns az ds : List Int) (hz : ∀ y ∈ ds, 0 ≤ y ∧ y < 256) (hc : chkE ks.length ns.length az.length ds.length = 0) :
    opnE ks ns az (sealL ks ns az ds) = 0 ∧ opnR ks ns az (sealL ks ns az ds) = ds := by
  have h1 : opnE ks ns az (sealL ks ns az ds) = 0 := by
    have := open_app ks ns az ds (tagL ks ns az (ovl ks ns ds)) (tagL_len _ _ _ _) hc
    rw [if_pos rfl] at this
    exact this
  refine ⟨h1, ?_⟩
  unfold opnR
  rw [h1, if_pos rfl, sealL_len, show ds.length + 16 - 16 = ds.length by omega]
  unfold sealL
  rw [List.take_append_of_le_length (by rw [ovl_len]; exact Nat.le_refl _), List.take_of_length_le (by rw [ovl_len]; exact Nat.le_refl _), ovl_ovl hz]
theorem open_bad (ks ns az ds ts : List Int) (ht : ts.length = 16) (hc : chkE ks.length ns.length az.length ds.length = 0) (hne : ts ≠ tagL ks ns az (ovl ks ns ds)) :
    opnE ks ns az (ovl ks ns ds ++ ts) = 71 ∧ opnR ks ns az (ovl ks ns ds ++ ts) = [] := by
  have h1 : opnE ks ns az (ovl ks ns ds ++ ts) = 71 := by
    rw [open_app ks ns az ds ts ht hc, if_neg (fun e => hne e.symm)]
  refine ⟨h1, ?_⟩
  unfold opnR
  rw [h1, if_neg (by decide)]
theorem seal_take (ks ns az ds : List Int) : (sealL ks ns az ds).take ds.length = ovl ks ns ds := by
  unfold sealL
  rw [List.take_append_of_le_length (by rw [ovl_len]; exact Nat.le_refl _), List.take_of_length_le (by rw [ovl_len]; exact Nat.le_refl _)]
theorem seal_drop (ks ns az ds : List Int) : (sealL ks ns az ds).drop ds.length = tagL ks ns az (ovl ks ns ds) := by
  unfold sealL
  rw [List.drop_append_of_le_length (by rw [ovl_len]; exact Nat.le_refl _), List.drop_eq_nil_of_le (by rw [ovl_len]; exact Nat.le_refl _), List.nil_append]
theorem tagL_lt (k n ad c : List Int) : ∀ y ∈ tagL k n ad c, 0 ≤ y ∧ y < 256 := dg_lt _
theorem sealL_lt {ks ns az ds : List Int} (h : ∀ y ∈ ds, 0 ≤ y ∧ y < 256) : ∀ y ∈ sealL ks ns az ds, 0 ≤ y ∧ y < 256 := by
  intro y hy
  rcases List.mem_append.1 hy with h1 | h1
  · exact ovl_lt h y h1
  · exact tagL_lt _ _ _ _ y h1
end Go.Proofs.Ytnnjogfpapndaaa
