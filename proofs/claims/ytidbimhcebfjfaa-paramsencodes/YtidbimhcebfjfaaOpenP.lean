/-
  How an argument that is parameters is opened. Used by the statement's last steps.
-/
import Derived.Test.YtidbimhcebfjfaaOpenT
namespace Go.Proofs.Ytidbimhcebfjfaa
open Go.ChangeShapes Go.WideShapes Go.ChangeAt Go.RowKit Go.Deep
set_option linter.unusedVariables false
set_option maxRecDepth 20000

theorem open_params {H : Type} {enc : TypeId × Value → H} {W : World} {cs : Array Value} {x : DataW H} {p : List MemPlace}
    (h : DataW.Trod enc Try.prog W 0 (fun _ => true) true 24 (.agg cs) x p) (hs : cs.size = Try.prog.cellsOf 24) : ∃ (m : Pm) (s : Nat → Sv), cs = pc m s ∧ CameQ W m s x := by
  obtain ⟨fuel, hf⟩ := h
  rw [cells24] at hs
  have hf2 : DataW.trod enc Try.prog W 0 (fun _ => true) true fuel 24 cs.toList = some (x, p) := by simpa [Value.cells] using hf
  have hs2 : cs.toList.length = 20 := by simpa using hs
  clear hf hs
  obtain ⟨cl⟩ := cs
  have hf3 : DataW.trod enc Try.prog W 0 (fun _ => true) true fuel 24 cl = some (x, p) := hf2
  have hs3 : cl.length = 20 := hs2
  clear hf2 hs2
  match cl, hs3 with
  | [v0, v1, v2, v3, v4, v5, v6, v7, v8, v9, v10, v11, v12, v13, v14, v15, v16, v17, v18, v19], _ =>
    obtain ⟨m, s, e, cq⟩ := trod_params hf3
    exact ⟨m, s, Array.toList_inj.1 e, cq⟩
theorem params_fit {H : Type} {ts : List TypeId} {es : List (DataW H)} {j : Nat} {W : World} {m : Pm} {s : Nat → Sv} {x : DataW H} (hsz : (DataW.weightsEach Try.prog ts es).all (· ≤ reachBytes) = true) (ht : ts[j]? = some 24) (hd : es[j]? = some x)
    (cq : CameQ W m s x) : ∀ i, kd i = 2 ∨ kd i = 3 → (s i).n ≤ 140737488351232 := by
  obtain ⟨d0, d1, d2, d3, d4, d5, d6, d7, d8, d9, d10, d11, d12, d13, d14, d15, d16, d17, d18, d19, rfl, h4, h5, h6, h7⟩ := cq.l
  intro i hi
  rcases kd_byt hi with rfl | rfl | rfl | rfl
  · rcases h4 with h0 | ⟨e2, s2, rfl, hle⟩
    · omega
    · have hw : (e2.length + s2.length) * Try.prog.bytesOf 5 ∈ (DataW.agg [d0, d1, d2, d3, DataW.slice e2 s2, d5, d6, d7, d8, d9, d10, d11, d12, d13, d14, d15, d16, d17, d18, d19]).weights Try.prog 24 := by
        simp [DataW.weights, DataW.weightsEach, Try.underlying24, Try.underlying22]
      have := List.all_eq_true.1 hsz _ (DataW.weights_mem_each ht hd _ hw)
      rw [bytes5] at this
      simp [reachBytes] at this
      omega
  · rcases h5 with h0 | ⟨e2, s2, rfl, hle⟩
    · omega
    · have hw : (e2.length + s2.length) * Try.prog.bytesOf 5 ∈ (DataW.agg [d0, d1, d2, d3, d4, DataW.slice e2 s2, d6, d7, d8, d9, d10, d11, d12, d13, d14, d15, d16, d17, d18, d19]).weights Try.prog 24 := by
        simp [DataW.weights, DataW.weightsEach, Try.underlying24, Try.underlying22]
      have := List.all_eq_true.1 hsz _ (DataW.weights_mem_each ht hd _ hw)
      rw [bytes5] at this
      simp [reachBytes] at this
      omega
  · rcases h6 with h0 | ⟨e2, s2, rfl, hle⟩
    · omega
    · have hw : (e2.length + s2.length) * Try.prog.bytesOf 5 ∈ (DataW.agg [d0, d1, d2, d3, d4, d5, DataW.slice e2 s2, d7, d8, d9, d10, d11, d12, d13, d14, d15, d16, d17, d18, d19]).weights Try.prog 24 := by
        simp [DataW.weights, DataW.weightsEach, Try.underlying24, Try.underlying22]
      have := List.all_eq_true.1 hsz _ (DataW.weights_mem_each ht hd _ hw)
      rw [bytes5] at this
      simp [reachBytes] at this
      omega
  · rcases h7 with h0 | ⟨e2, s2, rfl, hle⟩
    · omega
    · have hw : (e2.length + s2.length) * Try.prog.bytesOf 5 ∈ (DataW.agg [d0, d1, d2, d3, d4, d5, d6, DataW.slice e2 s2, d8, d9, d10, d11, d12, d13, d14, d15, d16, d17, d18, d19]).weights Try.prog 24 := by
        simp [DataW.weights, DataW.weightsEach, Try.underlying24, Try.underlying22]
      have := List.all_eq_true.1 hsz _ (DataW.weights_mem_each ht hd _ hw)
      rw [bytes5] at this
      simp [reachBytes] at this
      omega
end Go.Proofs.Ytidbimhcebfjfaa
