/-
  How an argument that is a field is opened. Used by a statement's last steps.
-/
import Derived.Test.YthefijjdffafkaaDoorOpi
namespace Go.Proofs.YthefijjdffafkaaDoor
open Go.ChangeShapes Go.WideShapes Go.ChangeAt Go.RowKit Go.Deep
set_option linter.unusedVariables false
set_option maxRecDepth 20000

theorem open_field {H : Type} {enc : TypeId × Value → H} {W : World} {cs : Array Value} {d : DataW H} {p : List MemPlace} {ts : List TypeId} {ds : List (DataW H)} {j : Nat}
    (h : DataW.Trod enc Tryd.prog W 0 (fun _ => true) true 37 (.agg cs) d p) (hcs : cs.size = 2) (hsz : (DataW.weightsEach Tryd.prog ts ds).all (· ≤ reachBytes) = true) (ht : ts[j]? = some 37) (hd : ds[j]? = some d) :
    ∃ x y : ByteArray, cs = #[.string x, .string y] ∧ x.size ≤ 140737488355328 ∧ y.size ≤ 140737488355328 := by
  obtain ⟨fuel, hf⟩ := h
  obtain ⟨xs, k, hk, hxy, _, hxl, hfd⟩ := DataW.trod_struct Tryd.underlying37 hf
  have hin : ∀ n, n ∈ d.weights Tryd.prog 37 → n ≤ reachBytes := by
    intro n hn
    have := List.all_eq_true.1 hsz _ (DataW.weights_mem_each ht hd _ hn)
    simpa using this
  match xs, hxl with
  | [y0, y1], _ =>
    have g0 := hfd 0 _ rfl
    have g1 := hfd 1 _ rfl
    obtain ⟨l⟩ := cs
    match l, hcs with
    | [v0, v1], _ =>
      simp [cells9, Value.cells] at g0 g1
      obtain ⟨s0, e0, z0, _⟩ := DataW.trod_string Tryd.underlying9 g0
      obtain ⟨s1, e1, z1, _⟩ := DataW.trod_string Tryd.underlying9 g1
      simp only [List.cons.injEq, and_true] at e0 e1
      have hdd : d = .agg [y0.1, y1.1] := (Prod.mk.inj hxy).1
      have b0 := hin s0.data.toList.length (by rw [hdd, z0, z1]; simp [DataW.weights, DataW.weightsEach, Tryd.underlying37])
      have b1 := hin s1.data.toList.length (by rw [hdd, z0, z1]; simp [DataW.weights, DataW.weightsEach, Tryd.underlying37])
      refine ⟨s0, s1, by rw [e0, e1], ?_, ?_⟩
      · have : s0.data.toList.length = s0.size := rfl
        simp only [reachBytes] at b0
        omega
      · have : s1.data.toList.length = s1.size := rfl
        simp only [reachBytes] at b1
        omega
end Go.Proofs.YthefijjdffafkaaDoor
