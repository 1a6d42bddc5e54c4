/-
  How an argument that is a slice of fields, and one that is a pair of limits, is opened. Used by the statements' last steps.
-/
import Derived.Test.YthefijjdffafkaaDoorDoD
import Derived.Deep.SlicePairs
import Derived.SizedLaws
import Derived.OpenShut
import Derived.ShutString
import Derived.ChangeOld
import Derived.ProofKit
import Derived.WalkKit
namespace Go.Proofs.YthefijjdffafkaaDoor
open Go.ChangeShapes Go.WideShapes Go.ChangeAt Go.RowKit Go.Deep
set_option linter.unusedVariables false
set_option maxRecDepth 20000

theorem bytes37 : Tryd.prog.bytesOf 37 = 32 := by kernel_rfl
theorem cells37 : Tryd.prog.cellsOf 37 = 2 := by kernel_rfl
theorem cells9 : Tryd.prog.cellsOf 9 = 1 := by kernel_rfl
theorem cells3 : Tryd.prog.cellsOf 3 = 1 := by kernel_rfl
theorem weights_mem_all {H : Type} {P : Program} {e : TypeId} {d : DataW H} {l : List (DataW H)} (h : d ∈ l) {n : Nat} (hn : n ∈ d.weights P e) : n ∈ DataW.weightsAll P e l := by
  induction l with
  | nil => cases h
  | cons x r ih =>
    rw [DataW.weightsAll, List.mem_append]
    rcases List.mem_cons.1 h with rfl | h
    · exact .inl hn
    · exact .inr (ih h)
set_option maxHeartbeats 1000000 in
/-- A slice of fields that came in. -/
theorem open_fields {H : Type} {enc : TypeId × Value → H} {W : World} {a : Option Addr} {len cap : Nat} {d : DataW H} {p : List MemPlace} {ts : List TypeId} {ds : List (DataW H)} {j : Nat}
    (h : DataW.Trod enc Tryd.prog W 0 (fun _ => true) true 22 (.slice a len cap) d p) (hsz : (DataW.weightsEach Tryd.prog ts ds).all (· ≤ reachBytes) = true) (ht : ts[j]? = some 22) (hd : ds[j]? = some d) :
    ∃ l : List Fd, Fin W ⟨a, len, cap⟩ l := by
  obtain ⟨fuel, hf⟩ := h
  rcases open_slice_pairs Tryd.underlying22 Tryd.underlying37 cells37 rfl rfl cells9 cells9 hf with ⟨hcs, _⟩ | ⟨x, l, c, m, n, V0, V1, D0, D1, P0, P1, hcs, _, hl, hm, hmm, hx, hcell⟩
  · simp [Value.cells] at hcs
    obtain ⟨rfl, rfl, rfl⟩ := hcs
    exact ⟨[], fun h => absurd rfl h, rfl, Nat.le_refl _, by show 0 ≤ _; omega, fun p hp => by cases hp⟩
  · simp [Value.cells] at hcs
    obtain ⟨rfl, rfl, rfl⟩ := hcs
    have hm' : m = cap := by simpa using hmm
    have hdd : d = .slice ((List.range len).map fun i => .agg [D0 i, D1 i]) ((List.range (m - len)).map fun j => .agg [D0 (len + j), D1 (len + j)]) := (Prod.mk.inj hx).1
    have hbl : len ≤ 4398046511104 := by
      rw [hdd] at hd
      have := sized_slice hsz (j := j) (t := 22) (e := 37) ht hd Tryd.underlying22
      rw [bytes37] at this
      simp only [reachBytes, List.length_map, List.length_range] at this
      omega
    have e : ∀ i, i < len → ∃ q : Fd, V0 i = .string q.1 ∧ V1 i = .string q.2 ∧ q.1.size ≤ 140737488355328 ∧ q.2.size ≤ 140737488355328 := by
      intro i hi
      obtain ⟨_, _, h0, h1⟩ := hcell i (by omega)
      obtain ⟨s0, e0, y0, _⟩ := DataW.trod_string Tryd.underlying9 h0
      obtain ⟨s1, e1, y1, _⟩ := DataW.trod_string Tryd.underlying9 h1
      simp only [List.cons.injEq, and_true] at e0 e1
      have z0 : D0 i = .lit (.string s0.data.toList) := (Prod.mk.inj y0).1
      have z1 : D1 i = .lit (.string s1.data.toList) := (Prod.mk.inj y1).1
      have hmem : (DataW.agg [D0 i, D1 i]) ∈ (List.range len).map fun i => DataW.agg [D0 i, D1 i] := List.mem_map.2 ⟨i, List.mem_range.2 hi, rfl⟩
      have hin : ∀ k, k ∈ (DataW.agg [D0 i, D1 i]).weights Tryd.prog 37 → k ≤ reachBytes := by
        intro k hk
        have hw2 := weights_mem_all hmem hk
        have hw3 : k ∈ d.weights Tryd.prog 22 := by
          rw [hdd]
          simp only [DataW.weights, Tryd.underlying22, List.mem_cons, List.mem_append]
          exact .inr (.inl hw2)
        have := List.all_eq_true.1 hsz _ (DataW.weights_mem_each ht hd _ hw3)
        simpa using this
      have b0 := hin s0.data.toList.length (by simp [DataW.weights, DataW.weightsEach, Tryd.underlying37, z0, z1])
      have b1 := hin s1.data.toList.length (by simp [DataW.weights, DataW.weightsEach, Tryd.underlying37, z0, z1])
      refine ⟨(s0, s1), e0, e1, ?_, ?_⟩
      · have : s0.data.toList.length = s0.size := rfl
        simp only [reachBytes] at b0
        dsimp only; omega
      · have : s1.data.toList.length = s1.size := rfl
        simp only [reachBytes] at b1
        dsimp only; omega
    have inh : Inhabited Fd := ⟨(⟨#[]⟩, ⟨#[]⟩)⟩
    obtain ⟨f, hf'⟩ := choose_lt e
    refine ⟨(List.range len).map f, ?_, by simp, hl, by simpa using hbl, ?_⟩
    · intro hne
      have hlen : 0 < len := by
        cases len with
        | zero => simp at hne
        | succ k => omega
      obtain ⟨b, off, spot⟩ := x
      have hc := (hcell 0 (by omega)).1
      have hspot : spot = none := by simpa [Addr.add] using World.cell?_spot hc
      subst hspot
      refine ⟨b, off, rfl, fun i q hq => ?_⟩
      have hi : i < len := by
        have := (List.getElem?_eq_some_iff.1 hq).1
        simpa using this
      have hq' : q = f i := by
        rw [List.getElem?_map, List.getElem?_range hi] at hq
        simpa using hq.symm
      subst hq'
      obtain ⟨h0, h1, _, _⟩ := hcell i (by omega)
      rw [addr_add] at h0 h1
      rw [(hf' i hi).1] at h0
      rw [(hf' i hi).2.1] at h1
      exact ⟨h0, by rw [Nat.add_assoc]; exact h1⟩
    · intro q hq
      rw [List.mem_map] at hq
      obtain ⟨i, hi, rfl⟩ := hq
      exact (hf' i (List.mem_range.1 hi)).2.2
/-- A pair of limits that came in. -/
theorem open_limits {H : Type} {enc : TypeId × Value → H} {W : World} {cs : Array Value} {d : DataW H} {p : List MemPlace} (h : DataW.Trod enc Tryd.prog W 0 (fun _ => true) true 30 (.agg cs) d p) (hcs : cs.size = 2) : ∃ x y : Int, cs = #[.int .i64 x, .int .i64 y] := by
  obtain ⟨fuel, hf⟩ := h
  obtain ⟨xs, k, hk, hxy, _, hxl, hfd⟩ := DataW.trod_struct Tryd.underlying30 hf
  match xs, hxl with
  | [y0, y1], _ =>
    have g0 := hfd 0 _ rfl
    have g1 := hfd 1 _ rfl
    obtain ⟨l⟩ := cs
    match l, hcs with
    | [v0, v1], _ =>
      simp [cells3, Value.cells] at g0 g1
      obtain ⟨n0, k0, _, _⟩ := DataW.trod_int Tryd.underlying3 g0
      obtain ⟨n1, k1, _, _⟩ := DataW.trod_int Tryd.underlying3 g1
      simp only [List.cons.injEq, and_true] at k0 k1
      exact ⟨n0, n1, by rw [k0, k1]⟩
end Go.Proofs.YthefijjdffafkaaDoor
