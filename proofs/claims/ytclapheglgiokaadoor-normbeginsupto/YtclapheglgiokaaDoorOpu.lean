/-
  How an argument that is a slice of fields is opened under the condition on the input's bulk. Used by the statements' last steps.
-/
import Derived.Test.YtclapheglgiokaaDoorRows
import Derived.Test.YtclapheglgiokaaDoorRnS
import Derived.Deep.SlicePairs
import Derived.SizedLaws
import Derived.OpenShut
import Derived.ShutString
import Derived.ChangeOld
import Derived.ProofKit
import Derived.WalkKit
namespace Go.Proofs.YtclapheglgiokaaDoor
open Go.ChangeShapes Go.WideShapes Go.ChangeAt Go.RowKit Go.Deep
set_option linter.unusedVariables false
set_option maxRecDepth 20000

theorem cellsF : Tryd.prog.cellsOf 57 = 2 := by kernel_rfl
theorem cellsS : Tryd.prog.cellsOf 9 = 1 := by kernel_rfl
theorem bulk_mem {H : Type} {d : DataW H} {l : List (DataW H)} (h : d ∈ l) : Rows.uptoBulk d ≤ Rows.uptoBulkAll l := by
  induction l with
  | nil => cases h
  | cons x r ih =>
    rw [Rows.uptoBulkAll]
    rcases List.mem_cons.1 h with rfl | h
    · omega
    · have := ih h; omega
/-- How many letters a list of fields has. -/
def totF (l : List Fd) : Nat := (l.map fun p => p.1.size + p.2.size).sum
def fdD {H : Type} (p : Fd) : DataW H := .agg [.lit (.string p.1.data.toList), .lit (.string p.2.data.toList)]
theorem bulk_fd {H : Type} (l : List Fd) : totF l + l.length ≤ Rows.uptoBulkAll (l.map (fdD (H := H))) := by
  induction l with
  | nil => exact Nat.le_refl _
  | cons p r ih =>
    have e : totF (p :: r) = (p.1.size + p.2.size) + totF r := by simp [totF]
    have e1 : p.1.data.toList.length = p.1.size := rfl
    have e2 : p.2.data.toList.length = p.2.size := rfl
    rw [e, List.map_cons, Rows.uptoBulkAll, List.length_cons]
    simp only [fdD, Rows.uptoBulk, Rows.uptoBulkAll]
    omega
theorem totF_le {l : List Fd} {p : Fd} (h : p ∈ l) : p.1.size + p.2.size ≤ totF l := by
  induction l with
  | nil => cases h
  | cons q r ih =>
    have e : totF (q :: r) = (q.1.size + q.2.size) + totF r := by simp [totF]
    rcases List.mem_cons.1 h with rfl | h
    · omega
    · have := ih h; omega
set_option maxHeartbeats 1000000 in
theorem open_fields_upto {H : Type} {enc : TypeId × Value → H} {W : World} {a : Option Addr} {len cap : Nat} {d : DataW H} {p : List MemPlace} {ds : List (DataW H)}
    (h : DataW.Trod enc Tryd.prog W 0 (fun _ => true) true 22 (.slice a len cap) d p) (hk : Rows.uptoSmall H ds = true) (hd : d ∈ ds) :
    ∃ l : List Fd, Fin W ⟨a, len, cap⟩ l ∧ totF l + l.length ≤ 1048576 := by
  have hb : Rows.uptoBulk d ≤ 1048576 := Nat.le_trans (bulk_mem hd) (by simpa [Rows.uptoSmall] using hk)
  obtain ⟨fuel, hf⟩ := h
  rcases open_slice_pairs Tryd.underlying22 Tryd.underlying57 cellsF rfl rfl cellsS cellsS hf with ⟨hcs, _⟩ | ⟨x, l, c, m, n, V0, V1, D0, D1, P0, P1, hcs, _, hl, hm, hmm, hx, hcell⟩
  · simp [Value.cells] at hcs
    obtain ⟨rfl, rfl, rfl⟩ := hcs
    exact ⟨[], ⟨fun h => absurd rfl h, rfl, Nat.le_refl _, by show 0 ≤ _; omega, fun p hp => by cases hp⟩, by show 0 + 0 ≤ _; omega⟩
  · simp [Value.cells] at hcs
    obtain ⟨rfl, rfl, rfl⟩ := hcs
    have hm' : m = cap := by simpa using hmm
    have hdd : d = .slice ((List.range len).map fun i => .agg [D0 i, D1 i]) ((List.range (m - len)).map fun j => .agg [D0 (len + j), D1 (len + j)]) := (Prod.mk.inj hx).1
    have e : ∀ i, i < len → ∃ q : Fd, V0 i = .string q.1 ∧ V1 i = .string q.2 ∧ D0 i = .lit (.string q.1.data.toList) ∧ D1 i = .lit (.string q.2.data.toList) := by
      intro i hi
      obtain ⟨_, _, h0, h1⟩ := hcell i (by omega)
      obtain ⟨s0, e0, y0, _⟩ := DataW.trod_string Tryd.underlying9 h0
      obtain ⟨s1, e1, y1, _⟩ := DataW.trod_string Tryd.underlying9 h1
      simp only [List.cons.injEq, and_true] at e0 e1
      have z0 : D0 i = .lit (.string s0.data.toList) := (Prod.mk.inj y0).1
      have z1 : D1 i = .lit (.string s1.data.toList) := (Prod.mk.inj y1).1
      exact ⟨(s0, s1), e0, e1, z0, z1⟩
    have inh : Inhabited Fd := ⟨(⟨#[]⟩, ⟨#[]⟩)⟩
    obtain ⟨f, hf'⟩ := choose_lt e
    have hmap : ((List.range len).map fun i => DataW.agg [D0 i, D1 i]) = ((List.range len).map f).map (fdD (H := H)) := by
      rw [List.map_map]
      refine List.map_congr_left (fun i hi => ?_)
      obtain ⟨_, _, z0, z1⟩ := hf' i (List.mem_range.1 hi)
      rw [z0, z1]
      rfl
    have hbk : totF ((List.range len).map f) + ((List.range len).map f).length ≤ 1048576 := by
      have h1 := bulk_fd (H := H) ((List.range len).map f)
      rw [hdd] at hb
      rw [hmap] at hb
      simp only [Rows.uptoBulk] at hb
      omega
    have hlf : ((List.range len).map f).length = len := by simp
    refine ⟨(List.range len).map f, ⟨?_, hlf, hl, by have := hbk; omega, ?_⟩, hbk⟩
    · intro hne
      have hlen : 0 < len := by
        cases len with
        | zero => simp at hne
        | succ k => omega
      obtain ⟨b, off, spot⟩ := x
      have hc := (hcell 0 (by omega)).1
      have hspot : spot = none := by simpa [Addr.add] using World.cell?_spot hc
      subst hspot
      refine ⟨b, off, rfl, fun i q hq => ?_⟩
      have hi : i < len := by
        have := (List.getElem?_eq_some_iff.1 hq).1
        simpa using this
      have hq' : q = f i := by
        rw [List.getElem?_map, List.getElem?_range hi] at hq
        simpa using hq.symm
      subst hq'
      obtain ⟨h0, h1, _, _⟩ := hcell i (by omega)
      rw [addr_add] at h0 h1
      rw [(hf' i hi).1] at h0
      rw [(hf' i hi).2.1] at h1
      exact ⟨h0, by rw [Nat.add_assoc]; exact h1⟩
    · intro q hq
      have h1 := totF_le hq
      exact ⟨by omega, by omega⟩
end Go.Proofs.YtclapheglgiokaaDoor
