/-
  How arguments that are settings or rows of ints are opened: what their words hold. Used by the statements' last steps.
-/
import Derived.Test.YtdlefmlienfjhaaOpen
import Derived.WalkKit
import Derived.ProofKit
import Derived.OpenShut
import Derived.ShutString
import Derived.ChangeOld
import Derived.Below
import Derived.SizedLaws
import Derived.ChangeSlices
namespace Go.Proofs.Ytdlefmlienfjhaa
open Go.ChangeShapes Go.WideShapes Go.ChangeAt Go.RowKit
set_option linter.unusedVariables false

theorem cells3 : Try.prog.cellsOf 3 = 1 := by kernel_rfl
theorem bytes3 : Try.prog.bytesOf 3 = 8 := by kernel_rfl
theorem cells39 : Try.prog.cellsOf 39 = 3 := by kernel_rfl
theorem open_nums {H : Type} {enc : TypeId × Value → H} {W : World} {a : Option Addr} {len cap : Nat} {d : DataW H} {p : List MemPlace}
    (h : DataW.Trod enc Try.prog W 0 (fun _ => true) true 63 (.slice a len cap) d p) :
    ∃ zs : List Int, zs.length = len ∧ SegN W a zs ∧ True ∧ len ≤ cap ∧ (a = none → len = 0 ∧ cap = 0) ∧ (len = 0 ∨ ∃ elems spare, d = .slice elems spare ∧ len ≤ elems.length + spare.length) := by
  obtain ⟨fuel, hf⟩ := h
  rcases open_ints Try.underlying63 Try.underlying3 cells3 hf with ⟨hcs, _⟩ | ⟨x, l, c, zs, hcs, _, hl, hm, hz, hx, hcell, hwz⟩
  · simp [Value.cells] at hcs
    obtain ⟨rfl, rfl, rfl⟩ := hcs
    exact ⟨[], rfl, fun h => absurd rfl h, trivial, Nat.le_refl _, fun _ => ⟨rfl, rfl⟩, .inl rfl⟩
  · simp [Value.cells] at hcs
    obtain ⟨rfl, rfl, rfl⟩ := hcs
    simp only [Prod.mk.injEq] at hx
    obtain ⟨rfl, _⟩ := hx
    have hz' : zs.length = cap := by simpa using hz
    refine ⟨zs.take len, by simp; omega, ?_, trivial, hl, (fun h => by cases h), .inr ⟨_, _, rfl, by simp [lits]; omega⟩⟩
    intro hne
    have hlen : 0 < len := by
      cases len with
      | zero => simp at hne
      | succ k => omega
    obtain ⟨b, off, spot⟩ := x
    have hc := hcell 0 (by omega)
    have hspot : spot = none := by simpa [Addr.add] using World.cell?_spot hc
    subst hspot
    refine ⟨b, off, rfl, fun i hi => ?_⟩
    have hi' : i < len := by have := List.length_take_le len zs; omega
    have := hcell i (by omega)
    rw [addr_add] at this
    rw [this]
    simp [hi']

theorem len_le_nums {H : Type} {ts : List TypeId} {ds : List (DataW H)} {j len : Nat} {d : DataW H} (hsz : (DataW.weightsEach Try.prog ts ds).all (· ≤ reachBytes) = true) (ht : ts[j]? = some 63) (hd : ds[j]? = some d)
    (h : len = 0 ∨ ∃ elems spare, d = .slice elems spare ∧ len ≤ elems.length + spare.length) : len * 8 ≤ 140737488351232 := by
  rcases h with rfl | ⟨elems, spare, rfl, h⟩
  · omega
  · have := sized_slice hsz (j := j) (t := 63) (e := 3) ht hd Try.underlying63
    rw [bytes3] at this
    simp only [reachBytes] at this
    omega


set_option maxRecDepth 20000 in
theorem trod_set {H : Type} {enc : TypeId × Value → H} {W : World} {fuel : Nat} {cs : List Value} {x : DataW H × List MemPlace}
    (h : DataW.trod enc Try.prog W 0 (fun _ => true) true fuel 39 cs = some x) (hlen : cs.length = 3) : ∃ a b c : Int, cs = [.int .i64 a, .int .i64 b, .int .i64 c] := by
  obtain ⟨xs, k, hk, hxy, _, hxl, hf⟩ := DataW.trod_struct Try.underlying39 h
  match xs, hxl, cs, hlen with
  | [y0, y1, y2], _, [v0, v1, v2], _ =>
    have g0 := hf 0 _ rfl
    have g1 := hf 1 _ rfl
    have g2 := hf 2 _ rfl
    simp [cells3] at g0 g1 g2
    obtain ⟨n0, k0, _, _⟩ := DataW.trod_int Try.underlying3 g0
    obtain ⟨n1, k1, _, _⟩ := DataW.trod_int Try.underlying3 g1
    obtain ⟨n2, k2, _, _⟩ := DataW.trod_int Try.underlying3 g2
    simp at k0 k1 k2
    exact ⟨n0, n1, n2, by rw [k0, k1, k2]⟩
theorem open_set {H : Type} {enc : TypeId × Value → H} {W : World} {cs : Array Value} {d : DataW H} {p : List MemPlace}
    (h : DataW.Trod enc Try.prog W 0 (fun _ => true) true 39 (.agg cs) d p) (hs : cs.size = Try.prog.cellsOf 39) : ∃ a b c : Int, cs = #[.int .i64 a, .int .i64 b, .int .i64 c] := by
  obtain ⟨fuel, hf⟩ := h
  rw [cells39] at hs
  obtain ⟨a, b, c, hc⟩ := trod_set (cs := cs.toList) (by simpa [Value.cells] using hf) (by simpa using hs)
  exact ⟨a, b, c, Array.toList_inj.1 hc⟩
end Go.Proofs.Ytdlefmlienfjhaa
