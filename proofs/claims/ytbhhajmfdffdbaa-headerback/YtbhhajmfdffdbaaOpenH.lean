/-
  How an argument that is a header is opened: what its words hold, and that they are not too long. Used by the statements' last steps.
-/
import Derived.Test.YtbhhajmfdffdbaaOpen
import Derived.Test.YtbhhajmfdffdbaaCpd
import Derived.Deep.SlicePairs
namespace Go.Proofs.Ytbhhajmfdffdbaa
open Go.ChangeShapes Go.WideShapes Go.ChangeAt Go.RowKit Go.Deep
set_option linter.unusedVariables false
set_option maxRecDepth 20000

theorem cells3 : Try.prog.cellsOf 3 = 1 := by kernel_rfl
theorem cells22 : Try.prog.cellsOf 22 = 1 := by kernel_rfl
theorem cells24 : Try.prog.cellsOf 24 = 1 := by kernel_rfl
theorem cells26 : Try.prog.cellsOf 26 = 7 := by kernel_rfl
theorem bytes3 : Try.prog.bytesOf 3 = 8 := by kernel_rfl

/-- How long a slice is, by its data. -/
def LenOf {H : Type} (n : Nat) (d : DataW H) : Prop := n = 0 ∨ ∃ elems spare, d = .slice elems spare ∧ n ≤ elems.length + spare.length

theorem trod_bytes {H : Type} {enc : TypeId × Value → H} {W : World} {fuel : Nat} {v : Value} {x : DataW H × List MemPlace}
    (h : DataW.trod enc Try.prog W 0 (fun _ => true) true fuel 22 [v] = some x) :
    ∃ (s : Sv) (zs : List Int), v = .slice s.a s.n s.c ∧ zs.length = s.n ∧ Seg W s.a zs ∧ (∀ y ∈ zs, 0 ≤ y ∧ y < 256) ∧ LenOf s.n x.1 := by
  have hv : ∃ a2 l2 c2, v = .slice a2 l2 c2 := by
    rcases open_ints Try.underlying22 Try.underlying5 cells5 h with ⟨hcs, _⟩ | ⟨y, l, c, zs, hcs, _⟩
    · simp at hcs; exact ⟨_, _, _, hcs⟩
    · simp at hcs; exact ⟨_, _, _, hcs⟩
  obtain ⟨a, len, cap, rfl⟩ := hv
  have h2 : DataW.Trod enc Try.prog W 0 (fun _ => true) true 22 (.slice a len cap) x.1 x.2 := ⟨fuel, by simpa [Value.cells] using h⟩
  obtain ⟨zs, q1, q2, q3, q4, q5, q6⟩ := open_bytes h2
  exact ⟨⟨a, len, cap⟩, zs, rfl, q1, q2, q3, q6⟩

theorem trod_nums {H : Type} {enc : TypeId × Value → H} {W : World} {fuel : Nat} {v : Value} {x : DataW H × List MemPlace}
    (h : DataW.trod enc Try.prog W 0 (fun _ => true) true fuel 24 [v] = some x) :
    ∃ (s : Sv) (zs : List Int), v = .slice s.a s.n s.c ∧ zs.length = s.n ∧ SegN W s.a zs ∧ LenOf s.n x.1 := by
  rcases open_ints Try.underlying24 Try.underlying3 cells3 h with ⟨hcs, _⟩ | ⟨y, len, cap, zs, hcs, _, hl, hm, hz, hx, hcell, hwz⟩
  · simp at hcs
    exact ⟨⟨none, 0, 0⟩, [], hcs, rfl, fun h => absurd rfl h, .inl rfl⟩
  · simp at hcs
    subst hcs
    subst hx
    have hz' : zs.length = cap := by simpa using hz
    refine ⟨⟨some y, len, cap⟩, zs.take len, rfl, by simp; omega, ?_, .inr ⟨_, _, rfl, by simp [lits]; omega⟩⟩
    intro hne
    have hlen : 0 < len := by
      cases len with
      | zero => simp at hne
      | succ k => omega
    obtain ⟨b, off, spot⟩ := y
    have hc := hcell 0 (by omega)
    have hspot : spot = none := by simpa [Addr.add] using World.cell?_spot hc
    subst hspot
    refine ⟨b, off, rfl, fun i hi => ?_⟩
    have hi' : i < len := by have := List.length_take_le len zs; omega
    have := hcell i (by omega)
    rw [addr_add] at this
    rw [this]
    simp [hi']

/-- What a header that came in is. -/
structure Came {H : Type} (W : World) (f : Hd) (x y z v : Sv) (d : DataW H) : Prop where
  h : Reads W f x y z v
  bd : ∀ b ∈ f.dst, 0 ≤ b ∧ b < 256
  bs : ∀ b ∈ f.src, 0 ≤ b ∧ b < 256
  bt : ∀ b ∈ f.tok, 0 ≤ b ∧ b < 256
  ld : ∃ d0 d1 d2 d3 d4 d5 d6, d = .agg [d0, d1, d2, d3, d4, d5, d6] ∧ LenOf x.n d2 ∧ LenOf y.n d3 ∧ LenOf z.n d4 ∧ LenOf v.n d5

theorem trod_header {H : Type} {enc : TypeId × Value → H} {W : World} {fuel : Nat} {cs : List Value} {x : DataW H × List MemPlace}
    (h : DataW.trod enc Try.prog W 0 (fun _ => true) true fuel 26 cs = some x) (hlen : cs.length = 7) :
    ∃ (f : Hd) (d s t v : Sv), cs = (hcells f d s t v).toList ∧ Came W f d s t v x.1 := by
  obtain ⟨xs, k, hk, hxy, _, hxl, hf⟩ := DataW.trod_struct Try.underlying26 h
  match xs, hxl, cs, hlen with
  | [y0, y1, y2, y3, y4, y5, y6], _, [v0, v1, v2, v3, v4, v5, v6], _ =>
    have g0 := hf 0 _ rfl
    have g1 := hf 1 _ rfl
    have g2 := hf 2 _ rfl
    have g3 := hf 3 _ rfl
    have g4 := hf 4 _ rfl
    have g5 := hf 5 _ rfl
    have g6 := hf 6 _ rfl
    simp [cells3, cells22, cells24] at g0 g1 g2 g3 g4 g5 g6
    obtain ⟨n0, k0, _, _⟩ := DataW.trod_int Try.underlying3 g0
    obtain ⟨n1, k1, _, _⟩ := DataW.trod_int Try.underlying3 g1
    obtain ⟨s2, z2, k2, l2, h2, r2, e2⟩ := trod_bytes g2
    obtain ⟨s3, z3, k3, l3, h3, r3, e3⟩ := trod_bytes g3
    obtain ⟨s4, z4, k4, l4, h4, r4, e4⟩ := trod_bytes g4
    obtain ⟨s5, z5, k5, l5, h5, e5⟩ := trod_nums g5
    obtain ⟨n6, k6, _, _⟩ := DataW.trod_int Try.underlying3 g6
    simp only [List.cons.injEq, and_true] at k0 k1 k6
    subst k0 k1 k2 k3 k4 k5 k6
    refine ⟨⟨n0, n1, z2, z3, z4, z5, n6⟩, s2, s3, s4, s5, rfl, ⟨h2, h3, h4, h5, l2, l3, l4, l5⟩, r2, r3, r4, ?_⟩
    refine ⟨y0.1, y1.1, y2.1, y3.1, y4.1, y5.1, y6.1, ?_, e2, e3, e4, e5⟩
    rw [hxy]; rfl

theorem open_header {H : Type} {enc : TypeId × Value → H} {W : World} {cs : Array Value} {d : DataW H} {p : List MemPlace}
    (h : DataW.Trod enc Try.prog W 0 (fun _ => true) true 26 (.agg cs) d p) (hs : cs.size = Try.prog.cellsOf 26) : ∃ (f : Hd) (x y z v : Sv), cs = hcells f x y z v ∧ Came W f x y z v d := by
  obtain ⟨fuel, hf⟩ := h
  rw [cells26] at hs
  obtain ⟨f, x, y, z, v, hc, hm⟩ := trod_header (cs := cs.toList) (by simpa [Value.cells] using hf) (by simpa using hs)
  exact ⟨f, x, y, z, v, Array.toList_inj.1 hc, hm⟩

/-- .. and how long its slices are at most. -/
theorem came_fit {H : Type} {ts : List TypeId} {ds : List (DataW H)} {j : Nat} {W : World} {f : Hd} {x y z v : Sv} {d : DataW H} (hsz : (DataW.weightsEach Try.prog ts ds).all (· ≤ reachBytes) = true) (ht : ts[j]? = some 26) (hd : ds[j]? = some d)
    (h : Came W f x y z v d) : Fit W f x y z v := by
  obtain ⟨d0, d1, d2, d3, d4, d5, d6, rfl, h2, h3, h4, h5⟩ := h.ld
  refine ⟨h.h, ?_, ?_, ?_, ?_⟩
  · rcases h2 with h0 | ⟨e2, s2, rfl, hle⟩
    · omega
    · have hw : (e2.length + s2.length) * Try.prog.bytesOf 5 ∈ (DataW.agg [d0, d1, DataW.slice e2 s2, d3, d4, d5, d6]).weights Try.prog 26 := by
        simp [DataW.weights, DataW.weightsEach, Try.underlying26, Try.underlying22]
      have := List.all_eq_true.1 hsz _ (DataW.weights_mem_each ht hd _ hw)
      rw [bytes5] at this
      simp [reachBytes] at this
      omega
  · rcases h3 with h0 | ⟨e2, s2, rfl, hle⟩
    · omega
    · have hw : (e2.length + s2.length) * Try.prog.bytesOf 5 ∈ (DataW.agg [d0, d1, d2, DataW.slice e2 s2, d4, d5, d6]).weights Try.prog 26 := by
        simp [DataW.weights, DataW.weightsEach, Try.underlying26, Try.underlying22]
      have := List.all_eq_true.1 hsz _ (DataW.weights_mem_each ht hd _ hw)
      rw [bytes5] at this
      simp [reachBytes] at this
      omega
  · rcases h4 with h0 | ⟨e2, s2, rfl, hle⟩
    · omega
    · have hw : (e2.length + s2.length) * Try.prog.bytesOf 5 ∈ (DataW.agg [d0, d1, d2, d3, DataW.slice e2 s2, d5, d6]).weights Try.prog 26 := by
        simp [DataW.weights, DataW.weightsEach, Try.underlying26, Try.underlying22]
      have := List.all_eq_true.1 hsz _ (DataW.weights_mem_each ht hd _ hw)
      rw [bytes5] at this
      simp [reachBytes] at this
      omega
  · rcases h5 with h0 | ⟨e2, s2, rfl, hle⟩
    · omega
    · have hw : (e2.length + s2.length) * Try.prog.bytesOf 3 ∈ (DataW.agg [d0, d1, d2, d3, d4, DataW.slice e2 s2, d6]).weights Try.prog 26 := by
        simp [DataW.weights, DataW.weightsEach, Try.underlying26, Try.underlying24]
      have := List.all_eq_true.1 hsz _ (DataW.weights_mem_each ht hd _ hw)
      rw [bytes3] at this
      have h2 : (e2.length + s2.length) * 8 ≤ reachBytes := by simpa using this
      unfold reachBytes at h2
      omega
end Go.Proofs.Ytbhhajmfdffdbaa
