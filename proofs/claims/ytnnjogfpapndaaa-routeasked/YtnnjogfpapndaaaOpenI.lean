/-
  How arguments that are flat structs of slices of bytes and ints are opened: what their words hold, and that they are not too long. Used by the statements' last steps.
-/
import Derived.Test.YtnnjogfpapndaaaOpen
import Derived.Test.YtnnjogfpapndaaaOvl
import Derived.Deep.SlicePairs
namespace Go.Proofs.Ytnnjogfpapndaaa
open Go.ChangeShapes Go.WideShapes Go.ChangeAt Go.RowKit Go.Deep
set_option linter.unusedVariables false
set_option maxRecDepth 20000

theorem cells3 : Try.prog.cellsOf 3 = 1 := by kernel_rfl
theorem cells22 : Try.prog.cellsOf 22 = 1 := by kernel_rfl
theorem wf_i64 {n : Int} (h : (Lit.int .i64 n).wf = true) : -9223372036854775808 ≤ n ∧ n ≤ 9223372036854775807 := by
  simpa [Lit.wf, IntKind.min, IntKind.max, IntKind.signed, IntKind.bits] using h
/-- How long a slice is, by its data. -/
def LenOf {H : Type} (n : Nat) (d : DataW H) : Prop := n = 0 ∨ ∃ elems spare, d = .slice elems spare ∧ n ≤ elems.length + spare.length
theorem trod_bytes {H : Type} {enc : TypeId × Value → H} {W : World} {fuel : Nat} {v : Value} {x : DataW H × List MemPlace}
    (h : DataW.trod enc Try.prog W 0 (fun _ => true) true fuel 22 [v] = some x) :
    ∃ (s : Sv) (zs : List Int), v = .slice s.a s.n s.c ∧ In W s zs ∧ s.n ≤ s.c ∧ LenOf s.n x.1 := by
  have hv : ∃ a2 l2 c2, v = .slice a2 l2 c2 := by
    rcases open_ints Try.underlying22 Try.underlying5 cells5 h with ⟨hcs, _⟩ | ⟨y, l, c, zs, hcs, _⟩
    · simp at hcs; exact ⟨_, _, _, hcs⟩
    · simp at hcs; exact ⟨_, _, _, hcs⟩
  obtain ⟨a, len, cap, rfl⟩ := hv
  have h2 : DataW.Trod enc Try.prog W 0 (fun _ => true) true 22 (.slice a len cap) x.1 x.2 := ⟨fuel, by simpa [Value.cells] using h⟩
  obtain ⟨zs, q1, q2, q3, q4, q5, q6⟩ := open_bytes h2
  exact ⟨⟨a, len, cap⟩, zs, rfl, ⟨q2, q1, q3⟩, q4, q6⟩
theorem cells24 : Try.prog.cellsOf 24 = 4 := by kernel_rfl
abbrev idscells (s0 : Sv) (s1 : Sv) (n2 : Int) (n3 : Int) : Array Value := #[.slice s0.a s0.n s0.c, .slice s1.a s1.n s1.c, .int .i64 n2, .int .i64 n3]
structure idsCame {H : Type} (W : World) (s0 : Sv) (s1 : Sv) (n2 : Int) (n3 : Int) (z0 z1 : List Int) (x : DataW H) : Prop where
  i0 : In W s0 z0
  i1 : In W s1 z1
  c0 : s0.n ≤ s0.c
  c1 : s1.n ≤ s1.c
  b2 : -9223372036854775808 ≤ n2 ∧ n2 ≤ 9223372036854775807
  b3 : -9223372036854775808 ≤ n3 ∧ n3 ≤ 9223372036854775807
  l : ∃ d0 d1 d2 d3, x = .agg [d0, d1, d2, d3] ∧ LenOf s0.n d0 ∧ LenOf s1.n d1
theorem ids_trod {H : Type} {enc : TypeId × Value → H} {W : World} {fuel : Nat} {cs : List Value} {x : DataW H × List MemPlace}
    (h : DataW.trod enc Try.prog W 0 (fun _ => true) true fuel 24 cs = some x) (hlen : cs.length = 4) :
    ∃ (s0 : Sv) (s1 : Sv) (n2 : Int) (n3 : Int) (z0 z1 : List Int), cs = (idscells s0 s1 n2 n3).toList ∧ idsCame W s0 s1 n2 n3 z0 z1 x.1 := by
  obtain ⟨xs, k, hk, hxy, _, hxl, hf⟩ := DataW.trod_struct Try.underlying24 h
  match xs, hxl, cs, hlen with
  | [y0, y1, y2, y3], _, [v0, v1, v2, v3], _ =>
    have g0 := hf 0 _ rfl
    have g1 := hf 1 _ rfl
    have g2 := hf 2 _ rfl
    have g3 := hf 3 _ rfl
    simp [cells22, cells3] at g0 g1 g2 g3
    obtain ⟨s0, z0, k0, i0, c0, e0⟩ := trod_bytes g0
    obtain ⟨s1, z1, k1, i1, c1, e1⟩ := trod_bytes g1
    obtain ⟨n2, k2, _, w2⟩ := DataW.trod_int Try.underlying3 g2
    obtain ⟨n3, k3, _, w3⟩ := DataW.trod_int Try.underlying3 g3
    simp only [List.cons.injEq, and_true] at k2 k3
    subst k0 k1 k2 k3
    refine ⟨s0, s1, n2, n3, z0, z1, rfl, i0, i1, c0, c1, wf_i64 w2, wf_i64 w3, y0.1, y1.1, y2.1, y3.1, ?_, e0, e1⟩
    rw [hxy]; rfl
theorem ids_open {H : Type} {enc : TypeId × Value → H} {W : World} {cs : Array Value} {x : DataW H} {p : List MemPlace}
    (h : DataW.Trod enc Try.prog W 0 (fun _ => true) true 24 (.agg cs) x p) (hs : cs.size = Try.prog.cellsOf 24) : ∃ (s0 : Sv) (s1 : Sv) (n2 : Int) (n3 : Int) (z0 z1 : List Int), cs = idscells s0 s1 n2 n3 ∧ idsCame W s0 s1 n2 n3 z0 z1 x := by
  obtain ⟨fuel, hf⟩ := h
  rw [cells24] at hs
  obtain ⟨s0, s1, n2, n3, z0, z1, hc, hm⟩ := ids_trod (cs := cs.toList) (by simpa [Value.cells] using hf) (by simpa using hs)
  exact ⟨s0, s1, n2, n3, z0, z1, Array.toList_inj.1 hc, hm⟩
theorem ids_fit {H : Type} {ts : List TypeId} {es : List (DataW H)} {j : Nat} {W : World} {s0 : Sv} {s1 : Sv} {n2 : Int} {n3 : Int} {z0 z1 : List Int} {x : DataW H} (hsz : (DataW.weightsEach Try.prog ts es).all (· ≤ reachBytes) = true) (ht : ts[j]? = some 24) (hd : es[j]? = some x)
    (h : idsCame W s0 s1 n2 n3 z0 z1 x) : s0.n ≤ 140737488351232 ∧ s1.n ≤ 140737488351232 := by
  obtain ⟨d0, d1, d2, d3, rfl, h0, h1⟩ := h.l
  refine ⟨?_, ?_⟩
  · rcases h0 with h0 | ⟨e2, s2, rfl, hle⟩
    · omega
    · have hw : (e2.length + s2.length) * Try.prog.bytesOf 5 ∈ (DataW.agg [DataW.slice e2 s2, d1, d2, d3]).weights Try.prog 24 := by
        simp [DataW.weights, DataW.weightsEach, Try.underlying24, Try.underlying22]
      have := List.all_eq_true.1 hsz _ (DataW.weights_mem_each ht hd _ hw)
      rw [bytes5] at this
      simp [reachBytes] at this
      omega
  · rcases h1 with h0 | ⟨e2, s2, rfl, hle⟩
    · omega
    · have hw : (e2.length + s2.length) * Try.prog.bytesOf 5 ∈ (DataW.agg [d0, DataW.slice e2 s2, d2, d3]).weights Try.prog 24 := by
        simp [DataW.weights, DataW.weightsEach, Try.underlying24, Try.underlying22]
      have := List.all_eq_true.1 hsz _ (DataW.weights_mem_each ht hd _ hw)
      rw [bytes5] at this
      simp [reachBytes] at this
      omega
theorem cells41 : Try.prog.cellsOf 41 = 7 := by kernel_rfl
abbrev askcells (s0 : Sv) (n1 : Int) (n2 : Int) (n3 : Int) (n4 : Int) (s5 : Sv) (s6 : Sv) : Array Value := #[.slice s0.a s0.n s0.c, .int .i64 n1, .int .i64 n2, .int .i64 n3, .int .i64 n4, .slice s5.a s5.n s5.c, .slice s6.a s6.n s6.c]
structure askCame {H : Type} (W : World) (s0 : Sv) (n1 : Int) (n2 : Int) (n3 : Int) (n4 : Int) (s5 : Sv) (s6 : Sv) (z0 z5 z6 : List Int) (x : DataW H) : Prop where
  i0 : In W s0 z0
  i5 : In W s5 z5
  i6 : In W s6 z6
  c0 : s0.n ≤ s0.c
  c5 : s5.n ≤ s5.c
  c6 : s6.n ≤ s6.c
  b1 : -9223372036854775808 ≤ n1 ∧ n1 ≤ 9223372036854775807
  b2 : -9223372036854775808 ≤ n2 ∧ n2 ≤ 9223372036854775807
  b3 : -9223372036854775808 ≤ n3 ∧ n3 ≤ 9223372036854775807
  b4 : -9223372036854775808 ≤ n4 ∧ n4 ≤ 9223372036854775807
  l : ∃ d0 d1 d2 d3 d4 d5 d6, x = .agg [d0, d1, d2, d3, d4, d5, d6] ∧ LenOf s0.n d0 ∧ LenOf s5.n d5 ∧ LenOf s6.n d6
theorem ask_trod {H : Type} {enc : TypeId × Value → H} {W : World} {fuel : Nat} {cs : List Value} {x : DataW H × List MemPlace}
    (h : DataW.trod enc Try.prog W 0 (fun _ => true) true fuel 41 cs = some x) (hlen : cs.length = 7) :
    ∃ (s0 : Sv) (n1 : Int) (n2 : Int) (n3 : Int) (n4 : Int) (s5 : Sv) (s6 : Sv) (z0 z5 z6 : List Int), cs = (askcells s0 n1 n2 n3 n4 s5 s6).toList ∧ askCame W s0 n1 n2 n3 n4 s5 s6 z0 z5 z6 x.1 := by
  obtain ⟨xs, k, hk, hxy, _, hxl, hf⟩ := DataW.trod_struct Try.underlying41 h
  match xs, hxl, cs, hlen with
  | [y0, y1, y2, y3, y4, y5, y6], _, [v0, v1, v2, v3, v4, v5, v6], _ =>
    have g0 := hf 0 _ rfl
    have g1 := hf 1 _ rfl
    have g2 := hf 2 _ rfl
    have g3 := hf 3 _ rfl
    have g4 := hf 4 _ rfl
    have g5 := hf 5 _ rfl
    have g6 := hf 6 _ rfl
    simp [cells22, cells3] at g0 g1 g2 g3 g4 g5 g6
    obtain ⟨s0, z0, k0, i0, c0, e0⟩ := trod_bytes g0
    obtain ⟨n1, k1, _, w1⟩ := DataW.trod_int Try.underlying3 g1
    obtain ⟨n2, k2, _, w2⟩ := DataW.trod_int Try.underlying3 g2
    obtain ⟨n3, k3, _, w3⟩ := DataW.trod_int Try.underlying3 g3
    obtain ⟨n4, k4, _, w4⟩ := DataW.trod_int Try.underlying3 g4
    obtain ⟨s5, z5, k5, i5, c5, e5⟩ := trod_bytes g5
    obtain ⟨s6, z6, k6, i6, c6, e6⟩ := trod_bytes g6
    simp only [List.cons.injEq, and_true] at k1 k2 k3 k4
    subst k0 k1 k2 k3 k4 k5 k6
    refine ⟨s0, n1, n2, n3, n4, s5, s6, z0, z5, z6, rfl, i0, i5, i6, c0, c5, c6, wf_i64 w1, wf_i64 w2, wf_i64 w3, wf_i64 w4, y0.1, y1.1, y2.1, y3.1, y4.1, y5.1, y6.1, ?_, e0, e5, e6⟩
    rw [hxy]; rfl
theorem ask_open {H : Type} {enc : TypeId × Value → H} {W : World} {cs : Array Value} {x : DataW H} {p : List MemPlace}
    (h : DataW.Trod enc Try.prog W 0 (fun _ => true) true 41 (.agg cs) x p) (hs : cs.size = Try.prog.cellsOf 41) : ∃ (s0 : Sv) (n1 : Int) (n2 : Int) (n3 : Int) (n4 : Int) (s5 : Sv) (s6 : Sv) (z0 z5 z6 : List Int), cs = askcells s0 n1 n2 n3 n4 s5 s6 ∧ askCame W s0 n1 n2 n3 n4 s5 s6 z0 z5 z6 x := by
  obtain ⟨fuel, hf⟩ := h
  rw [cells41] at hs
  obtain ⟨s0, n1, n2, n3, n4, s5, s6, z0, z5, z6, hc, hm⟩ := ask_trod (cs := cs.toList) (by simpa [Value.cells] using hf) (by simpa using hs)
  exact ⟨s0, n1, n2, n3, n4, s5, s6, z0, z5, z6, Array.toList_inj.1 hc, hm⟩
theorem ask_fit {H : Type} {ts : List TypeId} {es : List (DataW H)} {j : Nat} {W : World} {s0 : Sv} {n1 : Int} {n2 : Int} {n3 : Int} {n4 : Int} {s5 : Sv} {s6 : Sv} {z0 z5 z6 : List Int} {x : DataW H} (hsz : (DataW.weightsEach Try.prog ts es).all (· ≤ reachBytes) = true) (ht : ts[j]? = some 41) (hd : es[j]? = some x)
    (h : askCame W s0 n1 n2 n3 n4 s5 s6 z0 z5 z6 x) : s0.n ≤ 140737488351232 ∧ s5.n ≤ 140737488351232 ∧ s6.n ≤ 140737488351232 := by
  obtain ⟨d0, d1, d2, d3, d4, d5, d6, rfl, h0, h5, h6⟩ := h.l
  refine ⟨?_, ?_, ?_⟩
  · rcases h0 with h0 | ⟨e2, s2, rfl, hle⟩
    · omega
    · have hw : (e2.length + s2.length) * Try.prog.bytesOf 5 ∈ (DataW.agg [DataW.slice e2 s2, d1, d2, d3, d4, d5, d6]).weights Try.prog 41 := by
        simp [DataW.weights, DataW.weightsEach, Try.underlying41, Try.underlying22]
      have := List.all_eq_true.1 hsz _ (DataW.weights_mem_each ht hd _ hw)
      rw [bytes5] at this
      simp [reachBytes] at this
      omega
  · rcases h5 with h0 | ⟨e2, s2, rfl, hle⟩
    · omega
    · have hw : (e2.length + s2.length) * Try.prog.bytesOf 5 ∈ (DataW.agg [d0, d1, d2, d3, d4, DataW.slice e2 s2, d6]).weights Try.prog 41 := by
        simp [DataW.weights, DataW.weightsEach, Try.underlying41, Try.underlying22]
      have := List.all_eq_true.1 hsz _ (DataW.weights_mem_each ht hd _ hw)
      rw [bytes5] at this
      simp [reachBytes] at this
      omega
  · rcases h6 with h0 | ⟨e2, s2, rfl, hle⟩
    · omega
    · have hw : (e2.length + s2.length) * Try.prog.bytesOf 5 ∈ (DataW.agg [d0, d1, d2, d3, d4, d5, DataW.slice e2 s2]).weights Try.prog 41 := by
        simp [DataW.weights, DataW.weightsEach, Try.underlying41, Try.underlying22]
      have := List.all_eq_true.1 hsz _ (DataW.weights_mem_each ht hd _ hw)
      rw [bytes5] at this
      simp [reachBytes] at this
      omega
theorem cells46 : Try.prog.cellsOf 46 = 5 := by kernel_rfl
abbrev agncells (n0 : Int) (n1 : Int) (n2 : Int) (s3 : Sv) (s4 : Sv) : Array Value := #[.int .i64 n0, .int .i64 n1, .int .i64 n2, .slice s3.a s3.n s3.c, .slice s4.a s4.n s4.c]
structure agnCame {H : Type} (W : World) (n0 : Int) (n1 : Int) (n2 : Int) (s3 : Sv) (s4 : Sv) (z3 z4 : List Int) (x : DataW H) : Prop where
  i3 : In W s3 z3
  i4 : In W s4 z4
  c3 : s3.n ≤ s3.c
  c4 : s4.n ≤ s4.c
  b0 : -9223372036854775808 ≤ n0 ∧ n0 ≤ 9223372036854775807
  b1 : -9223372036854775808 ≤ n1 ∧ n1 ≤ 9223372036854775807
  b2 : -9223372036854775808 ≤ n2 ∧ n2 ≤ 9223372036854775807
  l : ∃ d0 d1 d2 d3 d4, x = .agg [d0, d1, d2, d3, d4] ∧ LenOf s3.n d3 ∧ LenOf s4.n d4
theorem agn_trod {H : Type} {enc : TypeId × Value → H} {W : World} {fuel : Nat} {cs : List Value} {x : DataW H × List MemPlace}
    (h : DataW.trod enc Try.prog W 0 (fun _ => true) true fuel 46 cs = some x) (hlen : cs.length = 5) :
    ∃ (n0 : Int) (n1 : Int) (n2 : Int) (s3 : Sv) (s4 : Sv) (z3 z4 : List Int), cs = (agncells n0 n1 n2 s3 s4).toList ∧ agnCame W n0 n1 n2 s3 s4 z3 z4 x.1 := by
  obtain ⟨xs, k, hk, hxy, _, hxl, hf⟩ := DataW.trod_struct Try.underlying46 h
  match xs, hxl, cs, hlen with
  | [y0, y1, y2, y3, y4], _, [v0, v1, v2, v3, v4], _ =>
    have g0 := hf 0 _ rfl
    have g1 := hf 1 _ rfl
    have g2 := hf 2 _ rfl
    have g3 := hf 3 _ rfl
    have g4 := hf 4 _ rfl
    simp [cells22, cells3] at g0 g1 g2 g3 g4
    obtain ⟨n0, k0, _, w0⟩ := DataW.trod_int Try.underlying3 g0
    obtain ⟨n1, k1, _, w1⟩ := DataW.trod_int Try.underlying3 g1
    obtain ⟨n2, k2, _, w2⟩ := DataW.trod_int Try.underlying3 g2
    obtain ⟨s3, z3, k3, i3, c3, e3⟩ := trod_bytes g3
    obtain ⟨s4, z4, k4, i4, c4, e4⟩ := trod_bytes g4
    simp only [List.cons.injEq, and_true] at k0 k1 k2
    subst k0 k1 k2 k3 k4
    refine ⟨n0, n1, n2, s3, s4, z3, z4, rfl, i3, i4, c3, c4, wf_i64 w0, wf_i64 w1, wf_i64 w2, y0.1, y1.1, y2.1, y3.1, y4.1, ?_, e3, e4⟩
    rw [hxy]; rfl
theorem agn_open {H : Type} {enc : TypeId × Value → H} {W : World} {cs : Array Value} {x : DataW H} {p : List MemPlace}
    (h : DataW.Trod enc Try.prog W 0 (fun _ => true) true 46 (.agg cs) x p) (hs : cs.size = Try.prog.cellsOf 46) : ∃ (n0 : Int) (n1 : Int) (n2 : Int) (s3 : Sv) (s4 : Sv) (z3 z4 : List Int), cs = agncells n0 n1 n2 s3 s4 ∧ agnCame W n0 n1 n2 s3 s4 z3 z4 x := by
  obtain ⟨fuel, hf⟩ := h
  rw [cells46] at hs
  obtain ⟨n0, n1, n2, s3, s4, z3, z4, hc, hm⟩ := agn_trod (cs := cs.toList) (by simpa [Value.cells] using hf) (by simpa using hs)
  exact ⟨n0, n1, n2, s3, s4, z3, z4, Array.toList_inj.1 hc, hm⟩
theorem agn_fit {H : Type} {ts : List TypeId} {es : List (DataW H)} {j : Nat} {W : World} {n0 : Int} {n1 : Int} {n2 : Int} {s3 : Sv} {s4 : Sv} {z3 z4 : List Int} {x : DataW H} (hsz : (DataW.weightsEach Try.prog ts es).all (· ≤ reachBytes) = true) (ht : ts[j]? = some 46) (hd : es[j]? = some x)
    (h : agnCame W n0 n1 n2 s3 s4 z3 z4 x) : s3.n ≤ 140737488351232 ∧ s4.n ≤ 140737488351232 := by
  obtain ⟨d0, d1, d2, d3, d4, rfl, h3, h4⟩ := h.l
  refine ⟨?_, ?_⟩
  · rcases h3 with h0 | ⟨e2, s2, rfl, hle⟩
    · omega
    · have hw : (e2.length + s2.length) * Try.prog.bytesOf 5 ∈ (DataW.agg [d0, d1, d2, DataW.slice e2 s2, d4]).weights Try.prog 46 := by
        simp [DataW.weights, DataW.weightsEach, Try.underlying46, Try.underlying22]
      have := List.all_eq_true.1 hsz _ (DataW.weights_mem_each ht hd _ hw)
      rw [bytes5] at this
      simp [reachBytes] at this
      omega
  · rcases h4 with h0 | ⟨e2, s2, rfl, hle⟩
    · omega
    · have hw : (e2.length + s2.length) * Try.prog.bytesOf 5 ∈ (DataW.agg [d0, d1, d2, d3, DataW.slice e2 s2]).weights Try.prog 46 := by
        simp [DataW.weights, DataW.weightsEach, Try.underlying46, Try.underlying22]
      have := List.all_eq_true.1 hsz _ (DataW.weights_mem_each ht hd _ hw)
      rw [bytes5] at this
      simp [reachBytes] at this
      omega
end Go.Proofs.Ytnnjogfpapndaaa
