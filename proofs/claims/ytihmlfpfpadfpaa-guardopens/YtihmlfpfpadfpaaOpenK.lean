/-
  How arguments that are packets to be protected, or sealed ones, are opened: what their words hold, and that they are not too long. Used by the statements' last steps.
-/
import Derived.Test.YtihmlfpfpadfpaaOpen
import Derived.Test.YtihmlfpfpadfpaaKys
import Derived.Deep.SlicePairs
namespace Go.Proofs.Ytihmlfpfpadfpaa
open Go.ChangeShapes Go.WideShapes Go.ChangeAt Go.RowKit Go.Deep
set_option linter.unusedVariables false
set_option maxRecDepth 20000

theorem cells3 : Try.prog.cellsOf 3 = 1 := by kernel_rfl
theorem cells22 : Try.prog.cellsOf 22 = 1 := by kernel_rfl
theorem cells30 : Try.prog.cellsOf 30 = 3 := by kernel_rfl
theorem cells44 : Try.prog.cellsOf 44 = 7 := by kernel_rfl
theorem cells51 : Try.prog.cellsOf 51 = 6 := by kernel_rfl
theorem wf_i64 {n : Int} (h : (Lit.int .i64 n).wf = true) : -9223372036854775808 ≤ n ∧ n ≤ 9223372036854775807 := by
  simpa [Lit.wf, IntKind.min, IntKind.max, IntKind.signed, IntKind.bits] using h
/-- How long a slice is, by its data. -/
def LenOf {H : Type} (n : Nat) (d : DataW H) : Prop := n = 0 ∨ ∃ elems spare, d = .slice elems spare ∧ n ≤ elems.length + spare.length
theorem trod_bytes {H : Type} {enc : TypeId × Value → H} {W : World} {fuel : Nat} {v : Value} {x : DataW H × List MemPlace}
    (h : DataW.trod enc Try.prog W 0 (fun _ => true) true fuel 22 [v] = some x) :
    ∃ (s : Sv) (zs : List Int), v = .slice s.a s.n s.c ∧ In W s zs ∧ s.n ≤ s.c ∧ LenOf s.n x.1 := by
  have hv : ∃ a2 l2 c2, v = .slice a2 l2 c2 := by
    rcases open_ints Try.underlying22 Try.underlying5 cells5 h with ⟨hcs, _⟩ | ⟨y, l, c, zs, hcs, _⟩
    · simp at hcs; exact ⟨_, _, _, hcs⟩
    · simp at hcs; exact ⟨_, _, _, hcs⟩
  obtain ⟨a, len, cap, rfl⟩ := hv
  have h2 : DataW.Trod enc Try.prog W 0 (fun _ => true) true 22 (.slice a len cap) x.1 x.2 := ⟨fuel, by simpa [Value.cells] using h⟩
  obtain ⟨zs, q1, q2, q3, q4, q5, q6⟩ := open_bytes h2
  exact ⟨⟨a, len, cap⟩, zs, rfl, ⟨q2, q1, q3⟩, q4, q6⟩
theorem trod_keys {H : Type} {enc : TypeId × Value → H} {W : World} {fuel : Nat} {v0 v1 v2 : Value} {x : DataW H × List MemPlace}
    (h : DataW.trod enc Try.prog W 0 (fun _ => true) true fuel 30 [v0, v1, v2] = some x) :
    ∃ (k i h : Sv) (kz iz hz : List Int), v0 = .slice k.a k.n k.c ∧ v1 = .slice i.a i.n i.c ∧ v2 = .slice h.a h.n h.c ∧ KI W k i h kz iz hz ∧ ∃ d0 d1 d2, x.1 = .agg [d0, d1, d2] ∧ LenOf k.n d0 ∧ LenOf i.n d1 ∧ LenOf h.n d2 := by
  obtain ⟨xs, k, hk, hxy, _, hxl, hf⟩ := DataW.trod_struct Try.underlying30 h
  match xs, hxl with
  | [y0, y1, y2], _ =>
    have g0 := hf 0 _ rfl
    have g1 := hf 1 _ rfl
    have g2 := hf 2 _ rfl
    simp [cells22] at g0 g1 g2
    obtain ⟨s0, z0, k0, i0, c0, e0⟩ := trod_bytes g0
    obtain ⟨s1, z1, k1, i1, c1, e1⟩ := trod_bytes g1
    obtain ⟨s2, z2, k2, i2, c2, e2⟩ := trod_bytes g2
    refine ⟨s0, s1, s2, z0, z1, z2, k0, k1, k2, ⟨i0, i1, i2⟩, y0.1, y1.1, y2.1, ?_, e0, e1, e2⟩
    rw [hxy]; rfl
/-- The words of a packet to be protected, and of a sealed one. -/
abbrev pcells (k i h hd pl : Sv) (num wd : Int) : Array Value := #[.slice k.a k.n k.c, .slice i.a i.n i.c, .slice h.a h.n h.c, .slice hd.a hd.n hd.c, .slice pl.a pl.n pl.c, .int .i64 num, .int .i64 wd]
abbrev scells (k i h pk : Sv) (at_ high : Int) : Array Value := #[.slice k.a k.n k.c, .slice i.a i.n i.c, .slice h.a h.n h.c, .slice pk.a pk.n pk.c, .int .i64 at_, .int .i64 high]
structure CameP {H : Type} (W : World) (k i h hd pl : Sv) (num wd : Int) (kz iz hz hs ps : List Int) (d : DataW H) : Prop where
  ck : KI W k i h kz iz hz
  ch : In W hd hs
  cp : In W pl ps
  cn : -9223372036854775808 ≤ num ∧ num ≤ 9223372036854775807
  cw : -9223372036854775808 ≤ wd ∧ wd ≤ 9223372036854775807
  l : ∃ d0 d1 d2 d3 d4 d5 d6, d = .agg [.agg [d0, d1, d2], d3, d4, d5, d6] ∧ LenOf k.n d0 ∧ LenOf i.n d1 ∧ LenOf h.n d2 ∧ LenOf hd.n d3 ∧ LenOf pl.n d4
structure CameS {H : Type} (W : World) (k i h pk : Sv) (at_ high : Int) (kz iz hz ps : List Int) (d : DataW H) : Prop where
  ck : KI W k i h kz iz hz
  cp : In W pk ps
  cc : pk.n ≤ pk.c
  cn : -9223372036854775808 ≤ at_ ∧ at_ ≤ 9223372036854775807
  l : ∃ d0 d1 d2 d3 d4 d5, d = .agg [.agg [d0, d1, d2], d3, d4, d5] ∧ LenOf k.n d0 ∧ LenOf i.n d1 ∧ LenOf h.n d2 ∧ LenOf pk.n d3
theorem trod_packet {H : Type} {enc : TypeId × Value → H} {W : World} {fuel : Nat} {cs : List Value} {x : DataW H × List MemPlace}
    (h : DataW.trod enc Try.prog W 0 (fun _ => true) true fuel 44 cs = some x) (hlen : cs.length = 7) :
    ∃ (k i h hd pl : Sv) (num wd : Int) (kz iz hz hs ps : List Int), cs = (pcells k i h hd pl num wd).toList ∧ CameP W k i h hd pl num wd kz iz hz hs ps x.1 := by
  obtain ⟨xs, k, hk, hxy, _, hxl, hf⟩ := DataW.trod_struct Try.underlying44 h
  match xs, hxl, cs, hlen with
  | [y0, y1, y2, y3, y4], _, [v0, v1, v2, v3, v4, v5, v6], _ =>
    have g0 := hf 0 _ rfl
    have g1 := hf 1 _ rfl
    have g2 := hf 2 _ rfl
    have g3 := hf 3 _ rfl
    have g4 := hf 4 _ rfl
    simp [cells3, cells22, cells30] at g0 g1 g2 g3 g4
    obtain ⟨sk, si, sh, kz, iz, hz, rfl, rfl, rfl, ki, e0, e1, e2, hk0, l0, l1, l2⟩ := trod_keys g0
    obtain ⟨s1, z1, k1, i1, c1, e3⟩ := trod_bytes g1
    obtain ⟨s2, z2, k2, i2, c2, e4⟩ := trod_bytes g2
    obtain ⟨n3, k3, _, w3⟩ := DataW.trod_int Try.underlying3 g3
    obtain ⟨n4, k4, _, w4⟩ := DataW.trod_int Try.underlying3 g4
    simp only [List.cons.injEq, and_true] at k3 k4
    subst k1 k2 k3 k4
    refine ⟨sk, si, sh, s1, s2, n3, n4, kz, iz, hz, z1, z2, rfl, ki, i1, i2, wf_i64 w3, wf_i64 w4, e0, e1, e2, y1.1, y2.1, y3.1, y4.1, ?_, l0, l1, l2, e3, e4⟩
    rw [hxy, ← hk0]; rfl
theorem trod_sealed {H : Type} {enc : TypeId × Value → H} {W : World} {fuel : Nat} {cs : List Value} {x : DataW H × List MemPlace}
    (h : DataW.trod enc Try.prog W 0 (fun _ => true) true fuel 51 cs = some x) (hlen : cs.length = 6) :
    ∃ (k i h pk : Sv) (at_ high : Int) (kz iz hz ps : List Int), cs = (scells k i h pk at_ high).toList ∧ CameS W k i h pk at_ high kz iz hz ps x.1 := by
  obtain ⟨xs, k, hk, hxy, _, hxl, hf⟩ := DataW.trod_struct Try.underlying51 h
  match xs, hxl, cs, hlen with
  | [y0, y1, y3, y4], _, [v0, v1, v2, v3, v5, v6], _ =>
    have g0 := hf 0 _ rfl
    have g1 := hf 1 _ rfl
    have g3 := hf 2 _ rfl
    have g4 := hf 3 _ rfl
    simp [cells3, cells22, cells30] at g0 g1 g3 g4
    obtain ⟨sk, si, sh, kz, iz, hz, rfl, rfl, rfl, ki, e0, e1, e2, hk0, l0, l1, l2⟩ := trod_keys g0
    obtain ⟨s1, z1, k1, i1, c1, e3⟩ := trod_bytes g1
    obtain ⟨n3, k3, _, w3⟩ := DataW.trod_int Try.underlying3 g3
    obtain ⟨n4, k4, _, w4⟩ := DataW.trod_int Try.underlying3 g4
    simp only [List.cons.injEq, and_true] at k3 k4
    subst k1 k3 k4
    refine ⟨sk, si, sh, s1, n3, n4, kz, iz, hz, z1, rfl, ki, i1, c1, wf_i64 w3, e0, e1, e2, y1.1, y3.1, y4.1, ?_, l0, l1, l2, e3⟩
    rw [hxy, ← hk0]; rfl
theorem open_packet {H : Type} {enc : TypeId × Value → H} {W : World} {cs : Array Value} {x : DataW H} {p : List MemPlace}
    (h : DataW.Trod enc Try.prog W 0 (fun _ => true) true 44 (.agg cs) x p) (hs : cs.size = Try.prog.cellsOf 44) : ∃ (k i h hd pl : Sv) (num wd : Int) (kz iz hz hs ps : List Int), cs = pcells k i h hd pl num wd ∧ CameP W k i h hd pl num wd kz iz hz hs ps x := by
  obtain ⟨fuel, hf⟩ := h
  rw [cells44] at hs
  obtain ⟨k, i, h, hd, pl, num, wd, kz, iz, hz, hs', ps, hc, hm⟩ := trod_packet (cs := cs.toList) (by simpa [Value.cells] using hf) (by simpa using hs)
  exact ⟨k, i, h, hd, pl, num, wd, kz, iz, hz, hs', ps, Array.toList_inj.1 hc, hm⟩
theorem open_sealed {H : Type} {enc : TypeId × Value → H} {W : World} {cs : Array Value} {x : DataW H} {p : List MemPlace}
    (h : DataW.Trod enc Try.prog W 0 (fun _ => true) true 51 (.agg cs) x p) (hs : cs.size = Try.prog.cellsOf 51) : ∃ (k i h pk : Sv) (at_ high : Int) (kz iz hz ps : List Int), cs = scells k i h pk at_ high ∧ CameS W k i h pk at_ high kz iz hz ps x := by
  obtain ⟨fuel, hf⟩ := h
  rw [cells51] at hs
  obtain ⟨k, i, h, pk, at_, high, kz, iz, hz, ps, hc, hm⟩ := trod_sealed (cs := cs.toList) (by simpa [Value.cells] using hf) (by simpa using hs)
  exact ⟨k, i, h, pk, at_, high, kz, iz, hz, ps, Array.toList_inj.1 hc, hm⟩

theorem packet_fit {H : Type} {ts : List TypeId} {es : List (DataW H)} {j : Nat} {W : World} {k i h hdr pl : Sv} {num wd : Int} {kz iz hz hs ps : List Int} {x : DataW H} (hsz : (DataW.weightsEach Try.prog ts es).all (· ≤ reachBytes) = true) (ht : ts[j]? = some 44) (hd : es[j]? = some x)
    (hc : CameP W k i h hdr pl num wd kz iz hz hs ps x) : k.n ≤ 140737488351232 ∧ i.n ≤ 140737488351232 ∧ h.n ≤ 140737488351232 ∧ hdr.n ≤ 140737488351232 ∧ pl.n ≤ 140737488351232 := by
  obtain ⟨d0, d1, d2, d3, d4, d5, d6, rfl, h0, h1, h2, h3, h4⟩ := hc.l
  refine ⟨?_, ?_, ?_, ?_, ?_⟩
  · rcases h0 with h0 | ⟨e2, s2, rfl, hle⟩
    · omega
    · have hw : (e2.length + s2.length) * Try.prog.bytesOf 5 ∈ (DataW.agg [.agg [DataW.slice e2 s2, d1, d2], d3, d4, d5, d6]).weights Try.prog 44 := by
        simp [DataW.weights, DataW.weightsEach, Try.underlying44, Try.underlying30, Try.underlying22]
      have := List.all_eq_true.1 hsz _ (DataW.weights_mem_each ht hd _ hw)
      rw [bytes5] at this
      simp [reachBytes] at this
      omega
  · rcases h1 with h0 | ⟨e2, s2, rfl, hle⟩
    · omega
    · have hw : (e2.length + s2.length) * Try.prog.bytesOf 5 ∈ (DataW.agg [.agg [d0, DataW.slice e2 s2, d2], d3, d4, d5, d6]).weights Try.prog 44 := by
        simp [DataW.weights, DataW.weightsEach, Try.underlying44, Try.underlying30, Try.underlying22]
      have := List.all_eq_true.1 hsz _ (DataW.weights_mem_each ht hd _ hw)
      rw [bytes5] at this
      simp [reachBytes] at this
      omega
  · rcases h2 with h0 | ⟨e2, s2, rfl, hle⟩
    · omega
    · have hw : (e2.length + s2.length) * Try.prog.bytesOf 5 ∈ (DataW.agg [.agg [d0, d1, DataW.slice e2 s2], d3, d4, d5, d6]).weights Try.prog 44 := by
        simp [DataW.weights, DataW.weightsEach, Try.underlying44, Try.underlying30, Try.underlying22]
      have := List.all_eq_true.1 hsz _ (DataW.weights_mem_each ht hd _ hw)
      rw [bytes5] at this
      simp [reachBytes] at this
      omega
  · rcases h3 with h0 | ⟨e2, s2, rfl, hle⟩
    · omega
    · have hw : (e2.length + s2.length) * Try.prog.bytesOf 5 ∈ (DataW.agg [.agg [d0, d1, d2], DataW.slice e2 s2, d4, d5, d6]).weights Try.prog 44 := by
        simp [DataW.weights, DataW.weightsEach, Try.underlying44, Try.underlying30, Try.underlying22]
      have := List.all_eq_true.1 hsz _ (DataW.weights_mem_each ht hd _ hw)
      rw [bytes5] at this
      simp [reachBytes] at this
      omega
  · rcases h4 with h0 | ⟨e2, s2, rfl, hle⟩
    · omega
    · have hw : (e2.length + s2.length) * Try.prog.bytesOf 5 ∈ (DataW.agg [.agg [d0, d1, d2], d3, DataW.slice e2 s2, d5, d6]).weights Try.prog 44 := by
        simp [DataW.weights, DataW.weightsEach, Try.underlying44, Try.underlying30, Try.underlying22]
      have := List.all_eq_true.1 hsz _ (DataW.weights_mem_each ht hd _ hw)
      rw [bytes5] at this
      simp [reachBytes] at this
      omega

theorem sealed_fit {H : Type} {ts : List TypeId} {es : List (DataW H)} {j : Nat} {W : World} {k i h pk : Sv} {at_ high : Int} {kz iz hz ps : List Int} {x : DataW H} (hsz : (DataW.weightsEach Try.prog ts es).all (· ≤ reachBytes) = true) (ht : ts[j]? = some 51) (hd : es[j]? = some x)
    (hc : CameS W k i h pk at_ high kz iz hz ps x) : k.n ≤ 140737488351232 ∧ i.n ≤ 140737488351232 ∧ h.n ≤ 140737488351232 ∧ pk.n ≤ 140737488351232 := by
  obtain ⟨d0, d1, d2, d3, d4, d5, rfl, h0, h1, h2, h3⟩ := hc.l
  refine ⟨?_, ?_, ?_, ?_⟩
  · rcases h0 with h0 | ⟨e2, s2, rfl, hle⟩
    · omega
    · have hw : (e2.length + s2.length) * Try.prog.bytesOf 5 ∈ (DataW.agg [.agg [DataW.slice e2 s2, d1, d2], d3, d4, d5]).weights Try.prog 51 := by
        simp [DataW.weights, DataW.weightsEach, Try.underlying51, Try.underlying30, Try.underlying22]
      have := List.all_eq_true.1 hsz _ (DataW.weights_mem_each ht hd _ hw)
      rw [bytes5] at this
      simp [reachBytes] at this
      omega
  · rcases h1 with h0 | ⟨e2, s2, rfl, hle⟩
    · omega
    · have hw : (e2.length + s2.length) * Try.prog.bytesOf 5 ∈ (DataW.agg [.agg [d0, DataW.slice e2 s2, d2], d3, d4, d5]).weights Try.prog 51 := by
        simp [DataW.weights, DataW.weightsEach, Try.underlying51, Try.underlying30, Try.underlying22]
      have := List.all_eq_true.1 hsz _ (DataW.weights_mem_each ht hd _ hw)
      rw [bytes5] at this
      simp [reachBytes] at this
      omega
  · rcases h2 with h0 | ⟨e2, s2, rfl, hle⟩
    · omega
    · have hw : (e2.length + s2.length) * Try.prog.bytesOf 5 ∈ (DataW.agg [.agg [d0, d1, DataW.slice e2 s2], d3, d4, d5]).weights Try.prog 51 := by
        simp [DataW.weights, DataW.weightsEach, Try.underlying51, Try.underlying30, Try.underlying22]
      have := List.all_eq_true.1 hsz _ (DataW.weights_mem_each ht hd _ hw)
      rw [bytes5] at this
      simp [reachBytes] at this
      omega
  · rcases h3 with h0 | ⟨e2, s2, rfl, hle⟩
    · omega
    · have hw : (e2.length + s2.length) * Try.prog.bytesOf 5 ∈ (DataW.agg [.agg [d0, d1, d2], DataW.slice e2 s2, d4, d5]).weights Try.prog 51 := by
        simp [DataW.weights, DataW.weightsEach, Try.underlying51, Try.underlying30, Try.underlying22]
      have := List.all_eq_true.1 hsz _ (DataW.weights_mem_each ht hd _ hw)
      rw [bytes5] at this
      simp [reachBytes] at this
      omega

end Go.Proofs.Ytihmlfpfpadfpaa
