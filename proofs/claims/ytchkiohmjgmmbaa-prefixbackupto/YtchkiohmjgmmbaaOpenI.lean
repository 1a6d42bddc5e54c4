/-
  How arguments that are flat structs are opened: what their words hold, and that they are not too long. Used by the statements' last steps.
-/
import Derived.Test.YtchkiohmjgmmbaaOpen
import Derived.Test.YtchkiohmjgmmbaaCat
import Derived.Deep.SlicePairs
import Derived.ShutString
namespace Go.Proofs.Ytchkiohmjgmmbaa
open Go.ChangeShapes Go.WideShapes Go.ChangeAt Go.RowKit Go.Deep
set_option linter.unusedVariables false
set_option linter.unusedSimpArgs false
set_option maxRecDepth 20000

theorem cells3 : Try.prog.cellsOf 3 = 1 := by kernel_rfl
theorem cells4 : Try.prog.cellsOf 4 = 1 := by kernel_rfl
theorem cells9 : Try.prog.cellsOf 9 = 1 := by kernel_rfl
theorem cells22 : Try.prog.cellsOf 22 = 1 := by kernel_rfl
theorem wf_i64 {n : Int} (h : (Lit.int .i64 n).wf = true) : -9223372036854775808 ≤ n ∧ n ≤ 9223372036854775807 := by
  simpa [Lit.wf, IntKind.min, IntKind.max, IntKind.signed, IntKind.bits] using h
theorem bulk_agg {H : Type} (l : List (DataW H)) : Rows.uptoBulk (DataW.agg l : DataW H) = Rows.uptoBulkAll l + 1 := by simp only [Rows.uptoBulk]
/-- How long a slice is, by its data. -/
def LenOf {H : Type} (n : Nat) (d : DataW H) : Prop := n = 0 ∨ ∃ elems spare, d = .slice elems spare ∧ n ≤ elems.length + spare.length
theorem trod_bytes {H : Type} {enc : TypeId × Value → H} {W : World} {fuel : Nat} {v : Value} {x : DataW H × List MemPlace}
    (h : DataW.trod enc Try.prog W 0 (fun _ => true) true fuel 22 [v] = some x) :
    ∃ (s : Sv) (zs : List Int), v = .slice s.a s.n s.c ∧ In W s zs ∧ s.n ≤ s.c ∧ LenOf s.n x.1 := by
  have hv : ∃ a2 l2 c2, v = .slice a2 l2 c2 := by
    rcases open_ints Try.underlying22 Try.underlying5 cells5 h with ⟨hcs, _⟩ | ⟨y, l, c, zs, hcs, _⟩
    · simp at hcs; exact ⟨_, _, _, hcs⟩
    · simp at hcs; exact ⟨_, _, _, hcs⟩
  obtain ⟨a, len, cap, rfl⟩ := hv
  have h2 : DataW.Trod enc Try.prog W 0 (fun _ => true) true 22 (.slice a len cap) x.1 x.2 := ⟨fuel, by simpa [Value.cells] using h⟩
  obtain ⟨zs, q1, q2, q3, q4, q5, q6⟩ := open_bytes h2
  exact ⟨⟨a, len, cap⟩, zs, rfl, ⟨q2, q1, q3⟩, q4, q6⟩
theorem cells45 : Try.prog.cellsOf 45 = 6 := by kernel_rfl
abbrev itcells (n0 : Int) (t1 : ByteArray) (n2 : Int) (n3 : Int) (s4 : Sv) (s5 : Sv) : Array Value := #[.int .i64 n0, .string t1, .int .i64 n2, .int .u8 n3, .slice s4.a s4.n s4.c, .slice s5.a s5.n s5.c]
structure itCame {H : Type} (W : World) (n0 : Int) (t1 : ByteArray) (n2 : Int) (n3 : Int) (s4 : Sv) (s5 : Sv) (z4 z5 : List Int) (x : DataW H) : Prop where
  i4 : In W s4 z4
  i5 : In W s5 z5
  c4 : s4.n ≤ s4.c
  c5 : s5.n ≤ s5.c
  b0 : -9223372036854775808 ≤ n0 ∧ n0 ≤ 9223372036854775807
  b1 : t1.size ≤ maxLen
  b2 : -9223372036854775808 ≤ n2 ∧ n2 ≤ 9223372036854775807
  b3 : 0 ≤ n3 ∧ n3 < 256
  l : ∃ d0 d1 d2 d3 d4 d5, x = .agg [d0, d1, d2, d3, d4, d5] ∧ LenOf s4.n d4 ∧ LenOf s5.n d5
theorem it_trod {H : Type} {enc : TypeId × Value → H} {W : World} {fuel : Nat} {cs : List Value} {x : DataW H × List MemPlace}
    (h : DataW.trod enc Try.prog W 0 (fun _ => true) true fuel 45 cs = some x) (hlen : cs.length = 6) :
    ∃ (n0 : Int) (t1 : ByteArray) (n2 : Int) (n3 : Int) (s4 : Sv) (s5 : Sv) (z4 z5 : List Int), cs = (itcells n0 t1 n2 n3 s4 s5).toList ∧ itCame W n0 t1 n2 n3 s4 s5 z4 z5 x.1 := by
  obtain ⟨xs, k, hk, hxy, _, hxl, hf⟩ := DataW.trod_struct Try.underlying45 h
  match xs, hxl, cs, hlen with
  | [y0, y1, y2, y3, y4, y5], _, [v0, v1, v2, v3, v4, v5], _ =>
    have g0 := hf 0 _ rfl
    have g1 := hf 1 _ rfl
    have g2 := hf 2 _ rfl
    have g3 := hf 3 _ rfl
    have g4 := hf 4 _ rfl
    have g5 := hf 5 _ rfl
    simp [cells22, cells3, cells5, cells9, cells4] at g0 g1 g2 g3 g4 g5
    obtain ⟨n0, k0, _, w0⟩ := DataW.trod_int Try.underlying3 g0
    obtain ⟨t1, k1, _, w1⟩ := DataW.trod_string Try.underlying9 g1
    obtain ⟨n2, k2, _, w2⟩ := DataW.trod_int Try.underlying3 g2
    obtain ⟨n3, k3, _, w3⟩ := DataW.trod_int Try.underlying5 g3
    obtain ⟨s4, z4, k4, i4, c4, e4⟩ := trod_bytes g4
    obtain ⟨s5, z5, k5, i5, c5, e5⟩ := trod_bytes g5
    simp only [List.cons.injEq, and_true] at k0 k1 k2 k3
    subst k0 k1 k2 k3 k4 k5
    refine ⟨n0, t1, n2, n3, s4, s5, z4, z5, rfl, i4, i5, c4, c5, wf_i64 w0, w1, wf_i64 w2, wf_u8 w3, y0.1, y1.1, y2.1, y3.1, y4.1, y5.1, ?_, e4, e5⟩
    rw [hxy]; rfl
theorem it_open {H : Type} {enc : TypeId × Value → H} {W : World} {cs : Array Value} {x : DataW H} {p : List MemPlace}
    (h : DataW.Trod enc Try.prog W 0 (fun _ => true) true 45 (.agg cs) x p) (hs : cs.size = Try.prog.cellsOf 45) : ∃ (n0 : Int) (t1 : ByteArray) (n2 : Int) (n3 : Int) (s4 : Sv) (s5 : Sv) (z4 z5 : List Int), cs = itcells n0 t1 n2 n3 s4 s5 ∧ itCame W n0 t1 n2 n3 s4 s5 z4 z5 x := by
  obtain ⟨fuel, hf⟩ := h
  rw [cells45] at hs
  obtain ⟨n0, t1, n2, n3, s4, s5, z4, z5, hc, hm⟩ := it_trod (cs := cs.toList) (by simpa [Value.cells] using hf) (by simpa using hs)
  exact ⟨n0, t1, n2, n3, s4, s5, z4, z5, Array.toList_inj.1 hc, hm⟩
theorem it_bulk {H : Type} {l : List (DataW H)} {W : World} {n0 : Int} {t1 : ByteArray} {n2 : Int} {n3 : Int} {s4 : Sv} {s5 : Sv} {z4 z5 : List Int} {x : DataW H} (hk : Rows.uptoSmall H l = true) (hd : x ∈ l)
    (h : itCame W n0 t1 n2 n3 s4 s5 z4 z5 x) : s4.n ≤ 1048576 ∧ s5.n ≤ 1048576 := by
  obtain ⟨d0, d1, d2, d3, d4, d5, rfl, h4, h5⟩ := h.l
  have hb : Rows.uptoBulkAll l ≤ 1048576 := of_decide_eq_true hk
  have h1 := bulk_mem hd
  rw [bulk_agg] at h1
  refine ⟨?_, ?_⟩
  · rcases h4 with h0 | ⟨e2, s2, rfl, hle⟩
    · omega
    · have h2 := bulk_mem (d := DataW.slice e2 s2) (l := [d0, d1, d2, d3, DataW.slice e2 s2, d5]) (by simp)
      have h3 := bulk_all e2
      have h4 := bulk_all s2
      rw [Rows.uptoBulk] at h2
      omega
  · rcases h5 with h0 | ⟨e2, s2, rfl, hle⟩
    · omega
    · have h2 := bulk_mem (d := DataW.slice e2 s2) (l := [d0, d1, d2, d3, d4, DataW.slice e2 s2]) (by simp)
      have h3 := bulk_all e2
      have h4 := bulk_all s2
      rw [Rows.uptoBulk] at h2
      omega
end Go.Proofs.Ytchkiohmjgmmbaa
