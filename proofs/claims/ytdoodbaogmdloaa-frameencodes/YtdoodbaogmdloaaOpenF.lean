/-
  How an argument that is a frame is opened: what its words hold, and that they are not too long. Used by the statements' last steps.
-/
import Derived.Test.YtdoodbaogmdloaaOpen
import Derived.Test.YtdoodbaogmdloaaCopied
import Derived.Deep.SlicePairs
namespace Go.Proofs.Ytdoodbaogmdloaa
open Go.ChangeShapes Go.WideShapes Go.ChangeAt Go.RowKit Go.Deep
set_option linter.unusedVariables false
set_option maxRecDepth 20000

theorem cells3 : Try.prog.cellsOf 3 = 1 := by kernel_rfl
theorem cells4 : Try.prog.cellsOf 4 = 1 := by kernel_rfl
theorem cells22 : Try.prog.cellsOf 22 = 1 := by kernel_rfl
theorem cells23 : Try.prog.cellsOf 23 = 1 := by kernel_rfl
theorem cells24 : Try.prog.cellsOf 24 = 3 := by kernel_rfl
theorem cells26 : Try.prog.cellsOf 26 = 13 := by kernel_rfl
theorem cells77 : Try.prog.cellsOf 77 = 2 := by kernel_rfl
theorem bytes77 : Try.prog.bytesOf 77 = 16 := by kernel_rfl

theorem wf_i64 {n : Int} (h : (Lit.int .i64 n).wf = true) : -9223372036854775808 ≤ n ∧ n ≤ 9223372036854775807 := by
  simpa [Lit.wf, IntKind.min, IntKind.max, IntKind.signed, IntKind.bits] using h

/-- How long a slice is, by its data. -/
def LenOf {H : Type} (n : Nat) (d : DataW H) : Prop := n = 0 ∨ ∃ elems spare, d = .slice elems spare ∧ n ≤ elems.length + spare.length

theorem trod_bytes {H : Type} {enc : TypeId × Value → H} {W : World} {fuel : Nat} {v : Value} {x : DataW H × List MemPlace}
    (h : DataW.trod enc Try.prog W 0 (fun _ => true) true fuel 22 [v] = some x) :
    ∃ (s : Sv) (zs : List Int), v = .slice s.a s.n s.c ∧ zs.length = s.n ∧ Seg W s.a zs ∧ (∀ y ∈ zs, 0 ≤ y ∧ y < 256) ∧ LenOf s.n x.1 := by
  have hv : ∃ a2 l2 c2, v = .slice a2 l2 c2 := by
    rcases open_ints Try.underlying22 Try.underlying5 cells5 h with ⟨hcs, _⟩ | ⟨y, l, c, zs, hcs, _⟩
    · simp at hcs; exact ⟨_, _, _, hcs⟩
    · simp at hcs; exact ⟨_, _, _, hcs⟩
  obtain ⟨a, len, cap, rfl⟩ := hv
  have h2 : DataW.Trod enc Try.prog W 0 (fun _ => true) true 22 (.slice a len cap) x.1 x.2 := ⟨fuel, by simpa [Value.cells] using h⟩
  obtain ⟨zs, q1, q2, q3, q4, q5, q6⟩ := open_bytes h2
  exact ⟨⟨a, len, cap⟩, zs, rfl, q1, q2, q3, q6⟩

theorem trod_spans {H : Type} {enc : TypeId × Value → H} {W : World} {fuel : Nat} {v : Value} {x : DataW H × List MemPlace}
    (h : DataW.trod enc Try.prog W 0 (fun _ => true) true fuel 23 [v] = some x) :
    ∃ (s : Sv) (zs : List (Int × Int)), v = .slice s.a s.n s.c ∧ zs.length = s.n ∧ SegS W s.a zs ∧ LenOf s.n x.1 := by
  rcases open_slice_pairs Try.underlying23 Try.underlying77 cells77 rfl rfl cells3 cells3 h with ⟨hcs, _⟩ | ⟨y, len, cap, m, n, V0, V1, D0, D1, P0, P1, hcs, _, hl, hm, hmm, hx, hcell⟩
  · simp at hcs
    exact ⟨⟨none, 0, 0⟩, [], hcs, rfl, fun h => absurd rfl h, .inl rfl⟩
  · simp at hcs
    subst hx
    have hm' : m = cap := by simpa using hmm
    have e : ∀ i, i < len → ∃ q : Int × Int, V0 i = .int .i64 q.1 ∧ V1 i = .int .i64 q.2 := by
      intro i hi
      obtain ⟨_, _, h0, h1⟩ := hcell i (by omega)
      obtain ⟨n0, e0, _, _⟩ := DataW.trod_int Try.underlying3 h0
      obtain ⟨n1, e1, _, _⟩ := DataW.trod_int Try.underlying3 h1
      simp only [List.cons.injEq, and_true] at e0 e1
      exact ⟨(n0, n1), e0, e1⟩
    obtain ⟨f, hf'⟩ := choose_lt e
    refine ⟨⟨some y, len, cap⟩, (List.range len).map f, hcs, by simp, ?_, .inr ⟨_, _, rfl, by simp⟩⟩
    intro hne
    have hlen : 0 < len := by
      cases len with
      | zero => simp at hne
      | succ k => omega
    obtain ⟨b, off, spot⟩ := y
    have hc := (hcell 0 (by omega)).1
    have hspot : spot = none := by simpa [Addr.add] using World.cell?_spot hc
    subst hspot
    refine ⟨b, off, rfl, fun i hi => ?_⟩
    have hi' : i < len := by simpa using hi
    obtain ⟨h0, h1, _, _⟩ := hcell i (by omega)
    rw [addr_add] at h0 h1
    have eg : ((List.range len).map f).getD i (0, 0) = f i := by
      rw [List.getD_eq_getElem?_getD, List.getElem?_map, List.getElem?_range hi']; rfl
    rw [Nat.add_assoc, h0, h1, (hf' i hi').1, (hf' i hi').2, eg]
    exact ⟨rfl, rfl⟩

/-- What a frame that came in is. -/
structure Came {H : Type} (W : World) (f : Fr) (x y z : Sv) (d : DataW H) : Prop where
  h : Holds W f x y z
  bd : ∀ b ∈ f.data, 0 ≤ b ∧ b < 256
  bc : ∀ b ∈ f.cid, 0 ≤ b ∧ b < 256
  ld : ∃ d0 d1 d2 d3 d4 d5 d6 d7 d8 d9 d10, d = .agg [d0, d1, d2, d3, d4, d5, d6, d7, d8, d9, d10] ∧ LenOf x.n d6 ∧ LenOf y.n d7 ∧ LenOf z.n d8

theorem trod_frame {H : Type} {enc : TypeId × Value → H} {W : World} {fuel : Nat} {cs : List Value} {x : DataW H × List MemPlace}
    (h : DataW.trod enc Try.prog W 0 (fun _ => true) true fuel 26 cs = some x) (hlen : cs.length = 13) :
    ∃ (f : Fr) (d c s : Sv), cs = (fcells f d c s).toList ∧ Came W f d c s x.1 := by
  obtain ⟨xs, k, hk, hxy, _, hxl, hf⟩ := DataW.trod_struct Try.underlying26 h
  match xs, hxl, cs, hlen with
  | [y0, y1, y2, y3, y4, y5, y6, y7, y8, y9, y10], _, [v0, v1, v2, v3, v4, v5, v6, v7, v8, v9, v10, v11, v12], _ =>
    have g0 := hf 0 _ rfl
    have g1 := hf 1 _ rfl
    have g2 := hf 2 _ rfl
    have g3 := hf 3 _ rfl
    have g4 := hf 4 _ rfl
    have g5 := hf 5 _ rfl
    have g6 := hf 6 _ rfl
    have g7 := hf 7 _ rfl
    have g8 := hf 8 _ rfl
    have g9 := hf 9 _ rfl
    have g10 := hf 10 _ rfl
    simp [cells3, cells4, cells22, cells23, cells24] at g0 g1 g2 g3 g4 g5 g6 g7 g8 g9 g10
    obtain ⟨n0, k0, _, _⟩ := DataW.trod_int Try.underlying3 g0
    obtain ⟨n1, k1, _, _⟩ := DataW.trod_int Try.underlying3 g1
    obtain ⟨n2, k2, _, _⟩ := DataW.trod_int Try.underlying3 g2
    obtain ⟨n3, k3, _, _⟩ := DataW.trod_int Try.underlying3 g3
    obtain ⟨n4, k4, _, _⟩ := DataW.trod_int Try.underlying3 g4
    obtain ⟨b5, k5, _⟩ := DataW.trod_bool Try.underlying4 g5
    obtain ⟨s6, z6, k6, l6, h6, r6, e6⟩ := trod_bytes g6
    obtain ⟨s7, z7, k7, l7, h7, r7, e7⟩ := trod_bytes g7
    obtain ⟨s8, z8, k8, l8, h8, e8⟩ := trod_spans g8
    obtain ⟨n9, k9, _, _⟩ := DataW.trod_int Try.underlying3 g9
    obtain ⟨ys, m, _, hy, _, hyl, hg⟩ := DataW.trod_array Try.underlying24 g10
    match ys, hyl with
    | [u0, u1, u2], _ =>
      have t0 := hg 0 (by omega)
      have t1 := hg 1 (by omega)
      have t2 := hg 2 (by omega)
      simp [cells3] at t0 t1 t2
      obtain ⟨m0, i0, _, _⟩ := DataW.trod_int Try.underlying3 t0
      obtain ⟨m1, i1, _, _⟩ := DataW.trod_int Try.underlying3 t1
      obtain ⟨m2, i2, _, _⟩ := DataW.trod_int Try.underlying3 t2
      simp only [List.cons.injEq, and_true] at k0 k1 k2 k3 k4 k5 k9 i0 i1 i2
      subst k0 k1 k2 k3 k4 k5 k6 k7 k8 k9 i0 i1 i2
      refine ⟨⟨n0, n1, n2, n3, n4, b5, z6, z7, z8, n9, m0, m1, m2⟩, s6, s7, s8, rfl, ⟨l6, h6, l7, h7, l8, h8⟩, r6, r7, ?_⟩
      refine ⟨y0.1, y1.1, y2.1, y3.1, y4.1, y5.1, y6.1, y7.1, y8.1, y9.1, y10.1, ?_, e6, e7, e8⟩
      rw [hxy]; rfl

theorem open_frame {H : Type} {enc : TypeId × Value → H} {W : World} {cs : Array Value} {d : DataW H} {p : List MemPlace}
    (h : DataW.Trod enc Try.prog W 0 (fun _ => true) true 26 (.agg cs) d p) (hs : cs.size = Try.prog.cellsOf 26) : ∃ (f : Fr) (x y z : Sv), cs = fcells f x y z ∧ Came W f x y z d := by
  obtain ⟨fuel, hf⟩ := h
  rw [cells26] at hs
  obtain ⟨f, x, y, z, hc, hm⟩ := trod_frame (cs := cs.toList) (by simpa [Value.cells] using hf) (by simpa using hs)
  exact ⟨f, x, y, z, Array.toList_inj.1 hc, hm⟩

/-- .. and how long its slices are at most. -/
theorem came_fit {H : Type} {ts : List TypeId} {ds : List (DataW H)} {j : Nat} {W : World} {f : Fr} {x y z : Sv} {d : DataW H} (hsz : (DataW.weightsEach Try.prog ts ds).all (· ≤ reachBytes) = true) (ht : ts[j]? = some 26) (hd : ds[j]? = some d)
    (h : Came W f x y z d) : Fit W f x y z := by
  obtain ⟨d0, d1, d2, d3, d4, d5, d6, d7, d8, d9, d10, rfl, h6, h7, h8⟩ := h.ld
  refine ⟨h.h, ?_, ?_, ?_⟩
  · rcases h6 with h0 | ⟨e2, s2, rfl, hle⟩
    · omega
    · have hw : (e2.length + s2.length) * Try.prog.bytesOf 5 ∈ (DataW.agg [d0, d1, d2, d3, d4, d5, DataW.slice e2 s2, d7, d8, d9, d10]).weights Try.prog 26 := by
        simp [DataW.weights, DataW.weightsEach, Try.underlying26, Try.underlying22]
      have := List.all_eq_true.1 hsz _ (DataW.weights_mem_each ht hd _ hw)
      rw [bytes5] at this
      simp [reachBytes] at this
      omega
  · rcases h7 with h0 | ⟨e2, s2, rfl, hle⟩
    · omega
    · have hw : (e2.length + s2.length) * Try.prog.bytesOf 5 ∈ (DataW.agg [d0, d1, d2, d3, d4, d5, d6, DataW.slice e2 s2, d8, d9, d10]).weights Try.prog 26 := by
        simp [DataW.weights, DataW.weightsEach, Try.underlying26, Try.underlying22]
      have := List.all_eq_true.1 hsz _ (DataW.weights_mem_each ht hd _ hw)
      rw [bytes5] at this
      simp [reachBytes] at this
      omega
  · rcases h8 with h0 | ⟨e2, s2, rfl, hle⟩
    · omega
    · have hw : (e2.length + s2.length) * Try.prog.bytesOf 77 ∈ (DataW.agg [d0, d1, d2, d3, d4, d5, d6, d7, DataW.slice e2 s2, d9, d10]).weights Try.prog 26 := by
        simp [DataW.weights, DataW.weightsEach, Try.underlying26, Try.underlying23]
      have := List.all_eq_true.1 hsz _ (DataW.weights_mem_each ht hd _ hw)
      rw [bytes77] at this
      have h2 : (e2.length + s2.length) * 16 ≤ reachBytes := by simpa using this
      unfold reachBytes at h2
      omega
end Go.Proofs.Ytdoodbaogmdloaa
