/-
  How an argument that is a box (key, nonce, what is bound, what is sealed) is opened: its bytes, and that they are not too many. Used by the statements' last steps.
-/
import Derived.Test.YtnoapfhbckebiaaOpen
import Derived.Test.YtnoapfhbckebiaaOvl
import Derived.Deep.SlicePairs
namespace Go.Proofs.Ytnoapfhbckebiaa
open Go.ChangeShapes Go.WideShapes Go.ChangeAt Go.RowKit Go.Deep
set_option linter.unusedVariables false
set_option maxRecDepth 20000

theorem cells22 : Try.prog.cellsOf 22 = 1 := by kernel_rfl
theorem cells36 : Try.prog.cellsOf 36 = 4 := by kernel_rfl
/-- How long a slice is, by its data. -/
def LenOf {H : Type} (n : Nat) (d : DataW H) : Prop := n = 0 ∨ ∃ elems spare, d = .slice elems spare ∧ n ≤ elems.length + spare.length
theorem trod_bytes {H : Type} {enc : TypeId × Value → H} {W : World} {fuel : Nat} {v : Value} {x : DataW H × List MemPlace}
    (h : DataW.trod enc Try.prog W 0 (fun _ => true) true fuel 22 [v] = some x) :
    ∃ (s : Sv) (zs : List Int), v = .slice s.a s.n s.c ∧ In W s zs ∧ s.n ≤ s.c ∧ LenOf s.n x.1 := by
  have hv : ∃ a2 l2 c2, v = .slice a2 l2 c2 := by
    rcases open_ints Try.underlying22 Try.underlying5 cells5 h with ⟨hcs, _⟩ | ⟨y, l, c, zs, hcs, _⟩
    · simp at hcs; exact ⟨_, _, _, hcs⟩
    · simp at hcs; exact ⟨_, _, _, hcs⟩
  obtain ⟨a, len, cap, rfl⟩ := hv
  have h2 : DataW.Trod enc Try.prog W 0 (fun _ => true) true 22 (.slice a len cap) x.1 x.2 := ⟨fuel, by simpa [Value.cells] using h⟩
  obtain ⟨zs, q1, q2, q3, q4, q5, q6⟩ := open_bytes h2
  exact ⟨⟨a, len, cap⟩, zs, rfl, ⟨q2, q1, q3⟩, q4, q6⟩
/-- A box's words. -/
abbrev bcells (k n a d : Sv) : Array Value := #[.slice k.a k.n k.c, .slice n.a n.n n.c, .slice a.a a.n a.c, .slice d.a d.n d.c]
/-- What a box holds. -/
structure Bx (w : World) (k n a d : Sv) (ks ns az ds : List Int) : Prop where
  ik : In w k ks
  in_ : In w n ns
  ia : In w a az
  id_ : In w d ds
theorem Bx.q {w w' : World} {k n a d : Sv} {ks ns az ds : List Int} (h : Bx w k n a d ks ns az ds) (q : Q w w') : Bx w' k n a d ks ns az ds := ⟨h.ik.q q, h.in_.q q, h.ia.q q, h.id_.q q⟩
structure Came {H : Type} (W : World) (k n a d : Sv) (ks ns az ds : List Int) (x : DataW H) : Prop where
  h : Bx W k n a d ks ns az ds
  c : k.n ≤ k.c ∧ n.n ≤ n.c ∧ a.n ≤ a.c ∧ d.n ≤ d.c
  l : ∃ d0 d1 d2 d3, x = .agg [d0, d1, d2, d3] ∧ LenOf k.n d0 ∧ LenOf n.n d1 ∧ LenOf a.n d2 ∧ LenOf d.n d3
theorem trod_box {H : Type} {enc : TypeId × Value → H} {W : World} {fuel : Nat} {cs : List Value} {x : DataW H × List MemPlace}
    (h : DataW.trod enc Try.prog W 0 (fun _ => true) true fuel 36 cs = some x) (hlen : cs.length = 4) :
    ∃ (k n a d : Sv) (ks ns az ds : List Int), cs = (bcells k n a d).toList ∧ Came W k n a d ks ns az ds x.1 := by
  obtain ⟨xs, k, hk, hxy, _, hxl, hf⟩ := DataW.trod_struct Try.underlying36 h
  match xs, hxl, cs, hlen with
  | [y0, y1, y2, y3], _, [v0, v1, v2, v3], _ =>
    have g0 := hf 0 _ rfl
    have g1 := hf 1 _ rfl
    have g2 := hf 2 _ rfl
    have g3 := hf 3 _ rfl
    simp [cells22] at g0 g1 g2 g3
    obtain ⟨s0, z0, k0, i0, c0, e0⟩ := trod_bytes g0
    obtain ⟨s1, z1, k1, i1, c1, e1⟩ := trod_bytes g1
    obtain ⟨s2, z2, k2, i2, c2, e2⟩ := trod_bytes g2
    obtain ⟨s3, z3, k3, i3, c3, e3⟩ := trod_bytes g3
    subst k0 k1 k2 k3
    refine ⟨s0, s1, s2, s3, z0, z1, z2, z3, rfl, ⟨i0, i1, i2, i3⟩, ⟨c0, c1, c2, c3⟩, y0.1, y1.1, y2.1, y3.1, ?_, e0, e1, e2, e3⟩
    rw [hxy]; rfl
theorem open_box {H : Type} {enc : TypeId × Value → H} {W : World} {cs : Array Value} {x : DataW H} {p : List MemPlace}
    (h : DataW.Trod enc Try.prog W 0 (fun _ => true) true 36 (.agg cs) x p) (hs : cs.size = Try.prog.cellsOf 36) : ∃ (k n a d : Sv) (ks ns az ds : List Int), cs = bcells k n a d ∧ Came W k n a d ks ns az ds x := by
  obtain ⟨fuel, hf⟩ := h
  rw [cells36] at hs
  obtain ⟨k, n, a, d, ks, ns, az, ds, hc, hm⟩ := trod_box (cs := cs.toList) (by simpa [Value.cells] using hf) (by simpa using hs)
  exact ⟨k, n, a, d, ks, ns, az, ds, Array.toList_inj.1 hc, hm⟩
theorem box_fit {H : Type} {ts : List TypeId} {es : List (DataW H)} {j : Nat} {W : World} {k n a d : Sv} {ks ns az ds : List Int} {x : DataW H} (hsz : (DataW.weightsEach Try.prog ts es).all (· ≤ reachBytes) = true) (ht : ts[j]? = some 36) (hd : es[j]? = some x)
    (h : Came W k n a d ks ns az ds x) : k.n ≤ 140737488351232 ∧ n.n ≤ 140737488351232 ∧ a.n ≤ 140737488351232 ∧ d.n ≤ 140737488351232 := by
  obtain ⟨d0, d1, d2, d3, rfl, h0, h1, h2, h3⟩ := h.l
  refine ⟨?_, ?_, ?_, ?_⟩
  · rcases h0 with h0 | ⟨e2, s2, rfl, hle⟩
    · omega
    · have hw : (e2.length + s2.length) * Try.prog.bytesOf 5 ∈ (DataW.agg [DataW.slice e2 s2, d1, d2, d3]).weights Try.prog 36 := by
        simp [DataW.weights, DataW.weightsEach, Try.underlying36, Try.underlying22]
      have := List.all_eq_true.1 hsz _ (DataW.weights_mem_each ht hd _ hw)
      rw [bytes5] at this
      simp [reachBytes] at this
      omega
  · rcases h1 with h0 | ⟨e2, s2, rfl, hle⟩
    · omega
    · have hw : (e2.length + s2.length) * Try.prog.bytesOf 5 ∈ (DataW.agg [d0, DataW.slice e2 s2, d2, d3]).weights Try.prog 36 := by
        simp [DataW.weights, DataW.weightsEach, Try.underlying36, Try.underlying22]
      have := List.all_eq_true.1 hsz _ (DataW.weights_mem_each ht hd _ hw)
      rw [bytes5] at this
      simp [reachBytes] at this
      omega
  · rcases h2 with h0 | ⟨e2, s2, rfl, hle⟩
    · omega
    · have hw : (e2.length + s2.length) * Try.prog.bytesOf 5 ∈ (DataW.agg [d0, d1, DataW.slice e2 s2, d3]).weights Try.prog 36 := by
        simp [DataW.weights, DataW.weightsEach, Try.underlying36, Try.underlying22]
      have := List.all_eq_true.1 hsz _ (DataW.weights_mem_each ht hd _ hw)
      rw [bytes5] at this
      simp [reachBytes] at this
      omega
  · rcases h3 with h0 | ⟨e2, s2, rfl, hle⟩
    · omega
    · have hw : (e2.length + s2.length) * Try.prog.bytesOf 5 ∈ (DataW.agg [d0, d1, d2, DataW.slice e2 s2]).weights Try.prog 36 := by
        simp [DataW.weights, DataW.weightsEach, Try.underlying36, Try.underlying22]
      have := List.all_eq_true.1 hsz _ (DataW.weights_mem_each ht hd _ hw)
      rw [bytes5] at this
      simp [reachBytes] at this
      omega
end Go.Proofs.Ytnoapfhbckebiaa
