/-
  How an argument that is parameters with a side and one more parameter is opened: what its words hold, and that they are not too long. Used by the statement's last steps.
-/
import Derived.Test.YtidbimhcebfjfaaOpen
import Derived.Test.YtidbimhcebfjfaaDec
import Derived.Deep.SlicePairs
namespace Go.Proofs.Ytidbimhcebfjfaa
open Go.ChangeShapes Go.WideShapes Go.ChangeAt Go.RowKit Go.Deep
set_option linter.unusedVariables false
set_option maxRecDepth 20000

theorem cells3 : Try.prog.cellsOf 3 = 1 := by kernel_rfl
theorem cells4 : Try.prog.cellsOf 4 = 1 := by kernel_rfl
theorem cells22 : Try.prog.cellsOf 22 = 1 := by kernel_rfl
theorem cells24 : Try.prog.cellsOf 24 = 20 := by kernel_rfl
theorem cells51 : Try.prog.cellsOf 51 = 23 := by kernel_rfl
theorem wf_i64 {n : Int} (h : (Lit.int .i64 n).wf = true) : -9223372036854775808 ≤ n ∧ n ≤ 9223372036854775807 := by
  simpa [Lit.wf, IntKind.min, IntKind.max, IntKind.signed, IntKind.bits] using h
/-- How long a slice is, by its data. -/
def LenOf {H : Type} (n : Nat) (d : DataW H) : Prop := n = 0 ∨ ∃ elems spare, d = .slice elems spare ∧ n ≤ elems.length + spare.length
theorem trod_bytes {H : Type} {enc : TypeId × Value → H} {W : World} {fuel : Nat} {v : Value} {x : DataW H × List MemPlace}
    (h : DataW.trod enc Try.prog W 0 (fun _ => true) true fuel 22 [v] = some x) :
    ∃ (s : Sv) (zs : List Int), v = .slice s.a s.n s.c ∧ Seg W s.a zs ∧ zs.length = s.n ∧ (∀ y ∈ zs, 0 ≤ y ∧ y < 256) ∧ LenOf s.n x.1 := by
  have hv : ∃ a2 l2 c2, v = .slice a2 l2 c2 := by
    rcases open_ints Try.underlying22 Try.underlying5 cells5 h with ⟨hcs, _⟩ | ⟨y, l, c, zs, hcs, _⟩
    · simp at hcs; exact ⟨_, _, _, hcs⟩
    · simp at hcs; exact ⟨_, _, _, hcs⟩
  obtain ⟨a, len, cap, rfl⟩ := hv
  have h2 : DataW.Trod enc Try.prog W 0 (fun _ => true) true 22 (.slice a len cap) x.1 x.2 := ⟨fuel, by simpa [Value.cells] using h⟩
  obtain ⟨zs, q1, q2, q3, q4, q5, q6⟩ := open_bytes h2
  exact ⟨⟨a, len, cap⟩, zs, rfl, q2, q1, q3, q6⟩
theorem kd_byt {i : Nat} (h : kd i = 2 ∨ kd i = 3) : i = 0 ∨ i = 2 ∨ i = 15 ∨ i = 16 := by
  unfold kd at h
  by_cases h1 : i = 0 ∨ i = 2 ∨ i = 16
  · omega
  · by_cases h2 : i = 15
    · omega
    · rw [if_neg h1, if_neg h2] at h
      by_cases h3 : i = 12
      · rw [if_pos h3] at h; omega
      · rw [if_neg h3] at h
        by_cases h4 : i = 13 ∨ 16 < i
        · rw [if_pos h4] at h; omega
        · rw [if_neg h4] at h; omega
def bfun {α : Type} (a b c d z : α) : Nat → α := fun i => if i = 0 then a else if i = 2 then b else if i = 15 then c else if i = 16 then d else z

structure CameQ {H : Type} (W : World) (m : Pm) (s : Nat → Sv) (d : DataW H) : Prop where
  by_ : By W m s
  rng : ∀ i, kd i = 2 ∨ kd i = 3 → ∀ y ∈ m.byt i, 0 ≤ y ∧ y < 256
  l : ∃ d0 d1 d2 d3 d4 d5 d6 d7 d8 d9 d10 d11 d12 d13 d14 d15 d16 d17 d18 d19 : DataW H, d = .agg [d0, d1, d2, d3, d4, d5, d6, d7, d8, d9, d10, d11, d12, d13, d14, d15, d16, d17, d18, d19] ∧ LenOf (s 0).n d4 ∧ LenOf (s 2).n d5 ∧ LenOf (s 15).n d6 ∧ LenOf (s 16).n d7
theorem trod_params {H : Type} {enc : TypeId × Value → H} {W : World} {fuel : Nat} {v0 v1 v2 v3 v4 v5 v6 v7 v8 v9 v10 v11 v12 v13 v14 v15 v16 v17 v18 v19 : Value} {x : DataW H × List MemPlace}
    (h : DataW.trod enc Try.prog W 0 (fun _ => true) true fuel 24 [v0, v1, v2, v3, v4, v5, v6, v7, v8, v9, v10, v11, v12, v13, v14, v15, v16, v17, v18, v19] = some x) :
    ∃ (m : Pm) (s : Nat → Sv), [v0, v1, v2, v3, v4, v5, v6, v7, v8, v9, v10, v11, v12, v13, v14, v15, v16, v17, v18, v19] = (pc m s).toList ∧ CameQ W m s x.1 := by
  obtain ⟨xs, k, hk, hxy, _, hxl, hf⟩ := DataW.trod_struct Try.underlying24 h
  match xs, hxl with
  | [y0, y1, y2, y3, y4, y5, y6, y7, y8, y9, y10, y11, y12, y13, y14, y15, y16, y17, y18, y19], _ =>
    have g0 := hf 0 _ rfl
    have g1 := hf 1 _ rfl
    have g2 := hf 2 _ rfl
    have g3 := hf 3 _ rfl
    have g4 := hf 4 _ rfl
    have g5 := hf 5 _ rfl
    have g6 := hf 6 _ rfl
    have g7 := hf 7 _ rfl
    have g8 := hf 8 _ rfl
    have g9 := hf 9 _ rfl
    have g10 := hf 10 _ rfl
    have g11 := hf 11 _ rfl
    have g12 := hf 12 _ rfl
    have g13 := hf 13 _ rfl
    have g14 := hf 14 _ rfl
    have g15 := hf 15 _ rfl
    have g16 := hf 16 _ rfl
    have g17 := hf 17 _ rfl
    have g18 := hf 18 _ rfl
    have g19 := hf 19 _ rfl
    clear hf h
    simp [cells4] at g0
    simp [cells4] at g1
    simp [cells4] at g2
    simp [cells4] at g3
    simp [cells22] at g4
    simp [cells22] at g5
    simp [cells22] at g6
    simp [cells22] at g7
    simp [cells3] at g8
    simp [cells3] at g9
    simp [cells3] at g10
    simp [cells3] at g11
    simp [cells3] at g12
    simp [cells3] at g13
    simp [cells3] at g14
    simp [cells3] at g15
    simp [cells3] at g16
    simp [cells3] at g17
    simp [cells3] at g18
    simp [cells4] at g19
    obtain ⟨n0, k0, _⟩ := DataW.trod_bool Try.underlying4 g0
    obtain ⟨n1, k1, _⟩ := DataW.trod_bool Try.underlying4 g1
    obtain ⟨n2, k2, _⟩ := DataW.trod_bool Try.underlying4 g2
    obtain ⟨n3, k3, _⟩ := DataW.trod_bool Try.underlying4 g3
    obtain ⟨s4, z4, k4, b4, l4, r4, e4⟩ := trod_bytes g4
    obtain ⟨s5, z5, k5, b5, l5, r5, e5⟩ := trod_bytes g5
    obtain ⟨s6, z6, k6, b6, l6, r6, e6⟩ := trod_bytes g6
    obtain ⟨s7, z7, k7, b7, l7, r7, e7⟩ := trod_bytes g7
    obtain ⟨n8, k8, _, _⟩ := DataW.trod_int Try.underlying3 g8
    obtain ⟨n9, k9, _, _⟩ := DataW.trod_int Try.underlying3 g9
    obtain ⟨n10, k10, _, _⟩ := DataW.trod_int Try.underlying3 g10
    obtain ⟨n11, k11, _, _⟩ := DataW.trod_int Try.underlying3 g11
    obtain ⟨n12, k12, _, _⟩ := DataW.trod_int Try.underlying3 g12
    obtain ⟨n13, k13, _, _⟩ := DataW.trod_int Try.underlying3 g13
    obtain ⟨n14, k14, _, _⟩ := DataW.trod_int Try.underlying3 g14
    obtain ⟨n15, k15, _, _⟩ := DataW.trod_int Try.underlying3 g15
    obtain ⟨n16, k16, _, _⟩ := DataW.trod_int Try.underlying3 g16
    obtain ⟨n17, k17, _, _⟩ := DataW.trod_int Try.underlying3 g17
    obtain ⟨n18, k18, _, _⟩ := DataW.trod_int Try.underlying3 g18
    obtain ⟨n19, k19, _⟩ := DataW.trod_bool Try.underlying4 g19
    simp only [List.cons.injEq, and_true] at k0 k1 k2 k3 k8 k9 k10 k11 k12 k13 k14 k15 k16 k17 k18 k19
    subst k0 k1 k2 k3 k4 k5 k6 k7 k8 k9 k10 k11 k12 k13 k14 k15 k16 k17 k18 k19
    refine ⟨⟨fun i => if i = 1 then n8 else if i = 3 then n9 else if i = 4 then n10 else if i = 5 then n11 else if i = 6 then n12 else if i = 7 then n13 else if i = 8 then n14 else if i = 9 then n15 else if i = 10 then n16 else if i = 11 then n17 else if i = 14 then n18 else 0, bfun n0 n1 n2 n3 false, bfun z4 z5 z6 z7 [], n19⟩, bfun s4 s5 s6 s7 nilS, rfl, ⟨?_, ?_, y0.1, y1.1, y2.1, y3.1, y4.1, y5.1, y6.1, y7.1, y8.1, y9.1, y10.1, y11.1, y12.1, y13.1, y14.1, y15.1, y16.1, y17.1, y18.1, y19.1, ?_, e4, e5, e6, e7⟩⟩
    · intro i hi
      rcases kd_byt hi with rfl | rfl | rfl | rfl
      · exact ⟨b4, l4⟩
      · exact ⟨b5, l5⟩
      · exact ⟨b6, l6⟩
      · exact ⟨b7, l7⟩
    · intro i hi
      rcases kd_byt hi with rfl | rfl | rfl | rfl
      · exact r4
      · exact r5
      · exact r6
      · exact r7
    · rw [hxy]; rfl
/-- The words of parameters with a side and one more. -/
def tc (m : Pm) (s : Nat → Sv) (srv : Bool) (id : Int) (v : Sv) : Array Value :=
  #[.bool (m.has 0), .bool (m.has 2), .bool (m.has 15), .bool (m.has 16), sv (s 0), sv (s 2), sv (s 15), sv (s 16), .int .i64 (m.num 1), .int .i64 (m.num 3), .int .i64 (m.num 4), .int .i64 (m.num 5), .int .i64 (m.num 6), .int .i64 (m.num 7), .int .i64 (m.num 8), .int .i64 (m.num 9), .int .i64 (m.num 10), .int .i64 (m.num 11), .int .i64 (m.num 14), .bool m.mv, .bool srv, .int .i64 id, sv v]
structure CameT {H : Type} (W : World) (m : Pm) (s : Nat → Sv) (id : Int) (v : Sv) (vz : List Int) (d : DataW H) : Prop where
  id_ : -9223372036854775808 ≤ id ∧ id ≤ 9223372036854775807
  val : Seg W v.a vz ∧ vz.length = v.n ∧ ∀ y ∈ vz, 0 ≤ y ∧ y < 256
  l : ∃ d0 d1 d2 d3 : DataW H, d = .agg [d0, d1, d2, d3] ∧ CameQ W m s d0 ∧ LenOf v.n d3
theorem open_told {H : Type} {enc : TypeId × Value → H} {W : World} {cs : Array Value} {x : DataW H} {p : List MemPlace}
    (h : DataW.Trod enc Try.prog W 0 (fun _ => true) true 51 (.agg cs) x p) (hs : cs.size = Try.prog.cellsOf 51) : ∃ (m : Pm) (s : Nat → Sv) (srv : Bool) (id : Int) (v : Sv) (vz : List Int), cs = tc m s srv id v ∧ CameT W m s id v vz x := by
  obtain ⟨fuel, hf⟩ := h
  rw [cells51] at hs
  have hf2 : DataW.trod enc Try.prog W 0 (fun _ => true) true fuel 51 cs.toList = some (x, p) := by simpa [Value.cells] using hf
  have hs2 : cs.toList.length = 23 := by simpa using hs
  clear hf hs
  obtain ⟨cl⟩ := cs
  have hf3 : DataW.trod enc Try.prog W 0 (fun _ => true) true fuel 51 cl = some (x, p) := hf2
  have hs3 : cl.length = 23 := hs2
  clear hf2 hs2
  obtain ⟨xs, k, hk, hxy, _, hxl, hf⟩ := DataW.trod_struct Try.underlying51 hf3
  match xs, hxl, cl, hs3 with
  | [y0, y1, y2, y3], _, [v0, v1, v2, v3, v4, v5, v6, v7, v8, v9, v10, v11, v12, v13, v14, v15, v16, v17, v18, v19, v20, v21, v22], _ =>
    have g0 := hf 0 _ rfl
    have g1 := hf 1 _ rfl
    have g2 := hf 2 _ rfl
    have g3 := hf 3 _ rfl
    simp [cells3, cells4, cells22, cells24] at g0 g1 g2 g3
    obtain ⟨m, s, e, cq⟩ := trod_params g0
    obtain ⟨n1, k1, _⟩ := DataW.trod_bool Try.underlying4 g1
    obtain ⟨n2, k2, _, w2⟩ := DataW.trod_int Try.underlying3 g2
    obtain ⟨s3, z3, k3, b3, l3, r3, e3⟩ := trod_bytes g3
    simp only [List.cons.injEq, and_true] at k1 k2
    subst k1 k2 k3
    refine ⟨m, s, n1, n2, s3, z3, ?_, ⟨wf_i64 w2, ⟨b3, l3, r3⟩, y0.1, y1.1, y2.1, y3.1, ?_, cq, e3⟩⟩
    · simp only [pc, List.cons.injEq, and_true] at e
      obtain ⟨rfl, rfl, rfl, rfl, rfl, rfl, rfl, rfl, rfl, rfl, rfl, rfl, rfl, rfl, rfl, rfl, rfl, rfl, rfl, rfl⟩ := e
      rfl
    · have := congrArg Prod.fst hxy; exact this
theorem told_fit {H : Type} {ts : List TypeId} {es : List (DataW H)} {j : Nat} {W : World} {m : Pm} {s : Nat → Sv} {id : Int} {v : Sv} {vz : List Int} {x : DataW H} (hsz : (DataW.weightsEach Try.prog ts es).all (· ≤ reachBytes) = true) (ht : ts[j]? = some 51) (hd : es[j]? = some x)
    (hc : CameT W m s id v vz x) : (∀ i, kd i = 2 ∨ kd i = 3 → (s i).n ≤ 140737488351232) ∧ By W m s ∧ (∀ i, kd i = 2 ∨ kd i = 3 → ∀ y ∈ m.byt i, 0 ≤ y ∧ y < 256) := by
  obtain ⟨q0, q1, q2, q3, rfl, cq, lv⟩ := hc.l
  refine ⟨?_, cq.by_, cq.rng⟩
  obtain ⟨d0, d1, d2, d3, d4, d5, d6, d7, d8, d9, d10, d11, d12, d13, d14, d15, d16, d17, d18, d19, rfl, h4, h5, h6, h7⟩ := cq.l
  intro i hi
  rcases kd_byt hi with rfl | rfl | rfl | rfl
  · rcases h4 with h0 | ⟨e2, s2, rfl, hle⟩
    · omega
    · have hw : (e2.length + s2.length) * Try.prog.bytesOf 5 ∈ (DataW.agg [.agg [d0, d1, d2, d3, DataW.slice e2 s2, d5, d6, d7, d8, d9, d10, d11, d12, d13, d14, d15, d16, d17, d18, d19], q1, q2, q3]).weights Try.prog 51 := by
        simp [DataW.weights, DataW.weightsEach, Try.underlying51, Try.underlying24, Try.underlying22]
      have := List.all_eq_true.1 hsz _ (DataW.weights_mem_each ht hd _ hw)
      rw [bytes5] at this
      simp [reachBytes] at this
      omega
  · rcases h5 with h0 | ⟨e2, s2, rfl, hle⟩
    · omega
    · have hw : (e2.length + s2.length) * Try.prog.bytesOf 5 ∈ (DataW.agg [.agg [d0, d1, d2, d3, d4, DataW.slice e2 s2, d6, d7, d8, d9, d10, d11, d12, d13, d14, d15, d16, d17, d18, d19], q1, q2, q3]).weights Try.prog 51 := by
        simp [DataW.weights, DataW.weightsEach, Try.underlying51, Try.underlying24, Try.underlying22]
      have := List.all_eq_true.1 hsz _ (DataW.weights_mem_each ht hd _ hw)
      rw [bytes5] at this
      simp [reachBytes] at this
      omega
  · rcases h6 with h0 | ⟨e2, s2, rfl, hle⟩
    · omega
    · have hw : (e2.length + s2.length) * Try.prog.bytesOf 5 ∈ (DataW.agg [.agg [d0, d1, d2, d3, d4, d5, DataW.slice e2 s2, d7, d8, d9, d10, d11, d12, d13, d14, d15, d16, d17, d18, d19], q1, q2, q3]).weights Try.prog 51 := by
        simp [DataW.weights, DataW.weightsEach, Try.underlying51, Try.underlying24, Try.underlying22]
      have := List.all_eq_true.1 hsz _ (DataW.weights_mem_each ht hd _ hw)
      rw [bytes5] at this
      simp [reachBytes] at this
      omega
  · rcases h7 with h0 | ⟨e2, s2, rfl, hle⟩
    · omega
    · have hw : (e2.length + s2.length) * Try.prog.bytesOf 5 ∈ (DataW.agg [.agg [d0, d1, d2, d3, d4, d5, d6, DataW.slice e2 s2, d8, d9, d10, d11, d12, d13, d14, d15, d16, d17, d18, d19], q1, q2, q3]).weights Try.prog 51 := by
        simp [DataW.weights, DataW.weightsEach, Try.underlying51, Try.underlying24, Try.underlying22]
      have := List.all_eq_true.1 hsz _ (DataW.weights_mem_each ht hd _ hw)
      rw [bytes5] at this
      simp [reachBytes] at this
      omega
end Go.Proofs.Ytidbimhcebfjfaa
