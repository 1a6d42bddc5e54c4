/-
  How a message is opened under the condition on the input's bulk.
-/
import Derived.Test.YtdlefmlienfjhaaBaS
import Derived.Test.YtdlefmlienfjhaaOpenI
import Derived.Deep.Matrix
import Derived.Test.YtdlefmlienfjhaaRows
namespace Go.Proofs.Ytdlefmlienfjhaa
open Go.ChangeShapes Go.WideShapes Go.ChangeAt Go.RowKit Go.Deep
set_option linter.unusedVariables false
set_option maxRecDepth 20000

theorem cells30 : Try.prog.cellsOf 30 = 1 := by kernel_rfl
theorem cells68 : Try.prog.cellsOf 68 = 1 := by kernel_rfl
theorem cells4b : Try.prog.cellsOf 4 = 1 := by kernel_rfl
theorem cells70 : Try.prog.cellsOf 70 = 6 := by kernel_rfl
section
variable {H : Type} {enc : TypeId × Value → H} {W : World} {fuel : Nat} {cs : List Value} {x : DataW H × List MemPlace}
theorem lits_bulk (zs : List Int) : zs.length ≤ Rows.uptoBulkAll (lits (H := H) .u8 zs) := by
  have h1 := bulk_all (H := H) (lits .u8 zs)
  have h2 : (lits (H := H) .u8 zs).length = zs.length := by simp [lits]
  omega
theorem open_bytesB (h : DataW.trod enc Try.prog W 0 (fun _ => true) true fuel 30 cs = some x) :
    ∃ (y : Sv) (zs : List Int), cs = [.slice y.a y.n y.c] ∧ zs.length = y.n ∧ Seg W y.a zs ∧ byt zs ∧ y.n + 1 ≤ Rows.uptoBulk x.1 := by
  rcases open_ints Try.underlying30 Try.underlying5 cells5 h with ⟨hcs, hx⟩ | ⟨ad, l, c, zs, hcs, _, hl, hm, hz, hx, hcell, hwz⟩
  · subst hx
    exact ⟨⟨none, 0, 0⟩, [], hcs, rfl, seg_nil _ _, (fun y hy => by cases hy), by simp [Rows.uptoBulk]⟩
  · subst hx
    have hz' : zs.length = c := by simpa using hz
    refine ⟨⟨some ad, l, c⟩, zs.take l, hcs, by simp; omega, ?_, fun y hy => wf_u8 (hwz y (List.mem_of_mem_take hy)), ?_⟩
    · intro hne
      have hlen : 0 < l := by
        cases l with
        | zero => simp at hne
        | succ k => omega
      obtain ⟨b, off, spot⟩ := ad
      have hc := hcell 0 (by omega)
      have hspot : spot = none := by simpa [Addr.add] using World.cell?_spot hc
      subst hspot
      refine ⟨b, off, rfl, fun i hi => ?_⟩
      have hi' : i < l := by have := List.length_take_le l zs; omega
      have := hcell i (by omega)
      rw [addr_add] at this
      rw [this]
      simp [hi']
    · rw [Rows.uptoBulk]
      have := lits_bulk (H := H) (zs.take l)
      rw [List.length_take] at this
      show l + 1 ≤ _
      omega
theorem rows_bulk (A : Nat → Option Addr) (L : Nat → Nat) (Z : Nat → List Int) : ∀ rs : List Nat, (∀ r ∈ rs, L r ≤ (Z r).length ∧ (A r = none → L r = 0)) →
    (rs.map fun r => (Z r).take (L r)).flatten.length + rs.length ≤ Rows.uptoBulkAll (rs.map fun r => intRow (H := H) .u8 (A r) (L r) (Z r))
  | [], _ => Nat.le_refl _
  | r :: rs, h => by
    have ih := rows_bulk A L Z rs (fun q hq => h q (by simp [hq]))
    obtain ⟨h1, h2⟩ := h r (by simp)
    have h3 : ((Z r).take (L r)).length + 1 ≤ Rows.uptoBulk (intRow (H := H) .u8 (A r) (L r) (Z r)) := by
      rw [List.length_take]
      unfold intRow
      cases hA : A r with
      | none => rw [h2 hA]; simp [Rows.uptoBulk]
      | some a =>
        have := lits_bulk (H := H) ((Z r).take (L r))
        rw [List.length_take] at this
        show _ ≤ Rows.uptoBulk (DataW.slice _ _)
        rw [Rows.uptoBulk]
        omega
    rw [List.map_cons, List.map_cons, Rows.uptoBulkAll, List.flatten_cons, List.length_append, List.length_cons]
    omega
theorem open_rowsB (h : DataW.trod enc Try.prog W 0 (fun _ => true) true fuel 68 cs = some x) :
    ∃ (y : Sv) (L : List (Sv × List Int)), cs = [.slice y.a y.n y.c] ∧ SegP W y.a L ∧ L.length = y.n ∧ (∀ q ∈ L, q.2.length = q.1.n ∧ byt q.2) ∧ y.n + (pcs L).flatten.length ≤ Rows.uptoBulk x.1 := by
  rcases open_int_rows Try.underlying68 Try.underlying30 Try.underlying5 cells30 cells5 h with ⟨hcs, hx⟩ | ⟨a, len, cap, A, L, C, Z, hcs, _, hl, hm, hx, hr⟩
  · exact ⟨⟨none, 0, 0⟩, [], hcs, (fun h => absurd rfl h), rfl, (fun q hq => by cases hq), by simp [pcs]⟩
  · subst hx
    have hp : pcs ((List.range len).map fun r => ((⟨A r, L r, C r⟩ : Sv), (Z r).take (L r))) = (List.range len).map fun r => (Z r).take (L r) := by
      unfold pcs
      rw [List.map_map]
      rfl
    refine ⟨⟨some a, len, cap⟩, (List.range len).map fun r => (⟨A r, L r, C r⟩, (Z r).take (L r)), hcs, ?_, by simp, ?_, ?_⟩
    · intro hne
      have hlen : 0 < len := by
        cases len with
        | zero => simp at hne
        | succ k => omega
      obtain ⟨b, off, spot⟩ := a
      have hc := (hr 0 (by omega)).1
      have hspot : spot = none := by simpa [Addr.add] using World.cell?_spot hc
      subst hspot
      refine ⟨b, off, rfl, fun i p hp => ?_⟩
      have hi : i < len := by
        have := (List.getElem?_eq_some_iff.1 hp).1
        simpa using this
      have hpe : p = (⟨A i, L i, C i⟩, (Z i).take (L i)) := by
        rw [List.getElem?_map, List.getElem?_range hi] at hp
        simpa using hp.symm
      subst hpe
      obtain ⟨c1, c2, c3, c4, c5, c6, c7⟩ := hr i (by omega)
      rw [addr_add] at c1
      refine ⟨c1, fun hne2 => ?_⟩
      have hL : 0 < L i := by
        cases hLi : L i with
        | zero => rw [hLi] at hne2; simp at hne2
        | succ k => omega
      cases hA : A i with
      | none => have := c6 hA; omega
      | some a' =>
        obtain ⟨_, hcc⟩ := c7 a' hA
        obtain ⟨b', off', spot'⟩ := a'
        have hc' := hcc 0 (by omega)
        have hspot' : spot' = none := by simpa [Addr.add] using World.cell?_spot hc'
        subst hspot'
        refine ⟨b', off', rfl, fun m hm => ?_⟩
        have hm2 : m < ((Z i).take (L i)).length := hm
        have hm' : m < L i := by have := List.length_take_le (L i) (Z i); omega
        have := hcc m (by omega)
        rw [addr_add] at this
        rw [this]
        simp [hm']
    · intro q hq
      obtain ⟨r, hrr, rfl⟩ := List.mem_map.1 hq
      obtain ⟨c1, c2, c3, c4, c5, c6, c7⟩ := hr r (by have := List.mem_range.1 hrr; omega)
      exact ⟨by rw [List.length_take]; show min (L r) (Z r).length = L r; omega, fun y hy => wf_u8 (c5 y (List.mem_of_mem_take hy))⟩
    · rw [hp, Rows.uptoBulk]
      have := rows_bulk (H := H) A L Z (List.range len) (fun r hrr => by
        obtain ⟨c1, c2, c3, c4, c5, c6, c7⟩ := hr r (by have := List.mem_range.1 hrr; omega)
        exact ⟨by omega, fun hn => by have := c6 hn; omega⟩)
      rw [List.length_range] at this
      show len + _ ≤ _
      omega
theorem trod_msg (h : DataW.trod enc Try.prog W 0 (fun _ => true) true fuel 70 cs = some x) (hlen : cs.length = 6) :
    ∃ (hd p t j : Sv) (has : Bool) (odd : Int) (HD TR JS : List Int) (L : List (Sv × List Int)), cs = [.slice hd.a hd.n hd.c, .slice p.a p.n p.c, .slice t.a t.n t.c, .bool has, .int .i64 odd, .slice j.a j.n j.c] ∧
      (Seg W hd.a HD ∧ HD.length = hd.n ∧ byt HD) ∧ (Seg W t.a TR ∧ TR.length = t.n ∧ byt TR) ∧ (Seg W j.a JS ∧ JS.length = j.n ∧ byt JS) ∧ (SegP W p.a L ∧ L.length = p.n) ∧ (∀ q ∈ L, q.2.length = q.1.n ∧ byt q.2) ∧
      HD.length + TR.length + JS.length + L.length + (pcs L).flatten.length ≤ Rows.uptoBulk x.1 := by
  obtain ⟨xs, k, hk, hxy, _, hxl, hf⟩ := DataW.trod_struct Try.underlying70 h
  subst hxy
  match xs, hxl, cs, hlen with
  | [y0, y1, y2, y3, y4, y5], _, [v0, v1, v2, v3, v4, v5], _ =>
    have g0 := hf 0 _ rfl
    have g1 := hf 1 _ rfl
    have g2 := hf 2 _ rfl
    have g3 := hf 3 _ rfl
    have g4 := hf 4 _ rfl
    have g5 := hf 5 _ rfl
    simp [cells30, cells68, cells4b, cells3] at g0 g1 g2 g3 g4 g5
    obtain ⟨hd, HD, e0, a0, a1, a2, a3⟩ := open_bytesB g0
    obtain ⟨p, L, e1, b0, b1, b2, b3⟩ := open_rowsB g1
    obtain ⟨t, TR, e2, c0, c1, c2, c3⟩ := open_bytesB g2
    obtain ⟨has, e3, _⟩ := DataW.trod_bool Try.underlying4 g3
    obtain ⟨odd, e4, _, _⟩ := DataW.trod_int Try.underlying3 g4
    obtain ⟨j, JS, e5, d0, d1, d2, d3⟩ := open_bytesB g5
    simp at e0 e1 e2 e3 e4 e5
    refine ⟨hd, p, t, j, has, odd, HD, TR, JS, L, by rw [e0, e1, e2, e3, e4, e5], ⟨a1, a0, a2⟩, ⟨c1, c0, c2⟩, ⟨d1, d0, d2⟩, ⟨b0, b1⟩, b2, ?_⟩
    simp only [List.map_cons, List.map_nil, Rows.uptoBulk, Rows.uptoBulkAll]
    omega
end
theorem tot_small {hd tr js : List Int} {L : List (Sv × List Int)} (h : hd.length + tr.length + js.length + L.length + (pcs L).flatten.length ≤ 1048576) : tot js.length hd L tr ≤ 900000000000 := by
  unfold tot
  by_cases h1 : L.length + 3 ≤ 524322
  · have : (L.length + 3) * (js.length + 64) ≤ 524322 * 1048640 := Nat.mul_le_mul h1 (by omega)
    omega
  · have : (L.length + 3) * (js.length + 64) ≤ 1048579 * 524321 := Nat.mul_le_mul (by omega) (by omega)
    omega
theorem open_msg {H : Type} {enc : TypeId × Value → H} {W : World} {cs : Array Value} {d : DataW H} {p : List MemPlace} {ds : List (DataW H)}
    (h : DataW.Trod enc Try.prog W 0 (fun _ => true) true 70 (.agg cs) d p) (hs : cs.size = Try.prog.cellsOf 70) (hk : Rows.uptoSmall H ds = true) (hd : d ∈ ds) :
    ∃ (hd p t j : Sv) (has : Bool) (odd : Int) (HD TR JS : List Int) (L : List (Sv × List Int)), cs = #[.slice hd.a hd.n hd.c, .slice p.a p.n p.c, .slice t.a t.n t.c, .bool has, .int .i64 odd, .slice j.a j.n j.c] ∧
      (Seg W hd.a HD ∧ HD.length = hd.n ∧ HD.length ≤ 1048576 ∧ byt HD) ∧ (Seg W t.a TR ∧ TR.length = t.n ∧ TR.length ≤ 1048576 ∧ byt TR) ∧ (Seg W j.a JS ∧ JS.length = j.n ∧ JS.length ≤ 1048576 ∧ byt JS) ∧ (SegP W p.a L ∧ L.length = p.n) ∧ (∀ q ∈ L, q.2.length = q.1.n ∧ q.2.length ≤ 1048576 ∧ byt q.2) ∧ tot JS.length HD L TR ≤ 900000000000 := by
  have hb : Rows.uptoBulk d ≤ 1048576 := Nat.le_trans (bulk_mem hd) (by simpa [Rows.uptoSmall] using hk)
  obtain ⟨fuel, hf⟩ := h
  rw [cells70] at hs
  obtain ⟨h, p, t, j, has, odd, HD, TR, JS, L, hc, a, b, c, e, f, g⟩ := trod_msg (cs := cs.toList) (by simpa [Value.cells] using hf) (by simpa using hs)
  have g' : HD.length + TR.length + JS.length + L.length + (pcs L).flatten.length ≤ 1048576 := Nat.le_trans g hb
  refine ⟨h, p, t, j, has, odd, HD, TR, JS, L, Array.toList_inj.1 hc, ⟨a.1, a.2.1, by omega, a.2.2⟩, ⟨b.1, b.2.1, by omega, b.2.2⟩, ⟨c.1, c.2.1, by omega, c.2.2⟩, e, fun q hq => ⟨(f q hq).1, ?_, (f q hq).2⟩, tot_small g'⟩
  have hm : q.2 ∈ pcs L := by unfold pcs; exact List.mem_map.2 ⟨q, hq, rfl⟩
  have : q.2.length ≤ (pcs L).flatten.length := by
    obtain ⟨A, B, hAB⟩ := List.append_of_mem hm
    rw [hAB, List.flatten_append, List.length_append, List.flatten_cons, List.length_append]
    omega
  omega
end Go.Proofs.Ytdlefmlienfjhaa
