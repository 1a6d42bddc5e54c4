/-
  How an argument that is a slice of bytes, of numbers, of cuts or of calls is opened: what it holds, and that it is not too long. Used by the statements' last steps.
-/
import Derived.Test.YtdgkeidpoodmeaaRim
import Derived.Test.YtdgkeidpoodmeaaLaw
import Derived.Deep.SlicePairs
namespace Go.Proofs.Ytdgkeidpoodmeaa
open Go.ChangeShapes Go.WideShapes Go.ChangeAt Go.RowKit Go.Deep
set_option linter.unusedVariables false

theorem bytes5 : Try.prog.bytesOf 5 = 1 := by kernel_rfl
theorem cells5 : Try.prog.cellsOf 5 = 1 := by kernel_rfl
theorem cells3 : Try.prog.cellsOf 3 = 1 := by kernel_rfl
theorem cells4 : Try.prog.cellsOf 4 = 1 := by kernel_rfl
theorem cells28 : Try.prog.cellsOf 28 = 1 := by kernel_rfl
theorem bytes3 : Try.prog.bytesOf 3 = 8 := by kernel_rfl
theorem bytes40 : Try.prog.bytesOf 40 = 48 := by kernel_rfl
theorem cells40 : Try.prog.cellsOf 40 = 4 := by kernel_rfl
theorem bytes50 : Try.prog.bytesOf 50 = 16 := by kernel_rfl
theorem cells50 : Try.prog.cellsOf 50 = 2 := by kernel_rfl

theorem wf_i64 {n : Int} (h : (Lit.int .i64 n).wf = true) : -9223372036854775808 ≤ n ∧ n ≤ 9223372036854775807 := by
  simpa [Lit.wf, IntKind.min, IntKind.max, IntKind.signed, IntKind.bits] using h

/-! ### bytes -/
theorem trod_bytes {H : Type} {enc : TypeId × Value → H} {W : World} {fuel : Nat} {a : Option Addr} {len cap : Nat} {x : DataW H × List MemPlace}
    (h : DataW.trod enc Try.prog W 0 (fun _ => true) true fuel 28 [.slice a len cap] = some x) :
    ∃ zs : List Int, zs.length = len ∧ Seg W a zs ∧ len ≤ cap ∧ (a = none → len = 0 ∧ cap = 0) ∧ (len = 0 ∨ ∃ elems spare, x.1 = .slice elems spare ∧ len ≤ elems.length + spare.length) := by
  rcases open_ints Try.underlying28 Try.underlying5 cells5 h with ⟨hcs, _⟩ | ⟨y, l, c, zs, hcs, _, hl, hm, hz, hx, hcell, hwz⟩
  · simp at hcs
    obtain ⟨rfl, rfl, rfl⟩ := hcs
    exact ⟨[], rfl, seg_nil _ _, Nat.le_refl _, fun _ => ⟨rfl, rfl⟩, .inl rfl⟩
  · simp at hcs
    obtain ⟨rfl, rfl, rfl⟩ := hcs
    subst hx
    have hz' : zs.length = cap := by simpa using hz
    refine ⟨zs.take len, by simp; omega, ?_, hl, (fun h => by cases h), .inr ⟨_, _, rfl, by simp [lits]; omega⟩⟩
    intro hne
    have hlen : 0 < len := by
      cases len with
      | zero => simp at hne
      | succ k => omega
    obtain ⟨b, off, spot⟩ := y
    have hc := hcell 0 (by omega)
    have hspot : spot = none := by simpa [Addr.add] using World.cell?_spot hc
    subst hspot
    refine ⟨b, off, rfl, fun i hi => ?_⟩
    have hi' : i < len := by have := List.length_take_le len zs; omega
    have := hcell i (by omega)
    rw [addr_add] at this
    rw [this]
    simp [hi']

theorem open_bytes {H : Type} {enc : TypeId × Value → H} {W : World} {a : Option Addr} {len cap : Nat} {d : DataW H} {p : List MemPlace}
    (h : DataW.Trod enc Try.prog W 0 (fun _ => true) true 28 (.slice a len cap) d p) :
    ∃ zs : List Int, zs.length = len ∧ Seg W a zs ∧ True ∧ len ≤ cap ∧ (a = none → len = 0 ∧ cap = 0) ∧ (len = 0 ∨ ∃ elems spare, d = .slice elems spare ∧ len ≤ elems.length + spare.length) := by
  obtain ⟨fuel, hf⟩ := h
  obtain ⟨zs, h1, h2, h3, h4, h5⟩ := trod_bytes (by simpa [Value.cells] using hf)
  exact ⟨zs, h1, h2, trivial, h3, h4, h5⟩

theorem len_le_bytes {H : Type} {ts : List TypeId} {ds : List (DataW H)} {j len : Nat} {d : DataW H} (hsz : (DataW.weightsEach Try.prog ts ds).all (· ≤ reachBytes) = true) (ht : ts[j]? = some 28) (hd : ds[j]? = some d)
    (h : len = 0 ∨ ∃ elems spare, d = .slice elems spare ∧ len ≤ elems.length + spare.length) : len ≤ 140737488351232 := by
  rcases h with rfl | ⟨elems, spare, rfl, h⟩
  · omega
  · have := sized_slice hsz (j := j) (t := 28) (e := 5) ht hd Try.underlying28
    rw [bytes5] at this
    simp only [reachBytes] at this
    omega

/-! ### numbers -/
/-- The numbers that a slice of ints holds. -/
def SegN (w : World) (a : Option Addr) (zs : List Int) : Prop := zs ≠ [] → ∃ b off, a = some ⟨b, off, none⟩ ∧ ∀ i, i < zs.length → w.cell? ⟨b, off + i, none⟩ = some (.int .i64 (zs.getD i 0))
theorem SegN.q {w w' : World} {a : Option Addr} {zs : List Int} (h : SegN w a zs) (hq : Q w w') : SegN w' a zs := by
  intro hne
  obtain ⟨b, off, ha, hc⟩ := h hne
  refine ⟨b, off, ha, fun i hi => ?_⟩
  rw [hq.cell (lt_of_cell (hc i hi))]
  exact hc i hi

theorem open_nums {H : Type} {enc : TypeId × Value → H} {W : World} {a : Option Addr} {len cap : Nat} {d : DataW H} {p : List MemPlace}
    (h : DataW.Trod enc Try.prog W 0 (fun _ => true) true 48 (.slice a len cap) d p) :
    ∃ zs : List Int, zs.length = len ∧ SegN W a zs ∧ True ∧ len ≤ cap ∧ (a = none → len = 0 ∧ cap = 0) ∧ (len = 0 ∨ ∃ elems spare, d = .slice elems spare ∧ len ≤ elems.length + spare.length) := by
  obtain ⟨fuel, hf⟩ := h
  rcases open_ints Try.underlying48 Try.underlying3 cells3 hf with ⟨hcs, _⟩ | ⟨x, l, c, zs, hcs, _, hl, hm, hz, hx, hcell, hwz⟩
  · simp [Value.cells] at hcs
    obtain ⟨rfl, rfl, rfl⟩ := hcs
    exact ⟨[], rfl, fun h => absurd rfl h, trivial, Nat.le_refl _, fun _ => ⟨rfl, rfl⟩, .inl rfl⟩
  · simp [Value.cells] at hcs
    obtain ⟨rfl, rfl, rfl⟩ := hcs
    simp only [Prod.mk.injEq] at hx
    obtain ⟨rfl, _⟩ := hx
    have hz' : zs.length = cap := by simpa using hz
    refine ⟨zs.take len, by simp; omega, ?_, trivial, hl, (fun h => by cases h), .inr ⟨_, _, rfl, by simp [lits]; omega⟩⟩
    intro hne
    have hlen : 0 < len := by
      cases len with
      | zero => simp at hne
      | succ k => omega
    obtain ⟨b, off, spot⟩ := x
    have hc := hcell 0 (by omega)
    have hspot : spot = none := by simpa [Addr.add] using World.cell?_spot hc
    subst hspot
    refine ⟨b, off, rfl, fun i hi => ?_⟩
    have hi' : i < len := by have := List.length_take_le len zs; omega
    have := hcell i (by omega)
    rw [addr_add] at this
    rw [this]
    simp [hi']

theorem len_le_nums {H : Type} {ts : List TypeId} {ds : List (DataW H)} {j len : Nat} {d : DataW H} (hsz : (DataW.weightsEach Try.prog ts ds).all (· ≤ reachBytes) = true) (ht : ts[j]? = some 48) (hd : ds[j]? = some d)
    (h : len = 0 ∨ ∃ elems spare, d = .slice elems spare ∧ len ≤ elems.length + spare.length) : len * 8 ≤ 140737488351232 := by
  rcases h with rfl | ⟨elems, spare, rfl, h⟩
  · omega
  · have := sized_slice hsz (j := j) (t := 48) (e := 3) ht hd Try.underlying48
    rw [bytes3] at this
    simp only [reachBytes] at this
    omega

/-! ### cuts -/
/-- The cuts that a slice holds. -/
def SegC (w : World) (a : Option Addr) (len : Nat) (z : Nat → Int × Int) : Prop :=
  0 < len → ∃ b off, a = some ⟨b, off, none⟩ ∧ ∀ i, i < len → w.cell? ⟨b, off + i * 2, none⟩ = some (.int .i64 (z i).1) ∧ w.cell? ⟨b, off + i * 2 + 1, none⟩ = some (.int .i64 (z i).2)
theorem SegC.q {w w' : World} {a : Option Addr} {len : Nat} {z : Nat → Int × Int} (h : SegC w a len z) (hq : Q w w') : SegC w' a len z := by
  intro hne
  obtain ⟨b, off, ha, hc⟩ := h hne
  refine ⟨b, off, ha, fun i hi => ?_⟩
  have hb := lt_of_cell (hc i hi).1
  rw [hq.cell hb, hq.cell hb]
  exact hc i hi

theorem open_cuts {H : Type} {enc : TypeId × Value → H} {W : World} {a : Option Addr} {len cap : Nat} {d : DataW H} {p : List MemPlace}
    (h : DataW.Trod enc Try.prog W 0 (fun _ => true) true 47 (.slice a len cap) d p) :
    ∃ z : Nat → Int × Int, (∀ i, i < len → (-9223372036854775808 ≤ (z i).1 ∧ (z i).1 ≤ 9223372036854775807) ∧ (-9223372036854775808 ≤ (z i).2 ∧ (z i).2 ≤ 9223372036854775807)) ∧ SegC W a len z ∧ True ∧ len ≤ cap ∧ (a = none → len = 0 ∧ cap = 0) ∧ (len = 0 ∨ ∃ elems spare, d = .slice elems spare ∧ len ≤ elems.length + spare.length) := by
  obtain ⟨fuel, hf⟩ := h
  rcases open_slice_pairs Try.underlying47 Try.underlying50 cells50 rfl rfl cells3 cells3 hf with ⟨hcs, _⟩ | ⟨x, l, c, m, n, V0, V1, D0, D1, P0, P1, hcs, _, hl, hm, hmm, hx, hcell⟩
  · simp [Value.cells] at hcs
    obtain ⟨rfl, rfl, rfl⟩ := hcs
    exact ⟨fun _ => (0, 0), fun i hi => by omega, fun h => by omega, trivial, Nat.le_refl _, fun _ => ⟨rfl, rfl⟩, .inl rfl⟩
  · simp [Value.cells] at hcs
    obtain ⟨rfl, rfl, rfl⟩ := hcs
    simp only [Prod.mk.injEq] at hx
    obtain ⟨rfl, _⟩ := hx
    have hm' : m = cap := by simpa using hmm
    have e : ∀ i, i < len → ∃ q : Int × Int, V0 i = .int .i64 q.1 ∧ V1 i = .int .i64 q.2 ∧ (-9223372036854775808 ≤ q.1 ∧ q.1 ≤ 9223372036854775807) ∧ (-9223372036854775808 ≤ q.2 ∧ q.2 ≤ 9223372036854775807) := by
      intro i hi
      obtain ⟨_, _, h0, h1⟩ := hcell i (by omega)
      obtain ⟨n0, e0, _, g0⟩ := DataW.trod_int Try.underlying3 h0
      obtain ⟨n1, e1, _, g1⟩ := DataW.trod_int Try.underlying3 h1
      simp only [List.cons.injEq, and_true] at e0 e1
      exact ⟨(n0, n1), e0, e1, wf_i64 g0, wf_i64 g1⟩
    obtain ⟨f, hf'⟩ := choose_lt e
    refine ⟨f, fun i hi => (hf' i hi).2.2, ?_, trivial, hl, (fun h => by cases h), .inr ⟨_, _, rfl, by simp⟩⟩
    intro hlen
    obtain ⟨b, off, spot⟩ := x
    have hc := (hcell 0 (by omega)).1
    have hspot : spot = none := by simpa [Addr.add] using World.cell?_spot hc
    subst hspot
    refine ⟨b, off, rfl, fun i hi' => ?_⟩
    obtain ⟨h0, h1, _, _⟩ := hcell i (by omega)
    rw [addr_add] at h0 h1
    rw [Nat.add_assoc off, h0, h1, (hf' i hi').1, (hf' i hi').2.1]
    exact ⟨rfl, rfl⟩

theorem len_le_cuts {H : Type} {ts : List TypeId} {ds : List (DataW H)} {j len : Nat} {d : DataW H} (hsz : (DataW.weightsEach Try.prog ts ds).all (· ≤ reachBytes) = true) (ht : ts[j]? = some 47) (hd : ds[j]? = some d)
    (h : len = 0 ∨ ∃ elems spare, d = .slice elems spare ∧ len ≤ elems.length + spare.length) : len * 16 ≤ 140737488351232 := by
  rcases h with rfl | ⟨elems, spare, rfl, h⟩
  · omega
  · have := sized_slice hsz (j := j) (t := 47) (e := 50) ht hd Try.underlying47
    rw [bytes50] at this
    simp only [reachBytes] at this
    omega

/-! ### calls -/
/-- One call of a script. -/
structure Cl where
  kd : Int
  p : Int
  da : Option Addr
  dn : Nat
  dc : Nat
  f : Bool
  zs : List Int

/-- The calls that a script holds. -/
def SegO (w : World) (a : Option Addr) (len : Nat) (z : Nat → Cl) : Prop :=
  0 < len → ∃ b off, a = some ⟨b, off, none⟩ ∧ ∀ i, i < len → w.cell? ⟨b, off + i * 4, none⟩ = some (.int .i64 (z i).kd) ∧ w.cell? ⟨b, off + i * 4 + 1, none⟩ = some (.int .i64 (z i).p) ∧ w.cell? ⟨b, off + i * 4 + 2, none⟩ = some (.slice (z i).da (z i).dn (z i).dc) ∧ w.cell? ⟨b, off + i * 4 + 3, none⟩ = some (.bool (z i).f)
theorem SegO.q {w w' : World} {a : Option Addr} {len : Nat} {z : Nat → Cl} (h : SegO w a len z) (hq : Q w w') : SegO w' a len z := by
  intro hne
  obtain ⟨b, off, ha, hc⟩ := h hne
  refine ⟨b, off, ha, fun i hi => ?_⟩
  have hb := lt_of_cell (hc i hi).1
  rw [hq.cell hb, hq.cell hb, hq.cell hb, hq.cell hb]
  exact hc i hi
/-- What one call brings. -/
structure Good (w : World) (c : Cl) : Prop where
  seg : Seg w c.da c.zs
  len : c.zs.length = c.dn
  cap : c.dn ≤ c.dc

theorem open_ops {H : Type} {enc : TypeId × Value → H} {W : World} {a : Option Addr} {len cap : Nat} {d : DataW H} {p : List MemPlace}
    (h : DataW.Trod enc Try.prog W 0 (fun _ => true) true 34 (.slice a len cap) d p) :
    ∃ z : Nat → Cl, (∀ i, i < len → Good W (z i)) ∧ SegO W a len z ∧ True ∧ len ≤ cap ∧ (a = none → len = 0 ∧ cap = 0) ∧
      (len = 0 ∨ ∃ elems spare, d = .slice elems spare ∧ len ≤ elems.length + spare.length ∧ ∀ i, i < len → ∃ d0 d1 d2 d3, (DataW.agg [d0, d1, d2, d3]) ∈ elems ∧ ((z i).dn = 0 ∨ ∃ e2 s2, d2 = .slice e2 s2 ∧ (z i).dn ≤ e2.length + s2.length)) := by
  obtain ⟨fuel, hf⟩ := h
  rcases open_slice Try.underlying34 hf with ⟨hcs, _⟩ | ⟨x, l, c, m, n, D, Pl, hcs, hb, hl, hm, hmm, hx, hel⟩
  · simp [Value.cells] at hcs
    obtain ⟨rfl, rfl, rfl⟩ := hcs
    exact ⟨fun _ => ⟨0, 0, none, 0, 0, false, []⟩, fun i hi => by omega, fun h => absurd h (by omega), trivial, Nat.le_refl _, fun _ => ⟨rfl, rfl⟩, .inl rfl⟩
  · simp [Value.cells] at hcs
    obtain ⟨rfl, rfl, rfl⟩ := hcs
    simp only [Prod.mk.injEq] at hx
    obtain ⟨rfl, _⟩ := hx
    have hlm : len ≤ m := by rw [hmm]; split <;> omega
    have e : ∀ i, i < len → ∃ q : Cl, (W.cell? (x.add (i * 4)) = some (.int .i64 q.kd) ∧ W.cell? (x.add (i * 4 + 1)) = some (.int .i64 q.p) ∧ W.cell? (x.add (i * 4 + 2)) = some (.slice q.da q.dn q.dc) ∧ W.cell? (x.add (i * 4 + 3)) = some (.bool q.f)) ∧ Good W q ∧
        ∃ d0 d1 d2 d3, D i = DataW.agg [d0, d1, d2, d3] ∧ (q.dn = 0 ∨ ∃ e2 s2, d2 = .slice e2 s2 ∧ q.dn ≤ e2.length + s2.length) := by
      intro i hi
      obtain ⟨cs', h1, h2⟩ := hel i (by omega)
      rw [cells40] at h1
      obtain ⟨_, hlen, hcell⟩ := World.cells?_some h1
      obtain ⟨xs, k, hk, hxy, _, hxl, hf⟩ := DataW.trod_struct Try.underlying40 h2
      match xs, hxl, cs', hlen with
      | [y0, y1, y2, y3], _, [v0, v1, v2, v3], _ =>
        have g0 := hf 0 _ rfl
        have g1 := hf 1 _ rfl
        have g2 := hf 2 _ rfl
        have g3 := hf 3 _ rfl
        simp [cells3, cells4, cells28] at g0 g1 g2 g3
        have e0 := hcell 0 (by omega)
        have e1 := hcell 1 (by omega)
        have e2 := hcell 2 (by omega)
        have e3 := hcell 3 (by omega)
        rw [add_add] at e0 e1 e2 e3
        obtain ⟨n0, k0, _, _⟩ := DataW.trod_int Try.underlying3 g0
        obtain ⟨n1, k1, _, _⟩ := DataW.trod_int Try.underlying3 g1
        obtain ⟨b3, k3, _⟩ := DataW.trod_bool Try.underlying4 g3
        simp only [List.cons.injEq, and_true] at k0 k1 k3
        have hv2 : ∃ a2 l2 c2, v2 = .slice a2 l2 c2 := by
          rcases open_ints Try.underlying28 Try.underlying5 cells5 g2 with ⟨hcs, _⟩ | ⟨y, l, c, zs, hcs, _⟩
          · simp at hcs; exact ⟨_, _, _, hcs⟩
          · simp at hcs; exact ⟨_, _, _, hcs⟩
        obtain ⟨a2, l2, c2, rfl⟩ := hv2
        obtain ⟨zs, q1, q2, q3, q4, q5⟩ := trod_bytes g2
        simp only [Prod.mk.injEq] at hxy
        refine ⟨⟨n0, n1, a2, l2, c2, b3, zs⟩, ⟨by rw [← k0]; simpa using e0, by rw [← k1]; simpa using e1, by simpa using e2, by rw [← k3]; simpa using e3⟩, ⟨q2, q1, q3⟩, y0.1, y1.1, y2.1, y3.1, by simpa using hxy.1, q5⟩
    have inh : Inhabited Cl := ⟨⟨0, 0, none, 0, 0, false, []⟩⟩
    obtain ⟨f, hf'⟩ := choose_lt e
    refine ⟨f, fun i hi => (hf' i hi).2.1, ?_, trivial, hl, (fun h => by cases h), .inr ⟨_, _, rfl, by simp, fun i hi => ?_⟩⟩
    · intro hlen
      obtain ⟨b, off, spot⟩ := x
      have hc := (hf' 0 hlen).1.1
      have hspot : spot = none := by simpa [Addr.add] using World.cell?_spot hc
      subst hspot
      refine ⟨b, off, rfl, fun i hi => ?_⟩
      obtain ⟨⟨h0, h1, h2, h3⟩, _⟩ := hf' i hi
      rw [addr_add] at h0 h1 h2 h3
      exact ⟨h0, by rw [Nat.add_assoc off]; exact h1, by rw [Nat.add_assoc off]; exact h2, by rw [Nat.add_assoc off]; exact h3⟩
    · obtain ⟨_, _, d0, d1, d2, d3, hD, hr⟩ := hf' i hi
      exact ⟨d0, d1, d2, d3, by rw [← hD]; exact List.mem_map.2 ⟨i, List.mem_range.2 hi, rfl⟩, hr⟩

theorem weights_mem_all {H : Type} {P : Program} {e : TypeId} {d : DataW H} {l : List (DataW H)} (h : d ∈ l) {n : Nat} (hn : n ∈ d.weights P e) : n ∈ DataW.weightsAll P e l := by
  induction l with
  | nil => cases h
  | cons x r ih =>
    rw [DataW.weightsAll, List.mem_append]
    rcases List.mem_cons.1 h with rfl | h
    · exact .inl hn
    · exact .inr (ih h)

theorem len_le_ops {H : Type} {ts : List TypeId} {ds : List (DataW H)} {j len : Nat} {z : Nat → Cl} {d : DataW H} (hsz : (DataW.weightsEach Try.prog ts ds).all (· ≤ reachBytes) = true) (ht : ts[j]? = some 34) (hd : ds[j]? = some d)
    (h : len = 0 ∨ ∃ elems spare, d = .slice elems spare ∧ len ≤ elems.length + spare.length ∧ ∀ i, i < len → ∃ d0 d1 d2 d3, (DataW.agg [d0, d1, d2, d3]) ∈ elems ∧ ((z i).dn = 0 ∨ ∃ e2 s2, d2 = .slice e2 s2 ∧ (z i).dn ≤ e2.length + s2.length)) :
    len * 48 ≤ 140737488351232 ∧ ∀ i, i < len → (z i).dn ≤ 140737488351232 := by
  rcases h with rfl | ⟨elems, spare, rfl, h, hin⟩
  · exact ⟨by omega, fun i hi => by omega⟩
  · refine ⟨?_, fun i hi => ?_⟩
    · have := sized_slice hsz (j := j) (t := 34) (e := 40) ht hd Try.underlying34
      rw [bytes40] at this
      simp only [reachBytes] at this
      omega
    · obtain ⟨d0, d1, d2, d3, hm, h0 | ⟨e2, s2, rfl, hle⟩⟩ := hin i hi
      · omega
      · have hw : (e2.length + s2.length) * Try.prog.bytesOf 5 ∈ (DataW.agg [d0, d1, DataW.slice e2 s2, d3]).weights Try.prog 40 := by
          simp [DataW.weights, DataW.weightsEach, Try.underlying40, Try.underlying28]
        have hw2 := weights_mem_all hm hw
        have hw3 : (e2.length + s2.length) * Try.prog.bytesOf 5 ∈ (DataW.slice elems spare).weights Try.prog 34 := by
          simp only [DataW.weights, Try.underlying34, List.mem_cons, List.mem_append]
          exact .inr (.inl hw2)
        have := List.all_eq_true.1 hsz _ (DataW.weights_mem_each ht hd _ hw3)
        rw [bytes5] at this
        simp [reachBytes] at this
        omega

end Go.Proofs.Ytdgkeidpoodmeaa
