/-
  How an argument that is a slice of bytes, of numbers, of bools or of calls is opened: what it holds, and that it is not too long. Used by the statements' last steps.
-/
import Derived.Test.YtppemfdoogmeeaaRim
import Derived.Test.YtppemfdoogmeeaaLaw
import Derived.Deep.SlicePairs
namespace Go.Proofs.Ytppemfdoogmeeaa
open Go.ChangeShapes Go.WideShapes Go.ChangeAt Go.RowKit Go.Deep
set_option linter.unusedVariables false

theorem bytes5 : Try.prog.bytesOf 5 = 1 := by kernel_rfl
theorem cells5 : Try.prog.cellsOf 5 = 1 := by kernel_rfl
theorem cells3 : Try.prog.cellsOf 3 = 1 := by kernel_rfl
theorem cells4 : Try.prog.cellsOf 4 = 1 := by kernel_rfl
theorem bytes4 : Try.prog.bytesOf 4 = 1 := by kernel_rfl
theorem cells27 : Try.prog.cellsOf 27 = 1 := by kernel_rfl
theorem bytes3 : Try.prog.bytesOf 3 = 8 := by kernel_rfl
theorem bytes38 : Try.prog.bytesOf 38 = 56 := by kernel_rfl
theorem cells38 : Try.prog.cellsOf 38 = 5 := by kernel_rfl

theorem wf_i64 {n : Int} (h : (Lit.int .i64 n).wf = true) : -9223372036854775808 ≤ n ∧ n ≤ 9223372036854775807 := by
  simpa [Lit.wf, IntKind.min, IntKind.max, IntKind.signed, IntKind.bits] using h

/-! ### bytes -/
theorem trod_bytes {H : Type} {enc : TypeId × Value → H} {W : World} {fuel : Nat} {a : Option Addr} {len cap : Nat} {x : DataW H × List MemPlace}
    (h : DataW.trod enc Try.prog W 0 (fun _ => true) true fuel 27 [.slice a len cap] = some x) :
    ∃ zs : List Int, zs.length = len ∧ Seg W a zs ∧ len ≤ cap ∧ (a = none → len = 0 ∧ cap = 0) ∧ (len = 0 ∨ ∃ elems spare, x.1 = .slice elems spare ∧ len ≤ elems.length + spare.length) := by
  rcases open_ints Try.underlying27 Try.underlying5 cells5 h with ⟨hcs, _⟩ | ⟨y, l, c, zs, hcs, _, hl, hm, hz, hx, hcell, hwz⟩
  · simp at hcs
    obtain ⟨rfl, rfl, rfl⟩ := hcs
    exact ⟨[], rfl, seg_nil _ _, Nat.le_refl _, fun _ => ⟨rfl, rfl⟩, .inl rfl⟩
  · simp at hcs
    obtain ⟨rfl, rfl, rfl⟩ := hcs
    subst hx
    have hz' : zs.length = cap := by simpa using hz
    refine ⟨zs.take len, by simp; omega, ?_, hl, (fun h => by cases h), .inr ⟨_, _, rfl, by simp [lits]; omega⟩⟩
    intro hne
    have hlen : 0 < len := by
      cases len with
      | zero => simp at hne
      | succ k => omega
    obtain ⟨b, off, spot⟩ := y
    have hc := hcell 0 (by omega)
    have hspot : spot = none := by simpa [Addr.add] using World.cell?_spot hc
    subst hspot
    refine ⟨b, off, rfl, fun i hi => ?_⟩
    have hi' : i < len := by have := List.length_take_le len zs; omega
    have := hcell i (by omega)
    rw [addr_add] at this
    rw [this]
    simp [hi']

theorem open_bytes {H : Type} {enc : TypeId × Value → H} {W : World} {a : Option Addr} {len cap : Nat} {d : DataW H} {p : List MemPlace}
    (h : DataW.Trod enc Try.prog W 0 (fun _ => true) true 27 (.slice a len cap) d p) :
    ∃ zs : List Int, zs.length = len ∧ Seg W a zs ∧ True ∧ len ≤ cap ∧ (a = none → len = 0 ∧ cap = 0) ∧ (len = 0 ∨ ∃ elems spare, d = .slice elems spare ∧ len ≤ elems.length + spare.length) := by
  obtain ⟨fuel, hf⟩ := h
  obtain ⟨zs, h1, h2, h3, h4, h5⟩ := trod_bytes (by simpa [Value.cells] using hf)
  exact ⟨zs, h1, h2, trivial, h3, h4, h5⟩

theorem len_le_bytes {H : Type} {ts : List TypeId} {ds : List (DataW H)} {j len : Nat} {d : DataW H} (hsz : (DataW.weightsEach Try.prog ts ds).all (· ≤ reachBytes) = true) (ht : ts[j]? = some 27) (hd : ds[j]? = some d)
    (h : len = 0 ∨ ∃ elems spare, d = .slice elems spare ∧ len ≤ elems.length + spare.length) : len ≤ 140737488351232 := by
  rcases h with rfl | ⟨elems, spare, rfl, h⟩
  · omega
  · have := sized_slice hsz (j := j) (t := 27) (e := 5) ht hd Try.underlying27
    rw [bytes5] at this
    simp only [reachBytes] at this
    omega

/-! ### numbers -/
/-- The numbers that a slice of ints holds. -/
def SegN (w : World) (a : Option Addr) (zs : List Int) : Prop := zs ≠ [] → ∃ b off, a = some ⟨b, off, none⟩ ∧ ∀ i, i < zs.length → w.cell? ⟨b, off + i, none⟩ = some (.int .i64 (zs.getD i 0))
theorem SegN.q {w w' : World} {a : Option Addr} {zs : List Int} (h : SegN w a zs) (hq : Q w w') : SegN w' a zs := by
  intro hne
  obtain ⟨b, off, ha, hc⟩ := h hne
  refine ⟨b, off, ha, fun i hi => ?_⟩
  rw [hq.cell (lt_of_cell (hc i hi))]
  exact hc i hi

theorem open_nums {H : Type} {enc : TypeId × Value → H} {W : World} {a : Option Addr} {len cap : Nat} {d : DataW H} {p : List MemPlace}
    (h : DataW.Trod enc Try.prog W 0 (fun _ => true) true 34 (.slice a len cap) d p) :
    ∃ zs : List Int, zs.length = len ∧ SegN W a zs ∧ True ∧ len ≤ cap ∧ (a = none → len = 0 ∧ cap = 0) ∧ (len = 0 ∨ ∃ elems spare, d = .slice elems spare ∧ len ≤ elems.length + spare.length) := by
  obtain ⟨fuel, hf⟩ := h
  rcases open_ints Try.underlying34 Try.underlying3 cells3 hf with ⟨hcs, _⟩ | ⟨x, l, c, zs, hcs, _, hl, hm, hz, hx, hcell, hwz⟩
  · simp [Value.cells] at hcs
    obtain ⟨rfl, rfl, rfl⟩ := hcs
    exact ⟨[], rfl, fun h => absurd rfl h, trivial, Nat.le_refl _, fun _ => ⟨rfl, rfl⟩, .inl rfl⟩
  · simp [Value.cells] at hcs
    obtain ⟨rfl, rfl, rfl⟩ := hcs
    simp only [Prod.mk.injEq] at hx
    obtain ⟨rfl, _⟩ := hx
    have hz' : zs.length = cap := by simpa using hz
    refine ⟨zs.take len, by simp; omega, ?_, trivial, hl, (fun h => by cases h), .inr ⟨_, _, rfl, by simp [lits]; omega⟩⟩
    intro hne
    have hlen : 0 < len := by
      cases len with
      | zero => simp at hne
      | succ k => omega
    obtain ⟨b, off, spot⟩ := x
    have hc := hcell 0 (by omega)
    have hspot : spot = none := by simpa [Addr.add] using World.cell?_spot hc
    subst hspot
    refine ⟨b, off, rfl, fun i hi => ?_⟩
    have hi' : i < len := by have := List.length_take_le len zs; omega
    have := hcell i (by omega)
    rw [addr_add] at this
    rw [this]
    simp [hi']

theorem len_le_nums {H : Type} {ts : List TypeId} {ds : List (DataW H)} {j len : Nat} {d : DataW H} (hsz : (DataW.weightsEach Try.prog ts ds).all (· ≤ reachBytes) = true) (ht : ts[j]? = some 34) (hd : ds[j]? = some d)
    (h : len = 0 ∨ ∃ elems spare, d = .slice elems spare ∧ len ≤ elems.length + spare.length) : len * 8 ≤ 140737488351232 := by
  rcases h with rfl | ⟨elems, spare, rfl, h⟩
  · omega
  · have := sized_slice hsz (j := j) (t := 34) (e := 3) ht hd Try.underlying34
    rw [bytes3] at this
    simp only [reachBytes] at this
    omega

/-! ### bools -/
/-- The bools that a slice holds. -/
def SegB (w : World) (a : Option Addr) (len : Nat) (z : Nat → Bool) : Prop := 0 < len → ∃ b off, a = some ⟨b, off, none⟩ ∧ ∀ i, i < len → w.cell? ⟨b, off + i, none⟩ = some (.bool (z i))
theorem SegB.q {w w' : World} {a : Option Addr} {len : Nat} {z : Nat → Bool} (h : SegB w a len z) (hq : Q w w') : SegB w' a len z := by
  intro hne
  obtain ⟨b, off, ha, hc⟩ := h hne
  refine ⟨b, off, ha, fun i hi => ?_⟩
  rw [hq.cell (lt_of_cell (hc i hi))]
  exact hc i hi

theorem open_bools {H : Type} {enc : TypeId × Value → H} {W : World} {a : Option Addr} {len cap : Nat} {d : DataW H} {p : List MemPlace}
    (h : DataW.Trod enc Try.prog W 0 (fun _ => true) true 42 (.slice a len cap) d p) :
    ∃ z : Nat → Bool, True ∧ SegB W a len z ∧ True ∧ len ≤ cap ∧ (a = none → len = 0 ∧ cap = 0) ∧ (len = 0 ∨ ∃ elems spare, d = .slice elems spare ∧ len ≤ elems.length + spare.length) := by
  obtain ⟨fuel, hf⟩ := h
  rcases open_slice Try.underlying42 hf with ⟨hcs, _⟩ | ⟨x, l, c, m, n, D, Pl, hcs, hb, hl, hm, hmm, hx, hel⟩
  · simp [Value.cells] at hcs
    obtain ⟨rfl, rfl, rfl⟩ := hcs
    exact ⟨fun _ => false, trivial, fun h => absurd h (by omega), trivial, Nat.le_refl _, fun _ => ⟨rfl, rfl⟩, .inl rfl⟩
  · simp [Value.cells] at hcs
    obtain ⟨rfl, rfl, rfl⟩ := hcs
    simp only [Prod.mk.injEq] at hx
    obtain ⟨rfl, _⟩ := hx
    have hlm : len ≤ m := by rw [hmm]; split <;> omega
    have e : ∀ i, i < len → ∃ q : Bool, W.cell? (x.add i) = some (.bool q) := by
      intro i hi
      obtain ⟨cs', h1, h2⟩ := hel i (by omega)
      rw [cells4] at h1
      obtain ⟨_, hlen, hcell⟩ := World.cells?_some h1
      match cs', hlen with
      | [v0], _ =>
        obtain ⟨b0, k0, _⟩ := DataW.trod_bool Try.underlying4 h2
        simp only [List.cons.injEq, and_true] at k0
        have e0 := hcell 0 (by omega)
        rw [add_add] at e0
        refine ⟨b0, ?_⟩
        rw [← k0]; simpa using e0
    obtain ⟨f, hf'⟩ := choose_lt e
    refine ⟨f, trivial, ?_, trivial, hl, (fun h => by cases h), .inr ⟨_, _, rfl, by simp⟩⟩
    intro hlen
    obtain ⟨b, off, spot⟩ := x
    have hc := hf' 0 hlen
    have hspot : spot = none := by simpa [Addr.add] using World.cell?_spot hc
    subst hspot
    refine ⟨b, off, rfl, fun i hi => ?_⟩
    have := hf' i hi
    rwa [addr_add] at this

theorem len_le_bools {H : Type} {ts : List TypeId} {ds : List (DataW H)} {j len : Nat} {d : DataW H} (hsz : (DataW.weightsEach Try.prog ts ds).all (· ≤ reachBytes) = true) (ht : ts[j]? = some 42) (hd : ds[j]? = some d)
    (h : len = 0 ∨ ∃ elems spare, d = .slice elems spare ∧ len ≤ elems.length + spare.length) : len ≤ 140737488351232 := by
  rcases h with rfl | ⟨elems, spare, rfl, h⟩
  · omega
  · have := sized_slice hsz (j := j) (t := 42) (e := 4) ht hd Try.underlying42
    rw [bytes4] at this
    simp only [reachBytes] at this
    omega

/-! ### calls -/
/-- One call of a script. -/
structure Cl where
  kd : Int
  p : Int
  q : Int
  da : Option Addr
  dn : Nat
  dc : Nat
  f : Bool
  zs : List Int

/-- The calls that a script holds. -/
def SegO (w : World) (a : Option Addr) (len : Nat) (z : Nat → Cl) : Prop :=
  0 < len → ∃ b off, a = some ⟨b, off, none⟩ ∧ ∀ i, i < len → w.cell? ⟨b, off + i * 5, none⟩ = some (.int .i64 (z i).kd) ∧ w.cell? ⟨b, off + i * 5 + 1, none⟩ = some (.int .i64 (z i).p) ∧ w.cell? ⟨b, off + i * 5 + 2, none⟩ = some (.int .i64 (z i).q) ∧ w.cell? ⟨b, off + i * 5 + 3, none⟩ = some (.slice (z i).da (z i).dn (z i).dc) ∧ w.cell? ⟨b, off + i * 5 + 4, none⟩ = some (.bool (z i).f)
theorem SegO.q {w w' : World} {a : Option Addr} {len : Nat} {z : Nat → Cl} (h : SegO w a len z) (hq : Q w w') : SegO w' a len z := by
  intro hne
  obtain ⟨b, off, ha, hc⟩ := h hne
  refine ⟨b, off, ha, fun i hi => ?_⟩
  have hb := lt_of_cell (hc i hi).1
  rw [hq.cell hb, hq.cell hb, hq.cell hb, hq.cell hb, hq.cell hb]
  exact hc i hi
/-- What one call brings. -/
structure Good (w : World) (c : Cl) : Prop where
  seg : Seg w c.da c.zs
  len : c.zs.length = c.dn
  cap : c.dn ≤ c.dc
  q0 : c.q ≤ 9223372036854775807

theorem open_ops {H : Type} {enc : TypeId × Value → H} {W : World} {a : Option Addr} {len cap : Nat} {d : DataW H} {p : List MemPlace}
    (h : DataW.Trod enc Try.prog W 0 (fun _ => true) true 32 (.slice a len cap) d p) :
    ∃ z : Nat → Cl, (∀ i, i < len → Good W (z i)) ∧ SegO W a len z ∧ True ∧ len ≤ cap ∧ (a = none → len = 0 ∧ cap = 0) ∧
      (len = 0 ∨ ∃ elems spare, d = .slice elems spare ∧ len ≤ elems.length + spare.length ∧ ∀ i, i < len → ∃ d0 d1 d2 d3 d4, (DataW.agg [d0, d1, d2, d3, d4]) ∈ elems ∧ ((z i).dn = 0 ∨ ∃ e2 s2, d3 = .slice e2 s2 ∧ (z i).dn ≤ e2.length + s2.length)) := by
  obtain ⟨fuel, hf⟩ := h
  rcases open_slice Try.underlying32 hf with ⟨hcs, _⟩ | ⟨x, l, c, m, n, D, Pl, hcs, hb, hl, hm, hmm, hx, hel⟩
  · simp [Value.cells] at hcs
    obtain ⟨rfl, rfl, rfl⟩ := hcs
    exact ⟨fun _ => ⟨0, 0, 0, none, 0, 0, false, []⟩, fun i hi => by omega, fun h => absurd h (by omega), trivial, Nat.le_refl _, fun _ => ⟨rfl, rfl⟩, .inl rfl⟩
  · simp [Value.cells] at hcs
    obtain ⟨rfl, rfl, rfl⟩ := hcs
    simp only [Prod.mk.injEq] at hx
    obtain ⟨rfl, _⟩ := hx
    have hlm : len ≤ m := by rw [hmm]; split <;> omega
    have e : ∀ i, i < len → ∃ q : Cl, (W.cell? (x.add (i * 5)) = some (.int .i64 q.kd) ∧ W.cell? (x.add (i * 5 + 1)) = some (.int .i64 q.p) ∧ W.cell? (x.add (i * 5 + 2)) = some (.int .i64 q.q) ∧ W.cell? (x.add (i * 5 + 3)) = some (.slice q.da q.dn q.dc) ∧ W.cell? (x.add (i * 5 + 4)) = some (.bool q.f)) ∧ Good W q ∧
        ∃ d0 d1 d2 d3 d4, D i = DataW.agg [d0, d1, d2, d3, d4] ∧ (q.dn = 0 ∨ ∃ e2 s2, d3 = .slice e2 s2 ∧ q.dn ≤ e2.length + s2.length) := by
      intro i hi
      obtain ⟨cs', h1, h2⟩ := hel i (by omega)
      rw [cells38] at h1
      obtain ⟨_, hlen, hcell⟩ := World.cells?_some h1
      obtain ⟨xs, k, hk, hxy, _, hxl, hf⟩ := DataW.trod_struct Try.underlying38 h2
      match xs, hxl, cs', hlen with
      | [y0, y1, y2, y3, y4], _, [v0, v1, v2, v3, v4], _ =>
        have g0 := hf 0 _ rfl
        have g1 := hf 1 _ rfl
        have g2 := hf 2 _ rfl
        have g3 := hf 3 _ rfl
        have g4 := hf 4 _ rfl
        simp [cells3, cells4, cells27] at g0 g1 g2 g3 g4
        have e0 := hcell 0 (by omega)
        have e1 := hcell 1 (by omega)
        have e2 := hcell 2 (by omega)
        have e3 := hcell 3 (by omega)
        have e4 := hcell 4 (by omega)
        rw [add_add] at e0 e1 e2 e3 e4
        obtain ⟨n0, k0, _, _⟩ := DataW.trod_int Try.underlying3 g0
        obtain ⟨n1, k1, _, _⟩ := DataW.trod_int Try.underlying3 g1
        obtain ⟨n2, k2, _, j2⟩ := DataW.trod_int Try.underlying3 g2
        obtain ⟨b4, k4, _⟩ := DataW.trod_bool Try.underlying4 g4
        simp only [List.cons.injEq, and_true] at k0 k1 k2 k4
        have hv3 : ∃ a2 l2 c2, v3 = .slice a2 l2 c2 := by
          rcases open_ints Try.underlying27 Try.underlying5 cells5 g3 with ⟨hcs, _⟩ | ⟨y, l, c, zs, hcs, _⟩
          · simp at hcs; exact ⟨_, _, _, hcs⟩
          · simp at hcs; exact ⟨_, _, _, hcs⟩
        obtain ⟨a2, l2, c2, rfl⟩ := hv3
        obtain ⟨zs, q1, q2, q3, q4, q5⟩ := trod_bytes g3
        simp only [Prod.mk.injEq] at hxy
        refine ⟨⟨n0, n1, n2, a2, l2, c2, b4, zs⟩, ⟨by rw [← k0]; simpa using e0, by rw [← k1]; simpa using e1, by rw [← k2]; simpa using e2, by simpa using e3, by rw [← k4]; simpa using e4⟩, ⟨q2, q1, q3, (wf_i64 j2).2⟩, y0.1, y1.1, y2.1, y3.1, y4.1, by simpa using hxy.1, q5⟩
    have inh : Inhabited Cl := ⟨⟨0, 0, 0, none, 0, 0, false, []⟩⟩
    obtain ⟨f, hf'⟩ := choose_lt e
    refine ⟨f, fun i hi => (hf' i hi).2.1, ?_, trivial, hl, (fun h => by cases h), .inr ⟨_, _, rfl, by simp, fun i hi => ?_⟩⟩
    · intro hlen
      obtain ⟨b, off, spot⟩ := x
      have hc := (hf' 0 hlen).1.1
      have hspot : spot = none := by simpa [Addr.add] using World.cell?_spot hc
      subst hspot
      refine ⟨b, off, rfl, fun i hi => ?_⟩
      obtain ⟨⟨h0, h1, h2, h3, h4⟩, _⟩ := hf' i hi
      rw [addr_add] at h0 h1 h2 h3 h4
      exact ⟨h0, by rw [Nat.add_assoc off]; exact h1, by rw [Nat.add_assoc off]; exact h2, by rw [Nat.add_assoc off]; exact h3, by rw [Nat.add_assoc off]; exact h4⟩
    · obtain ⟨_, _, d0, d1, d2, d3, d4, hD, hr⟩ := hf' i hi
      exact ⟨d0, d1, d2, d3, d4, by rw [← hD]; exact List.mem_map.2 ⟨i, List.mem_range.2 hi, rfl⟩, hr⟩

theorem weights_mem_all {H : Type} {P : Program} {e : TypeId} {d : DataW H} {l : List (DataW H)} (h : d ∈ l) {n : Nat} (hn : n ∈ d.weights P e) : n ∈ DataW.weightsAll P e l := by
  induction l with
  | nil => cases h
  | cons x r ih =>
    rw [DataW.weightsAll, List.mem_append]
    rcases List.mem_cons.1 h with rfl | h
    · exact .inl hn
    · exact .inr (ih h)

theorem len_le_ops {H : Type} {ts : List TypeId} {ds : List (DataW H)} {j len : Nat} {z : Nat → Cl} {d : DataW H} (hsz : (DataW.weightsEach Try.prog ts ds).all (· ≤ reachBytes) = true) (ht : ts[j]? = some 32) (hd : ds[j]? = some d)
    (h : len = 0 ∨ ∃ elems spare, d = .slice elems spare ∧ len ≤ elems.length + spare.length ∧ ∀ i, i < len → ∃ d0 d1 d2 d3 d4, (DataW.agg [d0, d1, d2, d3, d4]) ∈ elems ∧ ((z i).dn = 0 ∨ ∃ e2 s2, d3 = .slice e2 s2 ∧ (z i).dn ≤ e2.length + s2.length)) :
    len * 56 ≤ 140737488351232 ∧ ∀ i, i < len → (z i).dn ≤ 140737488351232 := by
  rcases h with rfl | ⟨elems, spare, rfl, h, hin⟩
  · exact ⟨by omega, fun i hi => by omega⟩
  · refine ⟨?_, fun i hi => ?_⟩
    · have := sized_slice hsz (j := j) (t := 32) (e := 38) ht hd Try.underlying32
      rw [bytes38] at this
      simp only [reachBytes] at this
      omega
    · obtain ⟨d0, d1, d2, d3, d4, hm, h0 | ⟨e2, s2, rfl, hle⟩⟩ := hin i hi
      · omega
      · have hw : (e2.length + s2.length) * Try.prog.bytesOf 5 ∈ (DataW.agg [d0, d1, d2, DataW.slice e2 s2, d4]).weights Try.prog 38 := by
          simp [DataW.weights, DataW.weightsEach, Try.underlying38, Try.underlying27]
        have hw2 := weights_mem_all hm hw
        have hw3 : (e2.length + s2.length) * Try.prog.bytesOf 5 ∈ (DataW.slice elems spare).weights Try.prog 32 := by
          simp only [DataW.weights, Try.underlying32, List.mem_cons, List.mem_append]
          exact .inr (.inl hw2)
        have := List.all_eq_true.1 hsz _ (DataW.weights_mem_each ht hd _ hw3)
        rw [bytes5] at this
        simp [reachBytes] at this
        omega

end Go.Proofs.Ytppemfdoogmeeaa
