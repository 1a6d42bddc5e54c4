/-
  How an argument that is a slice of calls is opened: what it holds, and that it is not too long. Used by the statements' last steps.
-/
import Derived.Test.YtjhihcmemnhbbaaRim
import Derived.Test.YtjhihcmemnhbbaaLs
import Derived.Deep.SlicePairs
namespace Go.Proofs.Ytjhihcmemnhbbaa
open Go.ChangeShapes Go.WideShapes Go.ChangeAt Go.RowKit Go.Deep
set_option linter.unusedVariables false
set_option maxRecDepth 20000

theorem bytes57 : Try.prog.bytesOf 57 = 16 := by kernel_rfl
theorem cells57 : Try.prog.cellsOf 57 = 2 := by kernel_rfl
theorem cells3 : Try.prog.cellsOf 3 = 1 := by kernel_rfl
theorem cells4 : Try.prog.cellsOf 4 = 1 := by kernel_rfl
theorem cells38 : Try.prog.cellsOf 38 = 1 := by kernel_rfl
theorem bytes40 : Try.prog.bytesOf 40 = 72 := by kernel_rfl
theorem cells40 : Try.prog.cellsOf 40 = 7 := by kernel_rfl

theorem trod_spans {H : Type} {enc : TypeId × Value → H} {W : World} {fuel : Nat} {a : Option Addr} {len cap : Nat} {y : DataW H × List MemPlace}
    (h : DataW.trod enc Try.prog W 0 (fun _ => true) true fuel 38 [.slice a len cap] = some y) :
    ∃ zs : List Spn, zs.length = len ∧ SegS W a zs ∧ len ≤ cap ∧ (len = 0 ∨ ∃ elems spare, y.1 = .slice elems spare ∧ len ≤ elems.length + spare.length) := by
  rcases open_slice_pairs Try.underlying38 Try.underlying57 cells57 rfl rfl cells3 cells3 h with ⟨hcs, _⟩ | ⟨x, l, c, m, n, V0, V1, D0, D1, P0, P1, hcs, _, hl, hm, hmm, hx, hcell⟩
  · simp at hcs
    obtain ⟨rfl, rfl, rfl⟩ := hcs
    exact ⟨[], rfl, fun h => absurd rfl h, Nat.le_refl _, .inl rfl⟩
  · simp at hcs
    obtain ⟨rfl, rfl, rfl⟩ := hcs
    subst hx
    have hm' : m = cap := by simpa using hmm
    have e : ∀ i, i < len → ∃ q : Int × Int, V0 i = .int .i64 q.1 ∧ V1 i = .int .i64 q.2 := by
      intro i hi
      obtain ⟨_, _, h0, h1⟩ := hcell i (by omega)
      obtain ⟨n0, e0, _, _⟩ := DataW.trod_int Try.underlying3 h0
      obtain ⟨n1, e1, _, _⟩ := DataW.trod_int Try.underlying3 h1
      simp only [List.cons.injEq, and_true] at e0 e1
      exact ⟨(n0, n1), e0, e1⟩
    obtain ⟨f, hf'⟩ := choose_lt e
    refine ⟨(List.range len).map f, by simp, ?_, hl, .inr ⟨_, _, rfl, by simp⟩⟩
    intro hne
    have hlen : 0 < len := by
      cases len with
      | zero => simp at hne
      | succ k => omega
    obtain ⟨b, off, spot⟩ := x
    have hc := (hcell 0 (by omega)).1
    have hspot : spot = none := by simpa [Addr.add] using World.cell?_spot hc
    subst hspot
    refine ⟨b, off, rfl, fun i hi => ?_⟩
    have hi' : i < len := by simpa using hi
    obtain ⟨h0, h1, _, _⟩ := hcell i (by omega)
    rw [addr_add] at h0 h1
    have eg : ((List.range len).map f).getD i (0, 0) = f i := by
      rw [List.getD_eq_getElem?_getD, List.getElem?_map, List.getElem?_range hi']; rfl
    rw [eg]
    rw [(hf' i hi').1] at h0
    rw [(hf' i hi').2] at h1
    exact ⟨h0, by rw [Nat.add_assoc]; exact h1⟩

/-- One call of a script. -/
structure Cl where
  kd : Int
  sp : Int
  nu : Int
  sz : Int
  nw : Int
  el : Bool
  da : Option Addr
  dn : Nat
  dc : Nat
  zs : List Spn
/-- A call's cells. -/
structure CAt (w : World) (b o : Nat) (c : Cl) : Prop where
  c0 : w.cell? ⟨b, o, none⟩ = some (.int .i64 c.kd)
  c1 : w.cell? ⟨b, o + 1, none⟩ = some (.int .i64 c.sp)
  c2 : w.cell? ⟨b, o + 2, none⟩ = some (.int .i64 c.nu)
  c3 : w.cell? ⟨b, o + 3, none⟩ = some (.int .i64 c.sz)
  c4 : w.cell? ⟨b, o + 4, none⟩ = some (.int .i64 c.nw)
  c5 : w.cell? ⟨b, o + 5, none⟩ = some (.bool c.el)
  c6 : w.cell? ⟨b, o + 6, none⟩ = some (.slice c.da c.dn c.dc)
/-- The calls that a script holds. -/
def SegO (w : World) (a : Option Addr) (len : Nat) (z : Nat → Cl) : Prop :=
  0 < len → ∃ b off, a = some ⟨b, off, none⟩ ∧ ∀ i, i < len → CAt w b (off + i * 7) (z i)
theorem SegO.q {w w' : World} {a : Option Addr} {len : Nat} {z : Nat → Cl} (h : SegO w a len z) (hq : Q w w') : SegO w' a len z := by
  intro hne
  obtain ⟨b, off, ha, hc⟩ := h hne
  refine ⟨b, off, ha, fun i hi => ?_⟩
  have hh := hc i hi
  have hb := lt_of_cell hh.c0
  exact ⟨(hq.cell hb).trans hh.c0, (hq.cell hb).trans hh.c1, (hq.cell hb).trans hh.c2, (hq.cell hb).trans hh.c3, (hq.cell hb).trans hh.c4, (hq.cell hb).trans hh.c5, (hq.cell hb).trans hh.c6⟩
/-- What one call brings. -/
structure Good (w : World) (c : Cl) : Prop where
  seg : SegS w c.da c.zs
  len : c.zs.length = c.dn
  cap : c.dn ≤ c.dc

set_option maxHeartbeats 1000000 in
theorem open_ops {H : Type} {enc : TypeId × Value → H} {W : World} {a : Option Addr} {len cap : Nat} {d : DataW H} {p : List MemPlace}
    (h : DataW.Trod enc Try.prog W 0 (fun _ => true) true 33 (.slice a len cap) d p) :
    ∃ z : Nat → Cl, (∀ i, i < len → Good W (z i)) ∧ SegO W a len z ∧ True ∧ len ≤ cap ∧ (a = none → len = 0 ∧ cap = 0) ∧
      (len = 0 ∨ ∃ elems spare, d = .slice elems spare ∧ len ≤ elems.length + spare.length ∧ ∀ i, i < len → ∃ d0 d1 d2 d3 d4 d5 d6, (DataW.agg [d0, d1, d2, d3, d4, d5, d6]) ∈ elems ∧ ((z i).dn = 0 ∨ ∃ e2 s2, d6 = .slice e2 s2 ∧ (z i).dn ≤ e2.length + s2.length)) := by
  obtain ⟨fuel, hf⟩ := h
  rcases open_slice Try.underlying33 hf with ⟨hcs, _⟩ | ⟨x, l, c, m, n, D, Pl, hcs, hb, hl, hm, hmm, hx, hel⟩
  · simp [Value.cells] at hcs
    obtain ⟨rfl, rfl, rfl⟩ := hcs
    exact ⟨fun _ => ⟨0, 0, 0, 0, 0, false, none, 0, 0, []⟩, fun i hi => by omega, fun h => absurd h (by omega), trivial, Nat.le_refl _, fun _ => ⟨rfl, rfl⟩, .inl rfl⟩
  · simp [Value.cells] at hcs
    obtain ⟨rfl, rfl, rfl⟩ := hcs
    simp only [Prod.mk.injEq] at hx
    obtain ⟨rfl, _⟩ := hx
    have hlm : len ≤ m := by rw [hmm]; split <;> omega
    have e : ∀ i, i < len → ∃ q : Cl, (W.cell? (x.add (i * 7)) = some (.int .i64 q.kd) ∧ W.cell? (x.add (i * 7 + 1)) = some (.int .i64 q.sp) ∧ W.cell? (x.add (i * 7 + 2)) = some (.int .i64 q.nu) ∧ W.cell? (x.add (i * 7 + 3)) = some (.int .i64 q.sz) ∧ W.cell? (x.add (i * 7 + 4)) = some (.int .i64 q.nw) ∧ W.cell? (x.add (i * 7 + 5)) = some (.bool q.el) ∧ W.cell? (x.add (i * 7 + 6)) = some (.slice q.da q.dn q.dc)) ∧ Good W q ∧
        ∃ d0 d1 d2 d3 d4 d5 d6, D i = DataW.agg [d0, d1, d2, d3, d4, d5, d6] ∧ (q.dn = 0 ∨ ∃ e2 s2, d6 = .slice e2 s2 ∧ q.dn ≤ e2.length + s2.length) := by
      intro i hi
      obtain ⟨cs', h1, h2⟩ := hel i (by omega)
      rw [cells40] at h1
      obtain ⟨_, hlen, hcell⟩ := World.cells?_some h1
      obtain ⟨xs, k, hk, hxy, _, hxl, hf⟩ := DataW.trod_struct Try.underlying40 h2
      match xs, hxl, cs', hlen with
      | [y0, y1, y2, y3, y4, y5, y6], _, [v0, v1, v2, v3, v4, v5, v6], _ =>
        have g0 := hf 0 _ rfl
        have g1 := hf 1 _ rfl
        have g2 := hf 2 _ rfl
        have g3 := hf 3 _ rfl
        have g4 := hf 4 _ rfl
        have g5 := hf 5 _ rfl
        have g6 := hf 6 _ rfl
        simp [cells3, cells4, cells38] at g0 g1 g2 g3 g4 g5 g6
        have e0 := hcell 0 (by omega)
        have e1 := hcell 1 (by omega)
        have e2 := hcell 2 (by omega)
        have e3 := hcell 3 (by omega)
        have e4 := hcell 4 (by omega)
        have e5 := hcell 5 (by omega)
        have e6 := hcell 6 (by omega)
        rw [add_add] at e0 e1 e2 e3 e4 e5 e6
        obtain ⟨n0, k0, _, _⟩ := DataW.trod_int Try.underlying3 g0
        obtain ⟨n1, k1, _, _⟩ := DataW.trod_int Try.underlying3 g1
        obtain ⟨n2, k2, _, _⟩ := DataW.trod_int Try.underlying3 g2
        obtain ⟨n3, k3, _, _⟩ := DataW.trod_int Try.underlying3 g3
        obtain ⟨n4, k4, _, _⟩ := DataW.trod_int Try.underlying3 g4
        obtain ⟨b5, k5, _⟩ := DataW.trod_bool Try.underlying4 g5
        simp only [List.cons.injEq, and_true] at k0 k1 k2 k3 k4 k5
        have hv : ∃ a2 l2 c2, v6 = .slice a2 l2 c2 := by
          rcases open_slice Try.underlying38 g6 with ⟨hcs, _⟩ | ⟨y, l, c, m, n, D, Pl, hcs, _⟩
          · simp at hcs; exact ⟨_, _, _, hcs⟩
          · simp at hcs; exact ⟨_, _, _, hcs⟩
        obtain ⟨a2, l2, c2, rfl⟩ := hv
        obtain ⟨zs, q1, q2, q3, q5⟩ := trod_spans g6
        simp only [Prod.mk.injEq] at hxy
        refine ⟨⟨n0, n1, n2, n3, n4, b5, a2, l2, c2, zs⟩, ⟨by rw [← k0]; simpa using e0, by rw [← k1]; simpa using e1, by rw [← k2]; simpa using e2, by rw [← k3]; simpa using e3, by rw [← k4]; simpa using e4, by rw [← k5]; simpa using e5, by simpa using e6⟩, ⟨q2, q1, q3⟩, y0.1, y1.1, y2.1, y3.1, y4.1, y5.1, y6.1, by simpa using hxy.1, q5⟩
    have inh : Inhabited Cl := ⟨⟨0, 0, 0, 0, 0, false, none, 0, 0, []⟩⟩
    obtain ⟨f, hf'⟩ := choose_lt e
    refine ⟨f, fun i hi => (hf' i hi).2.1, ?_, trivial, hl, (fun h => by cases h), .inr ⟨_, _, rfl, by simp, fun i hi => ?_⟩⟩
    · intro hlen
      obtain ⟨b, off, spot⟩ := x
      have hc := (hf' 0 hlen).1.1
      have hspot : spot = none := by simpa [Addr.add] using World.cell?_spot hc
      subst hspot
      refine ⟨b, off, rfl, fun i hi => ?_⟩
      obtain ⟨⟨h0, h1, h2, h3, h4, h5, h6⟩, _⟩ := hf' i hi
      rw [addr_add] at h0 h1 h2 h3 h4 h5 h6
      exact ⟨h0, by rw [Nat.add_assoc off]; exact h1, by rw [Nat.add_assoc off]; exact h2, by rw [Nat.add_assoc off]; exact h3, by rw [Nat.add_assoc off]; exact h4, by rw [Nat.add_assoc off]; exact h5, by rw [Nat.add_assoc off]; exact h6⟩
    · obtain ⟨_, _, d0, d1, d2, d3, d4, d5, d6, hD, hr⟩ := hf' i hi
      exact ⟨d0, d1, d2, d3, d4, d5, d6, by rw [← hD]; exact List.mem_map.2 ⟨i, List.mem_range.2 hi, rfl⟩, hr⟩

theorem weights_mem_all {H : Type} {P : Program} {e : TypeId} {d : DataW H} {l : List (DataW H)} (h : d ∈ l) {n : Nat} (hn : n ∈ d.weights P e) : n ∈ DataW.weightsAll P e l := by
  induction l with
  | nil => cases h
  | cons x r ih =>
    rw [DataW.weightsAll, List.mem_append]
    rcases List.mem_cons.1 h with rfl | h
    · exact .inl hn
    · exact .inr (ih h)

theorem len_le_ops {H : Type} {ts : List TypeId} {ds : List (DataW H)} {j len : Nat} {z : Nat → Cl} {d : DataW H} (hsz : (DataW.weightsEach Try.prog ts ds).all (· ≤ reachBytes) = true) (ht : ts[j]? = some 33) (hd : ds[j]? = some d)
    (h : len = 0 ∨ ∃ elems spare, d = .slice elems spare ∧ len ≤ elems.length + spare.length ∧ ∀ i, i < len → ∃ d0 d1 d2 d3 d4 d5 d6, (DataW.agg [d0, d1, d2, d3, d4, d5, d6]) ∈ elems ∧ ((z i).dn = 0 ∨ ∃ e2 s2, d6 = .slice e2 s2 ∧ (z i).dn ≤ e2.length + s2.length)) :
    len * 72 ≤ 140737488351232 ∧ ∀ i, i < len → (z i).dn * 16 ≤ 140737488351232 := by
  rcases h with rfl | ⟨elems, spare, rfl, h, hin⟩
  · exact ⟨by omega, fun i hi => by omega⟩
  · refine ⟨?_, fun i hi => ?_⟩
    · have := sized_slice hsz (j := j) (t := 33) (e := 40) ht hd Try.underlying33
      rw [bytes40] at this
      simp only [reachBytes] at this
      omega
    · obtain ⟨d0, d1, d2, d3, d4, d5, d6, hm, h0 | ⟨e2, s2, rfl, hle⟩⟩ := hin i hi
      · omega
      · have hw : (e2.length + s2.length) * Try.prog.bytesOf 57 ∈ (DataW.agg [d0, d1, d2, d3, d4, d5, DataW.slice e2 s2]).weights Try.prog 40 := by
          simp [DataW.weights, DataW.weightsEach, Try.underlying40, Try.underlying38]
        have hw2 := weights_mem_all hm hw
        have hw3 : (e2.length + s2.length) * Try.prog.bytesOf 57 ∈ (DataW.slice elems spare).weights Try.prog 33 := by
          simp only [DataW.weights, Try.underlying33, List.mem_cons, List.mem_append]
          exact .inr (.inl hw2)
        have := List.all_eq_true.1 hsz _ (DataW.weights_mem_each ht hd _ hw3)
        rw [bytes57] at this
        have h9 : (e2.length + s2.length) * 16 ≤ 140737488351232 := of_decide_eq_true this
        omega
end Go.Proofs.Ytjhihcmemnhbbaa
