/-
  requestOf: contracts that the statements' walks use.
-/
import Derived.Test.YtclapheglgiokaaDoorRnU
namespace Go.Proofs.YtclapheglgiokaaDoor
open Go.RowKit
set_option linter.unusedVariables false
set_option maxRecDepth 20000

/-- A request's cells. -/
abbrev rqC (m s a p : ByteArray) (x : Sv) (n : Int) : Array Value := #[.string m, .string s, .string a, .string p, .slice x.a x.n x.c, .int .i64 n]
def rqV (r : Rq) (x : Sv) : Value := .agg (rqC r.m r.s r.a r.p x r.len)
/-- The reading's own two requests: the result's and the one that is filled. -/
structure RI (w : World) (b1 b2 : Nat) (cs : Array Value) (W : World) : Prop where
  q : Q w W
  z : Blk W b1 24 (rqC ⟨#[]⟩ ⟨#[]⟩ ⟨#[]⟩ ⟨#[]⟩ ⟨none, 0, 0⟩ 0)
  b : Blk W b2 24 cs
  n1 : w.heap.size ≤ b1
  n2 : b1 < b2
theorem RI.call {w W W' : World} {b1 b2 : Nat} {cs : Array Value} (h : RI w b1 b2 cs W) (q : Q W W') : RI w b1 b2 cs W' := ⟨h.q.trans q, h.z.q q, h.b.q q, h.n1, h.n2⟩
theorem RI.set {w W : World} {b1 b2 : Nat} {cs : Array Value} (h : RI w b1 b2 cs W) (j : Nat) (v : Value) : RI w b1 b2 (cs.setIfInBounds j v) (W.setCell ⟨b2, j, none⟩ v) := by
  have h1 := h.n1
  have h2 := h.n2
  exact ⟨h.q.setCell (p := ⟨b2, j, none⟩) (by show w.heap.size ≤ b2; omega) _, h.z.setOther (by omega), h.b.set j v, h.n1, h.n2⟩
theorem ret_27 {fn : Func} {p : Tmp} {a : Act} {w : World} {R : Ending → World → Prop} (hr : fn.results = #[.cell p 24]) (hd : a.defers = [])
    (g : Nat) (cs : Array Value) (hi : (Tryd.prog.info? 24).map (·.size) = some cs.size) (hp : a.tmps.getD p undef = .pointer (some ⟨g, 0, none⟩)) (hb : w.heap[g]? = some (.cells cs 24 (0, 0))) (hR : R (.returned (.agg cs)) w) : bodyPost Tryd.prog fn R .ret a w :=
  ⟨hd, _, results_cell_row hr _ w g 24 _ (0, 0) _ hp hb Tryd.underlying24 rfl hi, hR⟩
theorem tun_none {l : List Fd} (h : tunE l = 0) : schO l = ⟨#[]⟩ ∧ patO l = ⟨#[]⟩ := by
  unfold tunE at h
  by_cases hc : ((fnd l kSch).isSome || (fnd l kPat).isSome) = true
  · rw [if_pos hc] at h; cases h
  · have hc' : (fnd l kSch).isSome = false ∧ (fnd l kPat).isSome = false := by
      cases h1 : (fnd l kSch).isSome <;> cases h2 : (fnd l kPat).isSome <;> rw [h1, h2] at hc <;> simp at hc ⊢
    unfold schO patO
    rw [Option.isSome_eq_false_iff, Option.isNone_iff_eq_none, Option.isSome_eq_false_iff, Option.isNone_iff_eq_none] at hc'
    rw [hc'.1, hc'.2]
    exact ⟨rfl, rfl⟩
end Go.Proofs.YtclapheglgiokaaDoor
