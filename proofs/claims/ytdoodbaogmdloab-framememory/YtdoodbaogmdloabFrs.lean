/-
  Frames in a row in memory, and the reading of all of them as plain mathematics. Nothing is proved of a statement here.
-/
import Derived.Test.YtdoodbaogmdloabCtch
import Derived.Deep.RegionLaw
namespace Go.Proofs.Ytdoodbaogmdloab
open Go.RowKit
set_option linter.unusedVariables false
set_option maxRecDepth 20000

/-- All frames from a place on: the frames, the place, the error's number. -/
def dec (zs : List Int) : Nat → Nat → List Fr → List Fr × Int × Int
  | 0, P, acc => (acc, 0, 0)
  | n + 1, P, acc => if zs.length ≤ P then (acc, 0, 0) else
    match frameO zs P with
    | .ok f q => dec zs n q.toNat (acc ++ [f])
    | .cut => ([], P, 12)
    | .bad x => ([], P, x)
def decA (zs : List Int) : List Fr × Int × Int := if 16384 < zs.length then ([], 0, 52) else if zs.length = 0 then ([], 0, 12) else dec zs zs.length 0 []

abbrev Fd := Fr × Sv × Sv × Sv
abbrev flatF (l : List Fd) : List Value := l.flatMap fun t => (fcells t.1 t.2.1 t.2.2.1 t.2.2.2).toList
theorem flatF_len (l : List Fd) : (flatF l).length = l.length * 13 := by
  induction l with
  | nil => rfl
  | cons x r ih => simp only [flatF, List.flatMap_cons, List.length_append, List.length_cons] at ih ⊢; rw [ih]; simp; omega

/-- A slice that holds these frames, made since the heap had B blocks. -/
structure Frs (B : Nat) (w : World) (x : Sv) (fds : List Fd) : Prop where
  sub : Sub w 34 13 x.a x.n x.c (flatF fds)
  new : New B x
  hold : ∀ t ∈ fds, HoldsR B w t.1 t.2.1 t.2.2.1 t.2.2.2
  ne : ∀ t ∈ fds, ∀ i, blk x.a = some i → blk t.2.1.a ≠ some i ∧ blk t.2.2.1.a ≠ some i ∧ blk t.2.2.2.a ≠ some i
theorem Frs.len {B : Nat} {w : World} {x : Sv} {fds : List Fd} (h : Frs B w x fds) : fds.length = x.n := by
  have := h.sub.1; rw [flatF_len] at this; omega
theorem Frs.keep {F : Nat → Prop} {B : Nat} {w w' : World} {x : Sv} {fds : List Fd} (h : Frs B w x fds) (k : Keep F w w') (hF : ∀ i, F i → i < B ∨ w.heap.size ≤ i) : Frs B w' x fds :=
  ⟨h.sub.keep k (fun i hi hf => by have h1 := h.sub.lt i hi; have h2 := h.new i hi; rcases hF i hf with h3 | h3 <;> omega), h.new, fun t ht => (h.hold t ht).keep k hF, h.ne⟩
theorem Frs.q {B : Nat} {w w' : World} {x : Sv} {fds : List Fd} (h : Frs B w x fds) (k : Q w w') : Frs B w' x fds := h.keep (Keep.ofQ (F := fun _ => False) k) (fun _ f => f.elim)
theorem Frs.mono {B B' : Nat} {w : World} {x : Sv} {fds : List Fd} (h : Frs B w x fds) (hb : B' ≤ B) : Frs B' w x fds :=
  ⟨h.sub, h.new.mono hb, fun t ht => ⟨(h.hold t ht).dr, (h.hold t ht).cr, (h.hold t ht).sr, (h.hold t ht).nd.mono hb, (h.hold t ht).nc.mono hb, (h.hold t ht).ns.mono hb⟩, h.ne⟩
theorem frs_nil (B : Nat) (w : World) : Frs B w nilS [] := ⟨sub_nil _ _ _, new_nil _, (by intro t ht; cases ht), (by intro t ht; cases ht)⟩

theorem info26 : (Try.prog.info? 34).map (fun i => (i.zero, i.size, i.bytes)) = some (some (.agg (fcells zf nilS nilS nilS)), 13, 152) := by kernel_rfl
theorem fcells_each (f : Fr) (d c s : Sv) : ∀ u ∈ (fcells f d c s).toList, u.oneCell' = true := by
  intro u hu
  have := fcells_one f d c s
  rw [Array.all_eq_true'] at this
  exact this u (Array.mem_toList_iff.1 hu)

/-- append of one frame. -/
theorem frs_push {B : Nat} {w : World} {x : Sv} {fds : List Fd} {f : Fr} {d c s : Sv} (h : Frs B w x fds) (hh : HoldsR B w f d c s) (hnew : ∀ i, blk x.a = some i → blk d.a ≠ some i ∧ blk c.a ≠ some i ∧ blk s.a ≠ some i) (hB : B ≤ w.heap.size) (hn : x.n ≤ 100000) :
    ∃ y w', (Builtin.append_ #[24, 24] 24 #[.slice x.a x.n x.c, .slice (some ⟨w.heap.size, 0, none⟩) 1 1]).run Try.prog (w.alloc (.cells (fcells f d c s) 34)) = .ok (.slice y.a y.n y.c) w' ∧ Frs B w' y (fds ++ [(f, d, c, s)]) ∧ Keep (fun b => blk x.a = some b) w w' := by
  obtain ⟨i0, hi, hz0, hz1, hz2⟩ := info_parts info26
  have hq : Q w (w.alloc (.cells (fcells f d c s) 34)) := (Q.refl w).alloc _
  have hg : (w.alloc (.cells (fcells f d c s) 34)).heap[w.heap.size]? = some (.cells (fcells f d c s) 34 (0, 0)) := heap_alloc_new w _
  have hsrc : ∀ j u, (fcells f d c s).toList[j]? = some u → (w.alloc (.cells (fcells f d c s) 34)).cell? ((⟨w.heap.size, 0, none⟩ : Addr).add j) = some u := by
    intro j u hj
    rw [addr_add, cell_of_row _ _ _ _ 34 (0, 0) hg, Nat.zero_add]
    rw [← hj]; simp
  obtain ⟨a', cap', w', hr, h1, h2, h3⟩ := sub_append (P := Try.prog) (ty := 24) Try.underlying24 hi hz0 hz1 hz2 rfl (h.sub.q hq) (Src.ofSlice _ Try.underlying24 ⟨w.heap.size, 0, none⟩ 1 1 (fcells f d c s).toList (by simp) hsrc (fcells_each f d c s)) (by unfold maxLen; omega) (by omega)
  have hk : Keep (fun b => blk x.a = some b) w w' := (Keep.ofQ hq).trans h2
  have key : ∀ {e z : Nat} {y : Sv} {vs : List Value}, Sub w e z y.a y.n y.c vs → (∀ i, blk x.a = some i → blk y.a ≠ some i) → Sub w' e z y.a y.n y.c vs := fun hs hne => hs.keep hk (fun i hi e => hne i e hi)
  have hold' : ∀ t ∈ fds ++ [(f, d, c, s)], HoldsR B w t.1 t.2.1 t.2.2.1 t.2.2.2 ∧ ∀ i, blk x.a = some i → blk t.2.1.a ≠ some i ∧ blk t.2.2.1.a ≠ some i ∧ blk t.2.2.2.a ≠ some i := by
    intro t ht
    rcases List.mem_append.1 ht with ht | ht
    · exact ⟨h.hold t ht, h.ne t ht⟩
    · obtain rfl := List.mem_singleton.1 ht
      exact ⟨hh, hnew⟩
  refine ⟨⟨a', x.n + 1, cap'⟩, w', hr, ⟨?_, ?_, ?_, ?_⟩, hk⟩
  · show Sub _ _ _ _ _ _ (flatF _)
    rw [show flatF (fds ++ [(f, d, c, s)]) = flatF fds ++ (fcells f d c s).toList from by simp only [flatF, List.flatMap_append, List.flatMap_cons, List.flatMap_nil, List.append_nil]]
    exact h1
  · intro i hi'
    rcases h3 with h3 | h3
    · exact h.new i (by rw [← h3]; exact hi')
    · rw [h3] at hi'; cases hi'; simp; omega
  · intro t ht
    obtain ⟨q1, q2⟩ := hold' t ht
    exact ⟨key q1.dr (fun i e => (q2 i e).1), key q1.cr (fun i e => (q2 i e).2.1), key q1.sr (fun i e => (q2 i e).2.2), q1.nd, q1.nc, q1.ns⟩
  · intro t ht i hi'
    obtain ⟨q1, q2⟩ := hold' t ht
    rcases h3 with h3 | h3
    · exact q2 i (by rw [← h3]; exact hi')
    · rw [h3] at hi'
      cases hi'
      have hsz : (w.alloc (.cells (fcells f d c s) 34)).heap.size = w.heap.size + 1 := by simp
      refine ⟨fun e => ?_, fun e => ?_, fun e => ?_⟩
      · have := q1.dr.lt _ e; omega
      · have := q1.cr.lt _ e; omega
      · have := q1.sr.lt _ e; omega

/-- The call of frame in a region that draws, by its contract. -/
theorem step_call54 {ops : Array Oper} {o : Oper} {a : Act} {w : World} {K : Act → World → Prop} {R : Exit → Act → World → Prop} {E : Prop} (hg : o.guard = none) (x : Operand) (t : TypeId) (hop : o.op = Op.call { callee := Callee.value (Operand.func 18), args := #[x], argTypes := #[t] })
    {xv : Value} (hx : a.eval x = xv) {R0 : Ending → World → Prop} (hc : Calls Try.prog 18 #[xv] w R0)
    (hR : ∀ e w', R0 e w' → (∃ v, e = .returned v ∧ K (a.put o.dst v) w') ∨ (∃ ch, e = .panicked ch ∧ R (.panic ch) a w')) :
    if Region.wanted o (yielded ops a.tmps) = true then Oper.wp Try.prog o a w K R else E := by
  have hw : Region.wanted o (yielded ops a.tmps) = true := by simp [Region.wanted, hg]
  rw [if_pos hw]
  unfold Oper.wp
  have he : (execOp a.eval o).run Try.prog w = .ok (.enter 18 #[xv]) w := by
    have h1 : (Try.f18.name == "runtime.NumGoroutine") = false := by kernel_rfl
    have h1' : ¬ Try.f18.name = "runtime.NumGoroutine" := by simpa using h1
    have h2 : Try.f18.body.isSome = true := by kernel_rfl
    have h2' : ¬ Try.f18.body = none := by intro e; rw [e] at h2; cases h2
    simp [execOp, hop, resolve, invoke, Deferred.ofValue, callFunc, Try.func18, h1', h2', go_sem]
    rw [← hx]
    cases x <;> simp [Act.eval]
  rw [he]
  refine hc.mono ?_
  intro e w' h0
  rcases hR e w' h0 with ⟨v, rfl, h⟩ | ⟨ch, rfl, h⟩
  · exact h
  · exact h
end Go.Proofs.Ytdoodbaogmdloab
