/-
  Static: a contract that the statements' walks use.
-/
import Derived.Test.YtehejibllkmflaaQsI
namespace Go.Proofs.Ytehejibllkmflaa
open Go.RowKit Go.Shelf
attribute [local go_sem] Oper.semAt_some
set_option linter.unusedVariables false
set_option linter.unusedSimpArgs false
set_option maxRecDepth 100000

theorem row_kept {W W' : World} {row : Option Nat} {g : Nat} {cs : Array Value} {t : TypeId} {m : Nat × Nat} (h : W.heap[g]? = some (.cells cs t m)) (hg : W.grownBy W' row) (hrow : ∀ r, row = some r → ∃ o : Obj, W.heap[r]? = some o ∧ o.isCells = false) : W'.heap[g]? = some (.cells cs t m) := by
  refine (hg.block g (Array.getElem?_eq_some_iff.1 h).1 (fun e => ?_)).trans h
  obtain ⟨o, ho, hc⟩ := hrow g e.symm
  rw [h] at ho; cases ho; cases hc
theorem grown_q {A B : World} (q : Q A B) : A.grownBy B none := ⟨Below.os q, Below.tape q, Below.output q, Below.size q, fun k hk _ => Below.block q k hk⟩
/-- The three blocks of such a function: what it was handed, its two results. -/
structure SI (w : World) (c1 c2 c3 : Array Value) (t1 t2 t3 : TypeId) (W : World) : Prop where
  b1 : W.heap[w.heap.size]? = some (.cells c1 t1 (0, 0))
  b2 : W.heap[w.heap.size + 1]? = some (.cells c2 t2 (0, 0))
  b3 : W.heap[w.heap.size + 1 + 1]? = some (.cells c3 t3 (0, 0))
theorem SI.kept {w : World} {c1 c2 c3 : Array Value} {t1 t2 t3 : TypeId} {A B : World} {row : Option Nat} (h : SI w c1 c2 c3 t1 t2 t3 A) (hg : A.grownBy B row) (hr : ∀ r, row = some r → ∃ o : Obj, A.heap[r]? = some o ∧ o.isCells = false) : SI w c1 c2 c3 t1 t2 t3 B :=
  ⟨row_kept h.b1 hg hr, row_kept h.b2 hg hr, row_kept h.b3 hg hr⟩
theorem SI.q {w : World} {c1 c2 c3 : Array Value} {t1 t2 t3 : TypeId} {A B : World} (h : SI w c1 c2 c3 t1 t2 t3 A) (k : Q A B) : SI w c1 c2 c3 t1 t2 t3 B := h.kept (grown_q k) (fun r e => by cases e)
theorem SI.st2 {w : World} {c1 c2 c3 : Array Value} {t1 t2 t3 : TypeId} {W : World} (h : SI w c1 c2 c3 t1 t2 t3 W) (o : Nat) (v : Value) : SI w c1 (c2.setIfInBounds o v) c3 t1 t2 t3 (W.setCell ⟨w.heap.size + 1, o, none⟩ v) :=
  ⟨(Below.heap_setCell _ _ _ _ (fun e => by simp at e)).trans h.b1, heap_setCell_same W _ o _ t2 v h.b2, (Below.heap_setCell _ _ _ _ (fun e => by simp at e)).trans h.b3⟩
theorem SI.st3 {w : World} {c1 c2 c3 : Array Value} {t1 t2 t3 : TypeId} {W : World} (h : SI w c1 c2 c3 t1 t2 t3 W) (o : Nat) (v : Value) : SI w c1 c2 (c3.setIfInBounds o v) t1 t2 t3 (W.setCell ⟨w.heap.size + 1 + 1, o, none⟩ v) :=
  ⟨(Below.heap_setCell _ _ _ _ (fun e => by simp at e; omega)).trans h.b1, (Below.heap_setCell _ _ _ _ (fun e => by simp at e)).trans h.b2, heap_setCell_same W _ o _ t3 v h.b3⟩
theorem iter_stops (n : Nat) (hn : 1 ≤ n) (n₀ : Nat) (w : World) :
    SeqStopsK Fence.wide n Try.prog 23 #[] (fun x : K40 => #[Value.int .i64 (x.1 : Int), fldV (stN x.1) (stV x.1)]) (Below n₀) (fun ys => ys = upto k40 40) (fun pre => ∃ k, k < 40 ∧ pre = upto k40 (k + 1)) 40 w := fun l J Jx W hW hJ _ hY h0 =>
  iter_in n hn l n₀ J Jx (fun pre A B h q => hJ pre A B none h (grown_q q) (fun r e => by cases e)) hY W h0
theorem entries_in (n : Nat) (w : World) : CallsIn Fence.wide n Try.prog 11 #[] w fun e w' => e = .returned (.func (.func 23) #[] #[]) ∧ w' = w := by
  refine callsIn_of_wp Try.func11 rfl trivial ?_ rfl
  simp only [Try.ntmps11, List.size_toArray, List.length_cons, List.length_nil, Nat.reduceAdd, Nat.reduceSub, Array.replicate_succ, Array.replicate_zero, List.push_toArray, List.append_toArray, List.nil_append, List.cons_append]
  gi_wp2
  go_ret
  exact ⟨rfl, rfl⟩
/-- What Static answers. -/
def stAns (n : Int) : Ending := .returned (.tuple #[if 0 ≤ n ∧ n < 40 then fldV (stN n.toNat) (stV n.toNat) else fldV [] [], .bool (decide (0 ≤ n ∧ n < 40))])
set_option maxHeartbeats 4000000 in
theorem static_w (n : Int) (w : World) :
    CallsIn Fence.wide 6 Try.prog 5 #[.int .i64 n] w fun e w' => e = stAns n ∧ Q w w' := by
  refine callsIn_of_wp_marks Try.func5 rfl trivial ?_ rfl
  simp only [Try.ntmps5, List.size_toArray, List.length_cons, List.length_nil, Nat.reduceAdd, Nat.reduceSub, Array.replicate_succ, Array.replicate_zero, List.push_toArray, List.append_toArray, List.nil_append, List.cons_append]
  gi_wp2_with (first | (refine ⟨trivial, ?_⟩; gi_at_call 11; refine (entries_in _ _).mono ?_; rintro e w' ⟨rfl, rfl⟩) | (gi_at_call 11; refine (entries_in _ _).mono ?_; rintro e w' ⟨rfl, rfl⟩))
  generalize hW0 : World.alloc (World.alloc (World.alloc w _) _) _ = W0
  have hsz : W0.heap.size = w.heap.size + 3 := by rw [← hW0]; simp
  have hB0 : Below w.heap.size w W0 := by rw [← hW0]; exact (((Below.refl _ w).alloc (Nat.le_refl _) _).alloc (by simp) _).alloc (by simp; omega) _
  have hS0 : SI w #[.int .i64 n] #[.string ⟨#[]⟩, .string ⟨#[]⟩] #[.bool false] 3 23 4 W0 := by
    rw [← hW0]
    have e1 := heap_alloc_new w (.cells #[.int .i64 n] 3)
    have e2 := heap_alloc_new (w.alloc (.cells #[.int .i64 n] 3)) (.cells #[.string ⟨#[]⟩, .string ⟨#[]⟩] 23)
    have e3 := heap_alloc_new ((w.alloc (.cells #[.int .i64 n] 3)).alloc (.cells #[.string ⟨#[]⟩, .string ⟨#[]⟩] 23)) (.cells #[.bool false] 4)
    rw [World.size_alloc] at e2
    rw [World.size_alloc, World.size_alloc] at e3
    exact ⟨(Below.block (((Q.refl (w.alloc (.cells #[.int .i64 n] 3))).alloc _).alloc _) _ (by simp)).trans e1, (Below.block ((Q.refl ((w.alloc (.cells #[.int .i64 n] 3)).alloc (.cells #[.string ⟨#[]⟩, .string ⟨#[]⟩] 23))).alloc _) _ (by simp)).trans e2, e3⟩
  clear hW0
  refine wpIn_rangeFunc_ownH (F := Fence.wide) (n := 6) rfl (by omega) (gf := 23) (lb := #[]) rfl trivial (enters_of Try.func23 (by kernel_rfl) rfl)
    (iter_stops 5 (by omega) w.heap.size W0) belowK_t (belowK_b (by omega)) (Below.refl _ _) (fun _ => rfl)
    (fun pre W => (SI w #[.int .i64 n] #[.string ⟨#[]⟩, .string ⟨#[]⟩] #[.bool false] 3 23 4 W ∧ ∀ x ∈ pre, (x.1 : Int) ≠ n) ∧ Below w.heap.size w W)
    (fun c pre W => (c = .ret ∧ ∃ x ∈ pre, (x.1 : Int) = n ∧ SI w #[.int .i64 n] #[.string (strOfNums (stN x.1)), .string (strOfNums (stV x.1))] #[.bool true] 3 23 4 W) ∧ Below w.heap.size w W)
    (OwnFrom.and (fun s A B row hs hg hr => ⟨hs.1.kept hg (fun r e => (hr r e).2), hs.2⟩) (ownFrom_below (Nat.le_refl _) (by omega)))
    (fun c => OwnFrom.and (fun s A B row hs hg hr => ⟨hs.1, hs.2.choose, hs.2.choose_spec.1, hs.2.choose_spec.2.1, hs.2.choose_spec.2.2.kept hg (fun r e => (hr r e).2)⟩) (ownFrom_below (Nat.le_refl _) (by omega)))
    ⟨⟨hS0, fun x hx => by cases hx⟩, hB0⟩
    (fun x a' W => ∃ Bx, w.heap.size + 3 ≤ Bx ∧ W.heap[Bx]? = some (.cells #[.string (strOfNums (stN x.1)), .string (strOfNums (stV x.1))] 23 (0, 0)) ∧ a' = { tmps := #[.int .i64 n, .pointer (some ⟨w.heap.size, 0, none⟩), .pointer (some ⟨w.heap.size + 1, 0, none⟩), .pointer (some ⟨w.heap.size + 1 + 1, 0, none⟩), .int .i64 (x.1 : Int), .pointer (some ⟨Bx, 0, none⟩), .func (.func 23) #[] #[], .int .i64 (x.1 : Int), fldV (stN x.1) (stV x.1), undef, undef, undef, undef, undef], defers := [] })
    (fun x a' s A B row hs hg hr => by obtain ⟨Bx, h1, h2, h3⟩ := hs; exact ⟨Bx, h1, row_kept h2 hg (fun r e => (hr r e).2), h3⟩) ?assign ?body ?done ?stop
  case assign =>
    rintro l pre x W K hi hK
    gi_wp2
    exact hK _ _ ((KeepsOthers.alloc _ _).from _) ((Below.refl _ W).alloc hi.2.size _) ⟨⟨hi.1.1.q ((Q.refl W).alloc _), hi.1.2⟩, hi.2.alloc hi.2.size _⟩ ⟨W.heap.size, by have := lt_of_block hi.1.1.b3; omega, heap_alloc_new W _, rfl⟩
  case body =>
    rintro l pre x a' W hl hr ⟨⟨hS, hno⟩, hB⟩ ⟨Bx, hBx, bX, rfl⟩ _
    have hc1 : W.cell? ⟨w.heap.size, 0, none⟩ = some (.int .i64 n) := by rw [cell_of_row W _ 0 _ 3 (0, 0) hS.b1]; rfl
    have hx0 : W.cell? ⟨Bx, 0, none⟩ = some (.string (strOfNums (stN x.1))) := by rw [cell_of_row W _ 0 _ 23 (0, 0) bX]; rfl
    have hx1 : W.cell? ⟨Bx, 1, none⟩ = some (.string (strOfNums (stV x.1))) := by rw [cell_of_row W _ 1 _ 23 (0, 0) bX]; rfl
    have h20 : W.cell? ⟨w.heap.size + 1, 0, none⟩ = some (.string ⟨#[]⟩) := by rw [cell_of_row W _ 0 _ 23 (0, 0) hS.b2]; rfl
    have h21 : W.cell? ⟨w.heap.size + 1, 1, none⟩ = some (.string ⟨#[]⟩) := by rw [cell_of_row W _ 1 _ 23 (0, 0) hS.b2]; rfl
    have f20 : W.frozen? ⟨w.heap.size + 1, 0, none⟩ = false := frozen_of_row W _ 0 _ 23 hS.b2
    have f21 : W.frozen? ⟨w.heap.size + 1, 1, none⟩ = false := frozen_of_row W _ 1 _ 23 hS.b2
    have h30 : W.cell? ⟨w.heap.size + 1 + 1, 0, none⟩ = some (.bool false) := by rw [cell_of_row W _ 0 _ 4 (0, 0) hS.b3]; rfl
    have f30 : W.frozen? ⟨w.heap.size + 1 + 1, 0, none⟩ = false := frozen_of_row W _ 0 _ 4 hS.b3
    have HS := hid hS
    have HB := hid hB
    have HNO := hid hno
    clear hS hB hno bX
    by_cases hxn : (x.1 : Int) = n
    · subst hxn
      gi_wp2
      exact ⟨(((KeepsOthers.setCell _ _ _).trans (KeepsOthers.setCell _ _ _)).trans (KeepsOthers.setCell _ _ _)).from _, ⟨rfl, x, by simp, rfl, ((HS.out.st2 0 _).st2 1 _).st3 0 _⟩,
        ((HB.out.setCell (p := ⟨w.heap.size + 1, 0, none⟩) (by simp) _).setCell (p := ⟨w.heap.size + 1, 1, none⟩) (by simp) _).setCell (p := ⟨w.heap.size + 1 + 1, 0, none⟩) (by simp; omega) _⟩
    · have hxb : ((x.1 : Int) == n) = false := by simp [hxn]
      gi_wp2
      refine ⟨(KeepsOthers.refl _).from _, Below.refl _ _, ⟨HS.out, fun y hy => ?_⟩, HB.out⟩
      rcases List.mem_append.1 hy with h | h
      · exact HNO.out y h
      · rw [List.mem_singleton.1 h]; exact hxn
  case done =>
    rintro D ys W hD rfl ⟨⟨hS, hno⟩, hB⟩ hK
    have hnn : ¬ (0 ≤ n ∧ n < 40) := fun ⟨h1, h2⟩ => by
      refine hno (k40 n.toNat) (by unfold upto; exact List.mem_map.2 ⟨n.toNat, List.mem_range.2 (by omega), rfl⟩) ?_
      rw [k40_val (by omega)]; omega
    have HA := hid (show .returned (.tuple #[fldV [] [], .bool false]) = stAns n by unfold stAns; rw [if_neg hnn, decide_eq_false hnn])
    have h20 : W.cell? ⟨w.heap.size + 1, 0, none⟩ = some (.string ⟨#[]⟩) := by rw [cell_of_row W _ 0 _ 23 (0, 0) hS.b2]; rfl
    have h21 : W.cell? ⟨w.heap.size + 1, 1, none⟩ = some (.string ⟨#[]⟩) := by rw [cell_of_row W _ 1 _ 23 (0, 0) hS.b2]; rfl
    have f20 : W.frozen? ⟨w.heap.size + 1, 0, none⟩ = false := frozen_of_row W _ 0 _ 23 hS.b2
    have f21 : W.frozen? ⟨w.heap.size + 1, 1, none⟩ = false := frozen_of_row W _ 1 _ 23 hS.b2
    have h30 : W.cell? ⟨w.heap.size + 1 + 1, 0, none⟩ = some (.bool false) := by rw [cell_of_row W _ 0 _ 4 (0, 0) hS.b3]; rfl
    have f30 : W.frozen? ⟨w.heap.size + 1 + 1, 0, none⟩ = false := frozen_of_row W _ 0 _ 4 hS.b3
    have HS := hid hS
    have HB := hid hB
    clear hS hB hno
    gi_wp2
    have hS1 := ((HS.out.st2 0 (.string ⟨#[]⟩)).st2 1 (.string ⟨#[]⟩)).st3 0 (.bool false)
    have hB1 := ((HB.out.setCell (p := ⟨w.heap.size + 1, 0, none⟩) (by simp) (.string ⟨#[]⟩)).setCell (p := ⟨w.heap.size + 1, 1, none⟩) (by simp) (.string ⟨#[]⟩)).setCell (p := ⟨w.heap.size + 1 + 1, 0, none⟩) (by simp; omega) (.bool false)
    have hK1 := (((KeepsOthers.setCell W ⟨w.heap.size + 1, 0, none⟩ (.string ⟨#[]⟩)).trans (KeepsOthers.setCell _ ⟨w.heap.size + 1, 1, none⟩ (.string ⟨#[]⟩))).trans (KeepsOthers.setCell _ ⟨w.heap.size + 1 + 1, 0, none⟩ (.bool false))).same D _ hK rfl
    generalize World.setCell (World.setCell (World.setCell W _ _) _ _) _ _ = W9 at *
    have hS2 := hS1.kept (grownBy_putObj' W9 D (.deferred none)) (fun r e => by cases e; exact ⟨_, hK1, rfl⟩)
    refine ⟨by simp, .inl ⟨_, _, rfl, run_takeDeferred hK1, ?_⟩⟩
    have h20 := cell_of_row _ _ 0 _ 23 (0, 0) hS2.b2
    have h21 := cell_of_row _ _ 1 _ 23 (0, 0) hS2.b2
    have h30 := cell_of_row _ _ 0 _ 4 (0, 0) hS2.b3
    refine ⟨.tuple #[fldV [] [], .bool false], ?_, HA.out, hB1.trans (belowK_b (w := w) (Nat.le_refl _) W9 D _ _ (by omega) hK1 rfl rfl)⟩
    simp [results, Try.f5, go_sem, h20, h21, h30, fldV, strOfNums]
  case stop =>
    rintro D c pre W hD hSp ⟨⟨rfl, x, hx, hxn, hS⟩, hB⟩ hK
    have hnn : 0 ≤ n ∧ n < 40 := by have := x.2; omega
    have e : n.toNat = x.1 := by omega
    have HA := hid (show .returned (.tuple #[fldV (stN x.1) (stV x.1), .bool true]) = stAns n by unfold stAns; rw [if_pos hnn, decide_eq_true hnn, e])
    clear e hnn
    gi_wp2
    have hS2 := hS.kept (grownBy_putObj' W D (.deferred none)) (fun r e => by cases e; exact ⟨_, hK, rfl⟩)
    refine ⟨by simp, .inl ⟨_, _, rfl, run_takeDeferred hK, ?_⟩⟩
    have h20 := cell_of_row _ _ 0 _ 23 (0, 0) hS2.b2
    have h21 := cell_of_row _ _ 1 _ 23 (0, 0) hS2.b2
    have h30 := cell_of_row _ _ 0 _ 4 (0, 0) hS2.b3
    refine ⟨.tuple #[fldV (stN x.1) (stV x.1), .bool true], ?_, HA.out, hB.trans (belowK_b (w := w) (Nat.le_refl _) W D _ _ (by omega) hK rfl rfl)⟩
    simp [results, Try.f5, go_sem, h20, h21, h30]
end Go.Proofs.Ytehejibllkmflaa
