/-
  What the program's own fields does: a contract that the statements' walks use.
-/
import Derived.Test.YtidbimhcebfjfaaFldS
import Derived.Deep.RegionHeld3
namespace Go.Proofs.Ytidbimhcebfjfaa
open Go.RowKit
set_option linter.unusedVariables false
set_option maxRecDepth 20000

theorem wpOp_val {ops : Array Oper} {i : Nat} {a : Act} {w w' : World} {K : Act → World → Prop} {R : Exit → Act → World → Prop} {v : Value} (d : Option Tmp) (hi : (ops[i]?).isSome = true) (hd : (ops[i]?).bind (·.dst) = d) (hw : Region.wanted ((ops[i]?).getD default) (yielded ops a.tmps) = true)
    (hr : (execOp a.eval ((ops[i]?).getD default)).run Try.prog w = .ok (.value v) w') (h : K (a.put d v) w') : wpOp Try.prog ops R i K a w := by
  obtain ⟨o, ho⟩ := Option.isSome_iff_exists.1 hi
  rw [ho] at hd hw hr
  unfold wpOp
  simp only [ho]
  have hw' : Region.wanted o (yielded ops a.tmps) = true := hw
  rw [if_pos hw']
  refine .inl ?_
  unfold Oper.wp
  have hr' : (execOp a.eval o).run Try.prog w = .ok (.value v) w' := hr
  rw [hr']
  have hd' : o.dst = d := hd
  rw [← hd'] at h
  exact h
theorem bs_run (pb ub : Nat) (w : World) : (execOp (actK (iniF pb ub) (vsF pb ub) 134 133).eval (((Rof Try.f23)[133]?).getD default)).run Try.prog w = .ok (.value (.slice (some ⟨w.heap.size, 0, none⟩) 16 16)) (w.alloc (.cells (frow pb) 60)) := by kernel_rfl
/-- The region: a row of fields is laid. -/
theorem reg2 (pb ub : Nat) (w : World) (Q : Exit → Act → World → Prop) (hS : SF ub w) (hQ : ∀ c a d v w, Q (.panic c) (a.put d v) w → Q (.panic c) a w)
    (h : ∀ a : Act, a.defers = [] → a.tmps.getD 2 undef = .slice (some ⟨w.heap.size, 0, none⟩) 16 16 → Q .normal a (w.drew.alloc (.cells (frow pb) 60))) :
    (Code.region 2 (Rof Try.f23) true).wp Try.prog Q (actK (iniF pb ub) (vsF pb ub) 134 0) w := by
  refine wp_region_held (S := fun u => SF ub u) (by kernel_rfl) ?_
  have hS' : SF ub w.drew := hS
  have hS2 : SF ub (w.drew.alloc (.cells (frow pb) 60)) := by
    have := ((Keep.refl (fun _ => False) w.drew).alloc (.cells (frow pb) 60)).block ub (lt_of_block hS') id
    exact this.trans hS'
  have := lex_from (P := Try.prog) (ops := Rof Try.f23) (Q := Q) (S := fun u => SF ub u) (ini := iniF pb ub) (vs := vsF pb ub) (w := w.drew) (N := 134) (n := 133) sel2 (by omega) (Nat.le_of_eq (by kernel_rfl)) (steps pb ub) hQ hS' 2 ?_ 133 (Nat.le_refl _)
  · rw [size2]
    rw [size2] at this
    exact this
  refine wpAnyH_all (rs := [133]) (by kernel_rfl) (by simp) ?_
  intro i hi
  obtain rfl : i = 133 := by simpa using hi
  refine wpOp_val (some 138) (by kernel_rfl) (by kernel_rfl) (by kernel_rfl) (bs_run pb ub w.drew) ⟨hS2, ?_⟩
  refine wpAnyH_all (rs := [134]) (by kernel_rfl) (by simp) ?_
  intro i hi
  obtain rfl : i = 134 := by simpa using hi
  refine wpOp_val (v := .slice (some ⟨w.heap.size, 0, none⟩) 16 16) (some 2) (by kernel_rfl) (by kernel_rfl) (by kernel_rfl) (by kernel_rfl) ⟨hS2, ?_⟩
  refine wpAnyH_done (by kernel_rfl) ?_ _
  exact h _ (by kernel_rfl) (by kernel_rfl)

set_option maxHeartbeats 40000000 in
theorem fields_any (pb : Nat) (w : World) : Calls Try.prog 23 #[.pointer (some ⟨pb, 0, none⟩)] w fun e w' => ∃ fb, e = .returned (.slice (some ⟨fb, 0, none⟩) 16 16) ∧ Q w w' ∧ w.heap.size ≤ fb ∧ w'.heap[fb]? = some (.cells (frow pb) 60 (0, 0)) := by
  go_enter Try.func23, Try.ntmps23
  go_wp2_with (first
    | (go_at_call 16; refine (usual_any _).mono ?_; rintro e w1 ⟨rfl, q1⟩; have Q1 := hid q1; clear q1)
    | (refine wpList_store_row rfl 24 _ _ rfl w1.heap.size usA rfl rfl 24 _ (heap_alloc_new w1 _) info24 rfl usA_one ?_; refine Hid.out ?_))
  refine hid ?_
  generalize hw2 : World.setRow _ _ _ = w2
  have q2 : Q w1 w2 := by rw [← hw2]; exact (((Keep.refl (fun _ => False) w1).alloc _).setRow _ _ (.inr (Nat.le_refl _))).toQ (fun _ _ => id)
  have b2 : w2.heap[w1.heap.size]? = some (.cells usA 24 (0, 0)) := by rw [← hw2]; exact setRow_heap _ _ _ _ 24 _ (heap_alloc_new w1 _)
  clear hw2
  have Q2 := hid (Q1.out.trans q2)
  have B2 := hid b2
  clear b2 q2 Q1
  generalize w1.heap.size = ub at *
  clear w1
  go_wp2_with fail
  generalize hR : Code.region 2 _ true = C
  have e2 : C = Code.region 2 (Rof Try.f23) true := hR.symm.trans (by kernel_rfl)
  clear hR
  subst e2
  generalize hA : Act.mk _ _ = A
  have e3 : A = actK (iniF pb ub) (vsF pb ub) 134 0 := hA.symm.trans (by kernel_rfl)
  clear hA
  subst e3
  refine wp_region_noPanic ?_
  refine reg2 pb ub w2 _ B2.out (fun c a d v w h => h) ?_
  intro a hd h2
  refine NoPanic.normal ?_
  refine ‹∀ a w, Code.wp Try.prog Code.ret _ a w → _› _ _ ?_
  go_wp2
  exact bodyPost_ret (v := .slice (some ⟨w2.heap.size, 0, none⟩) 16 16) ((results_tmp (t := 2) rfl _ _ _).trans (by rw [h2])) hd ⟨w2.heap.size, rfl, Q2.out.drew.alloc _, Q2.out.size, heap_alloc_new _ _⟩
end Go.Proofs.Ytidbimhcebfjfaa
