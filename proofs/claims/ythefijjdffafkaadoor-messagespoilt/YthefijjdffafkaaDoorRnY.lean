/-
  A reading whose panics are caught: faultOf: contracts that the statements' walks use.
-/
import Derived.Test.YthefijjdffafkaaDoorRnX
import Derived.Recover
namespace Go.Proofs.YthefijjdffafkaaDoor
open Go.RowKit
set_option linter.unusedVariables false
set_option linter.unusedSimpArgs false
set_option maxRecDepth 20000

theorem wp_any_post {P : Program} {c : Code} {Q : Exit → Act → World → Prop} {a : Act} {w : World} (h : ∀ Q' : Exit → Act → World → Prop, Hid (∀ e a w, Q e a w → Q' e a w) → c.wp P Q' a w) : c.wp P Q a w := h Q (hid fun _ _ _ x => x)
theorem neq_nil (w : World) : (binOp BinOp.neq 20 .nilIface .nilIface).run Tryd.prog w = .ok (.bool false) w := by kernel_rfl
theorem as_nil (w : World) : (Instr.typeAssert .nilIface 20 50 true).run Tryd.prog w = .ok (.tuple #[.int .i64 0, .bool false]) w := by kernel_rfl
theorem as_55 (v : Value) (w : World) : (Instr.typeAssert (.iface 50 v) 20 50 true).run Tryd.prog w = .ok (.tuple #[v, .bool true]) w := by kernel_rfl
theorem slots31 (a x y : Value) : #[a] ++ ((Array.replicate 14 undef).setIfInBounds 3 x).setIfInBounds 0 y = #[a, y, undef, undef, x, undef, undef, undef, undef, undef, undef, undef, undef, undef, undef] := by
  apply Array.toList_inj.1
  simp [List.replicate]
set_option maxHeartbeats 400000 in
theorem catch_idle (pe : Addr) (w : World) :
    CallsD Tryd.prog 23 #[.pointer (some pe)] .returning w fun e u' w' => e = .returned (.tuple #[]) ∧ u' = .returning ∧ w' = w := by
  have h1 := neq_nil
  have h2 := as_nil
  refine callsD_of_wpS Tryd.func23 rfl fun c₀ cs hu => ?_
  apply wpS_seq
  apply wpS_region
  simp [wpOpsS, go_sem, recoverD, hu, Tryd.ntmps23, Exit.thenS]
  rw [slots31]
  refine wpS_of_wp (wp_any_post fun Q' HQ => ?_)
  go_wp2
  refine HQ.out _ _ _ ?_
  refine ⟨rfl, .returning, ?_, _, results_none rfl _ _ _, rfl, rfl, rfl⟩
  rw [← hu]
set_option maxHeartbeats 1000000 in
theorem catch_ref (be : Nat) (x y : Int) (w : World) (ce : w.cell? ⟨be, 0, none⟩ = some (.int .i64 y)) (ze : w.frozen? ⟨be, 0, none⟩ = false) :
    CallsD Tryd.prog 23 #[.pointer (some ⟨be, 0, none⟩)] (.panicking [refP x]) w fun e u' w' => e = .returned (.tuple #[]) ∧ u' = .panicking [{ refP x with recovered := true }] ∧ w' = w.setCell ⟨be, 0, none⟩ (.int .i64 x) := by
  have h2 := as_55
  have l1 := lt_of_cell ce
  refine callsD_of_wpS Tryd.func23 rfl fun c₀ cs hu => ?_
  apply wpS_seq
  apply wpS_region
  simp [wpOpsS, go_sem, recoverD, hu, Tryd.ntmps23, Exit.thenS, refP]
  rw [slots31]
  refine wpS_of_wp (wp_any_post fun Q' HQ => ?_)
  go_wp2
  refine HQ.out _ _ _ ?_
  exact ⟨rfl, _, rfl, _, results_none rfl _ _ _, rfl, rfl, rfl⟩
theorem res13 (tmps : Array Value) (w : World) (be : Nat) (x : Int) (h2 : tmps.getD 2 undef = .pointer (some ⟨be, 0, none⟩)) (ce : w.cell? ⟨be, 0, none⟩ = some (.int .i64 x)) : (results Tryd.f17 tmps).run Tryd.prog w = .ok (.int .i64 x) w := by
  have h2' : tmps[2]?.getD undef = .pointer (some ⟨be, 0, none⟩) := by simpa using h2
  simp [results, Tryd.f17, h2', asAddr, go_sem, ce]
/-- The way out: the deferred call has set the error. -/
theorem out_caught {w : World} {be : Nat} {tmps : Array Value} {R : Ending → World → Prop} (x : Int) (ce : w.heap[be]? = some (.cells #[.int .i64 0] 25 (0, 0)))
    (h2 : tmps.getD 2 undef = .pointer (some ⟨be, 0, none⟩)) (hR : ∀ w'', Keep (fun i => i = be) w w'' → R (.returned (.int .i64 x)) w'') :
    Leaves Tryd.prog Tryd.f17 tmps R [{ target := Target.fn (Fn.func 23) #[.pointer (some ⟨be, 0, none⟩)], args := #[] }] (.panicking [refP x]) w := by
  have c0 : w.cell? ⟨be, 0, none⟩ = some (.int .i64 0) := by rw [cell_of_row w be 0 _ 25 (0, 0) ce]; rfl
  have f0 : w.frozen? ⟨be, 0, none⟩ = false := frozen_of_row w be 0 _ 25 ce
  have ks : Keep (fun i => i = be) w (w.setCell ⟨be, 0, none⟩ (.int .i64 x)) := (Keep.refl (fun i => i = be) w).setCell _ _ _ (.inl rfl)
  have hlt := lt_of_block ce
  refine leaves_cons (f := 23) (args := #[.pointer (some ⟨be, 0, none⟩)]) (by simp) (by simp [go_sem]) ?_
  refine (catch_ref be x 0 w c0 f0).mono ?_
  rintro e u' w'' ⟨rfl, rfl, rfl⟩
  refine ⟨_, res13 tmps _ be x h2 ?_, hR _ ks⟩
  simp [go_sem, *]
theorem out_idle {w : World} {be : Nat} {tmps : Array Value} {R : Ending → World → Prop} (x : Int) (ce : w.cell? ⟨be, 0, none⟩ = some (.int .i64 x))
    (h2 : tmps.getD 2 undef = .pointer (some ⟨be, 0, none⟩)) (hR : R (.returned (.int .i64 x)) w) :
    Leaves Tryd.prog Tryd.f17 tmps R [{ target := Target.fn (Fn.func 23) #[.pointer (some ⟨be, 0, none⟩)], args := #[] }] .returning w := by
  refine leaves_cons (f := 23) (args := #[.pointer (some ⟨be, 0, none⟩)]) (by simp) (by simp [go_sem]) ?_
  refine (catch_idle ⟨be, 0, none⟩ w).mono ?_
  rintro e u' w'' ⟨rfl, rfl, rfl⟩
  exact ⟨_, res13 tmps _ be x h2 ce, hR⟩
end Go.Proofs.YthefijjdffafkaaDoor
