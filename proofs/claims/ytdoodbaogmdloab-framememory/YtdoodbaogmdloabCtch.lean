/-
  What the deferred call of frame.readAll does: contracts that the statements' walks use.
-/
import Derived.Test.YtdoodbaogmdloabFrm
import Derived.Recover
namespace Go.Proofs.Ytdoodbaogmdloab
open Go.RowKit
set_option linter.unusedVariables false
set_option linter.unusedSimpArgs false
set_option maxRecDepth 20000

theorem wp_any_post {P : Program} {c : Code} {Q : Exit → Act → World → Prop} {a : Act} {w : World} (h : ∀ Q' : Exit → Act → World → Prop, Hid (∀ e a w, Q e a w → Q' e a w) → c.wp P Q' a w) : c.wp P Q a w := h Q (hid fun _ _ _ x => x)
theorem eql_nil (w : World) : (binOp BinOp.eql 20 .nilIface .nilIface).run Try.prog w = .ok (.bool true) w := by kernel_rfl
theorem eql_85 (v : Value) (w : World) : (binOp BinOp.eql 20 (.iface 57 v) .nilIface).run Try.prog w = .ok (.bool false) w := by kernel_rfl
theorem eql_87 (v : Value) (w : World) : (binOp BinOp.eql 20 (.iface 59 v) .nilIface).run Try.prog w = .ok (.bool false) w := by kernel_rfl
theorem as85_85 (v : Value) (w : World) : (Instr.typeAssert (.iface 57 v) 20 57 true).run Try.prog w = .ok (.tuple #[v, .bool true]) w := by kernel_rfl
theorem as87_85 (v : Value) (w : World) : (Instr.typeAssert (.iface 59 v) 20 57 true).run Try.prog w = .ok (.tuple #[.agg #[], .bool false]) w := by kernel_rfl
theorem as87_87 (v : Value) (w : World) : (Instr.typeAssert (.iface 59 v) 20 59 true).run Try.prog w = .ok (.tuple #[v, .bool true]) w := by kernel_rfl

theorem slots52 (a b c d x : Value) : #[a, b, c, d] ++ (Array.replicate 19 undef).setIfInBounds 4 x = #[a, b, c, d, undef, undef, undef, undef, x, undef, undef, undef, undef, undef, undef, undef, undef, undef, undef, undef, undef, undef, undef] := by
  apply Array.toList_inj.1
  simp [List.replicate]
set_option maxHeartbeats 400000 in
theorem catch_idle (pe pr pf pa : Addr) (w : World) :
    CallsD Try.prog 16 #[.pointer (some pe), .pointer (some pr), .pointer (some pf), .pointer (some pa)] .returning w fun e u' w' => e = .returned (.tuple #[]) ∧ u' = .returning ∧ w' = w := by
  have h1 := eql_nil
  refine callsD_of_wpS Try.func16 rfl fun c₀ cs hu => ?_
  apply wpS_seq
  apply wpS_seq
  apply wpS_region
  simp [wpOpsS, go_sem, recoverD, hu, Try.ntmps16, Exit.thenS]
  rw [slots52]
  refine wpS_of_wp (wp_any_post fun Q' HQ => ?_)
  go_wp2
  refine HQ.out _ _ _ ?_
  refine ⟨rfl, .returning, ?_, _, results_none rfl _ _ _, rfl, rfl, rfl⟩
  rw [← hu]

/-- The world behind it, where the reading ended early. -/
def caught (w : World) (o : Obj) (be bf ba : Nat) (x P : Int) : World :=
  (((w.setCell ⟨be, 0, none⟩ (.int .i64 x)).setCell ⟨bf, 0, none⟩ (.slice none 0 0)).setCell ⟨ba, 0, none⟩ (.int .i64 P)).alloc o
/-- The variables that it has caught. -/
structure Vars (w : World) (be br bf ba rk : Nat) (P : Int) : Prop where
  ce : ∃ x, w.cell? ⟨be, 0, none⟩ = some (.int .i64 x)
  cr : w.cell? ⟨br, 0, none⟩ = some (.pointer (some ⟨rk, 0, none⟩))
  cf : ∃ a n c, w.cell? ⟨bf, 0, none⟩ = some (.slice a n c)
  ca : ∃ x, w.cell? ⟨ba, 0, none⟩ = some (.int .i64 x)
  ze : w.frozen? ⟨be, 0, none⟩ = false
  zf : w.frozen? ⟨bf, 0, none⟩ = false
  za : w.frozen? ⟨ba, 0, none⟩ = false
  cp : w.cell? ⟨rk, 2, none⟩ = some (.int .i64 P)
  d1 : be ≠ br
  d2 : be ≠ bf
  d3 : be ≠ ba
  d4 : be ≠ rk
  d5 : bf ≠ ba
set_option maxHeartbeats 1000000 in
theorem catch_cut (be br bf ba rk : Nat) (P : Int) (w : World) (h : Vars w be br bf ba rk P) :
    CallsD Try.prog 16 #[.pointer (some ⟨be, 0, none⟩), .pointer (some ⟨br, 0, none⟩), .pointer (some ⟨bf, 0, none⟩), .pointer (some ⟨ba, 0, none⟩)] (.panicking [cutP]) w fun e u' w' => e = .returned (.tuple #[]) ∧ u' = .panicking [{ cutP with recovered := true }] ∧ w' = caught w (.cells #[] 57) be bf ba 12 P := by
  have h1 := eql_85
  have h2 := as85_85
  obtain ⟨⟨xe, ce⟩, cr, ⟨fa, fn, fc, cf⟩, ⟨xa, ca⟩, ze, zf_, za, cp, d1, d2, d3, d4, d5⟩ := h
  have l1 := lt_of_cell ce
  have l2 := lt_of_cell cr
  have l3 := lt_of_cell cf
  have l4 := lt_of_cell ca
  have l5 := lt_of_cell cp
  have d1' := d1.symm
  have d2' := d2.symm
  have d3' := d3.symm
  have d4' := d4.symm
  have d5' := d5.symm
  refine callsD_of_wpS Try.func16 rfl fun c₀ cs hu => ?_
  apply wpS_seq
  apply wpS_seq
  apply wpS_region
  simp [wpOpsS, go_sem, recoverD, hu, Try.ntmps16, Exit.thenS, cutP, refP]
  rw [slots52]
  refine wpS_of_wp (wp_any_post fun Q' HQ => ?_)
  go_wp2
  refine HQ.out _ _ _ ?_
  show Code.wpS _ _ _ _ _ _
  refine wpS_of_wp (wp_any_post fun Q2 HQ2 => ?_)
  clear HQ
  go_wp2
  refine HQ2.out _ _ _ ?_
  exact ⟨rfl, _, rfl, _, results_none rfl _ _ _, rfl, rfl, rfl⟩
set_option maxHeartbeats 1000000 in
theorem catch_ref (be br bf ba rk : Nat) (P : Int) (x : Int) (w : World) (h : Vars w be br bf ba rk P) :
    CallsD Try.prog 16 #[.pointer (some ⟨be, 0, none⟩), .pointer (some ⟨br, 0, none⟩), .pointer (some ⟨bf, 0, none⟩), .pointer (some ⟨ba, 0, none⟩)] (.panicking [refP x]) w fun e u' w' => e = .returned (.tuple #[]) ∧ u' = .panicking [{ refP x with recovered := true }] ∧ w' = caught w (.cells #[.int .i64 x] 59) be bf ba x P := by
  have h1 := eql_87
  have h2 := as87_85
  have h3 := as87_87
  obtain ⟨⟨xe, ce⟩, cr, ⟨fa, fn, fc, cf⟩, ⟨xa, ca⟩, ze, zf_, za, cp, d1, d2, d3, d4, d5⟩ := h
  have l1 := lt_of_cell ce
  have l2 := lt_of_cell cr
  have l3 := lt_of_cell cf
  have l4 := lt_of_cell ca
  have l5 := lt_of_cell cp
  have d1' := d1.symm
  have d2' := d2.symm
  have d3' := d3.symm
  have d4' := d4.symm
  have d5' := d5.symm
  refine callsD_of_wpS Try.func16 rfl fun c₀ cs hu => ?_
  apply wpS_seq
  apply wpS_seq
  apply wpS_region
  simp [wpOpsS, go_sem, recoverD, hu, Try.ntmps16, Exit.thenS, cutP, refP]
  rw [slots52]
  refine wpS_of_wp (wp_any_post fun Q' HQ => ?_)
  go_wp2
  refine HQ.out _ _ _ ?_
  show Code.wpS _ _ _ _ _ _
  refine wpS_of_wp (wp_any_post fun Q2 HQ2 => ?_)
  clear HQ
  go_wp2
  refine HQ2.out _ _ _ ?_
  exact ⟨rfl, _, rfl, _, results_none rfl _ _ _, rfl, rfl, rfl⟩
end Go.Proofs.Ytdoodbaogmdloab
