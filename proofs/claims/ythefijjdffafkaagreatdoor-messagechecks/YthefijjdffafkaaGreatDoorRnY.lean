/-
  A reading whose panics are caught: faultOf: contracts that the statements' walks use.
-/
import Derived.Test.YthefijjdffafkaaGreatDoorRnX
import Derived.Recover
namespace Go.Proofs.YthefijjdffafkaaGreatDoor
open Go.RowKit
set_option linter.unusedVariables false
set_option linter.unusedSimpArgs false
set_option maxRecDepth 20000

theorem wp_any_post {P : Program} {c : Code} {Q : Exit → Act → World → Prop} {a : Act} {w : World} (h : ∀ Q' : Exit → Act → World → Prop, Hid (∀ e a w, Q e a w → Q' e a w) → c.wp P Q' a w) : c.wp P Q a w := h Q (hid fun _ _ _ x => x)
theorem neq_nil (w : World) : (binOp BinOp.neq 20 .nilIface .nilIface).run Tryz.prog w = .ok (.bool false) w := by kernel_rfl
theorem as_nil (w : World) : (Instr.typeAssert .nilIface 20 55 true).run Tryz.prog w = .ok (.tuple #[.int .i64 0, .bool false]) w := by kernel_rfl
theorem as_55 (v : Value) (w : World) : (Instr.typeAssert (.iface 55 v) 20 55 true).run Tryz.prog w = .ok (.tuple #[v, .bool true]) w := by kernel_rfl
theorem slots31 (a x y : Value) : #[a] ++ ((Array.replicate 14 undef).setIfInBounds 3 x).setIfInBounds 0 y = #[a, y, undef, undef, x, undef, undef, undef, undef, undef, undef, undef, undef, undef, undef] := by
  apply Array.toList_inj.1
  simp [List.replicate]
set_option maxHeartbeats 400000 in
theorem catch_idle (pe : Addr) (w : World) :
    CallsD Tryz.prog 31 #[.pointer (some pe)] .returning w fun e u' w' => e = .returned (.tuple #[]) ∧ u' = .returning ∧ w' = w := by
  have h1 := neq_nil
  have h2 := as_nil
  refine callsD_of_wpS Tryz.func31 rfl fun c₀ cs hu => ?_
  apply wpS_seq
  apply wpS_region
  simp [wpOpsS, go_sem, recoverD, hu, Tryz.ntmps31, Exit.thenS]
  rw [slots31]
  refine wpS_of_wp (wp_any_post fun Q' HQ => ?_)
  go_wp2
  refine HQ.out _ _ _ ?_
  refine ⟨rfl, .returning, ?_, _, results_none rfl _ _ _, rfl, rfl, rfl⟩
  rw [← hu]
set_option maxHeartbeats 1000000 in
theorem catch_ref (be : Nat) (x y : Int) (w : World) (ce : w.cell? ⟨be, 0, none⟩ = some (.int .i64 y)) (ze : w.frozen? ⟨be, 0, none⟩ = false) :
    CallsD Tryz.prog 31 #[.pointer (some ⟨be, 0, none⟩)] (.panicking [refP x]) w fun e u' w' => e = .returned (.tuple #[]) ∧ u' = .panicking [{ refP x with recovered := true }] ∧ w' = w.setCell ⟨be, 0, none⟩ (.int .i64 x) := by
  have h2 := as_55
  have l1 := lt_of_cell ce
  refine callsD_of_wpS Tryz.func31 rfl fun c₀ cs hu => ?_
  apply wpS_seq
  apply wpS_region
  simp [wpOpsS, go_sem, recoverD, hu, Tryz.ntmps31, Exit.thenS, refP]
  rw [slots31]
  refine wpS_of_wp (wp_any_post fun Q' HQ => ?_)
  go_wp2
  refine HQ.out _ _ _ ?_
  exact ⟨rfl, _, rfl, _, results_none rfl _ _ _, rfl, rfl, rfl⟩
theorem res13 (tmps : Array Value) (w : World) (be : Nat) (x : Int) (h2 : tmps.getD 2 undef = .pointer (some ⟨be, 0, none⟩)) (ce : w.cell? ⟨be, 0, none⟩ = some (.int .i64 x)) : (results Tryz.f13 tmps).run Tryz.prog w = .ok (.int .i64 x) w := by
  have h2' : tmps[2]?.getD undef = .pointer (some ⟨be, 0, none⟩) := by simpa using h2
  simp [results, Tryz.f13, h2', asAddr, go_sem, ce]
/-- The way out: the deferred call has set the error. -/
theorem out_caught {w : World} {be : Nat} {tmps : Array Value} {R : Ending → World → Prop} (x : Int) (ce : w.heap[be]? = some (.cells #[.int .i64 0] 28 (0, 0)))
    (h2 : tmps.getD 2 undef = .pointer (some ⟨be, 0, none⟩)) (hR : ∀ w'', Keep (fun i => i = be) w w'' → R (.returned (.int .i64 x)) w'') :
    Leaves Tryz.prog Tryz.f13 tmps R [{ target := Target.fn (Fn.func 31) #[.pointer (some ⟨be, 0, none⟩)], args := #[] }] (.panicking [refP x]) w := by
  have c0 : w.cell? ⟨be, 0, none⟩ = some (.int .i64 0) := by rw [cell_of_row w be 0 _ 28 (0, 0) ce]; rfl
  have f0 : w.frozen? ⟨be, 0, none⟩ = false := frozen_of_row w be 0 _ 28 ce
  have ks : Keep (fun i => i = be) w (w.setCell ⟨be, 0, none⟩ (.int .i64 x)) := (Keep.refl (fun i => i = be) w).setCell _ _ _ (.inl rfl)
  have hlt := lt_of_block ce
  refine leaves_cons (f := 31) (args := #[.pointer (some ⟨be, 0, none⟩)]) (by simp) (by simp [go_sem]) ?_
  refine (catch_ref be x 0 w c0 f0).mono ?_
  rintro e u' w'' ⟨rfl, rfl, rfl⟩
  refine ⟨_, res13 tmps _ be x h2 ?_, hR _ ks⟩
  simp [go_sem, *]
theorem out_idle {w : World} {be : Nat} {tmps : Array Value} {R : Ending → World → Prop} (x : Int) (ce : w.cell? ⟨be, 0, none⟩ = some (.int .i64 x))
    (h2 : tmps.getD 2 undef = .pointer (some ⟨be, 0, none⟩)) (hR : R (.returned (.int .i64 x)) w) :
    Leaves Tryz.prog Tryz.f13 tmps R [{ target := Target.fn (Fn.func 31) #[.pointer (some ⟨be, 0, none⟩)], args := #[] }] .returning w := by
  refine leaves_cons (f := 31) (args := #[.pointer (some ⟨be, 0, none⟩)]) (by simp) (by simp [go_sem]) ?_
  refine (catch_idle ⟨be, 0, none⟩ w).mono ?_
  rintro e u' w'' ⟨rfl, rfl, rfl⟩
  exact ⟨_, res13 tmps _ be x h2 ce, hR⟩
/-- The trailers' own text. -/
theorem cl26 (bf bl : Nat) (x : Sv) (l : List Fd) (c s : Int) (w : World) (hf : Blk w bf 22 #[.slice x.a x.n x.c]) (hl : Blk w bl 24 #[.int .i64 c, .int .i64 s]) (h : Fin w x l) :
    Calls Tryz.prog 26 #[.pointer (some ⟨bf, 0, none⟩), .pointer (some ⟨bl, 0, none⟩)] w fun e w' => e = endA (traE l c s) (.tuple #[]) ∧ Q w w' := by
  have c0 : w.cell? ⟨bf, 0, none⟩ = some (.slice x.a x.n x.c) := hf.cell 0
  have c1 : w.cell? ⟨bl, 0, none⟩ = some (.int .i64 c) := hl.cell 0
  have c2 : w.cell? ⟨bl, 1, none⟩ = some (.int .i64 s) := hl.cell 1
  obtain ⟨xa, xn, xc⟩ := x
  have HR := hid (rtr_any ⟨xa, xn, xc⟩ l c s w h)
  dsimp only at HR c0
  clear h hf hl
  by_cases he : traE l c s = 0
  · rw [endA_ok _ he] at HR ⊢
    go_enter Tryz.func26, Tryz.ntmps26
    go_wp2_with (go_at_call 27; refine HR.out.mono ?_; rintro e w1 ⟨rfl, q1⟩)
    go_end0
    exact ⟨rfl, q1⟩
  · rw [endA_no _ _ rfl he] at HR ⊢
    go_enter Tryz.func26, Tryz.ntmps26
    go_wp2_with (go_at_call 27; refine HR.out.mono ?_; rintro e w1 ⟨rfl, q1⟩)
    exact ⟨rfl, rfl, q1⟩
set_option maxHeartbeats 4000000 in
theorem fault26 (bf bl : Nat) (x : Sv) (l : List Fd) (c s : Int) (w : World) (hf : Blk w bf 22 #[.slice x.a x.n x.c]) (hl : Blk w bl 24 #[.int .i64 c, .int .i64 s]) (h : Fin w x l) :
    Calls Tryz.prog 13 #[.func (.func 26) #[] #[.pointer (some ⟨bf, 0, none⟩), .pointer (some ⟨bl, 0, none⟩)]] w fun e w' => e = .returned (.int .i64 (traE l c s)) ∧ Q w w' := by
  have hmf : ∀ (fn : Fn) (first cap : Array Value) (w : World), (Instr.makeFunc fn first cap).run Tryz.prog w = .ok (.func fn first cap) w := fun _ _ _ _ => rfl
  have HV := hid (fun u (k : Q w u) => cl26 bf bl x l c s u (hf.q k) (hl.q k) (h.q k))
  have HB := hid (heap_alloc_new w (.cells #[.int .i64 0] 28))
  have HQ := hid ((Q.refl w).alloc (.cells #[.int .i64 0] 28))
  clear h hf hl
  by_cases he : traE l c s = 0
  · rw [endA_ok _ he] at HV
    rw [he]
    clear he
    go_enter_defers Tryz.func13, Tryz.ntmps13
    go_wp2_with fail
    generalize hW : World.alloc w _ = W0 at *
    clear hW
    refine (HV.out _ HQ.out).mono ?_
    rintro e w1 ⟨rfl, q1⟩
    have B1 := hid (show w1.heap[w.heap.size]? = some (.cells #[.int .i64 0] 28 (0, 0)) from (Below.block q1 _ (lt_of_block HB.out)).trans HB.out)
    have Q1 := hid (HQ.out.trans q1)
    clear q1
    have c0 : w1.cell? ⟨w.heap.size, 0, none⟩ = some (.int .i64 0) := by rw [cell_of_row w1 _ 0 _ 28 (0, 0) B1.out]; rfl
    have z0 : w1.frozen? ⟨w.heap.size, 0, none⟩ = false := frozen_of_row w1 _ 0 _ 28 B1.out
    have HE := hid (show Q w (w1.setCell ⟨w.heap.size, 0, none⟩ (.int .i64 0)) from Q1.out.setCell (p := ⟨w.heap.size, 0, none⟩) (Nat.le_refl _) _)
    have HC := hid (show (w1.setCell ⟨w.heap.size, 0, none⟩ (.int .i64 0)).cell? ⟨w.heap.size, 0, none⟩ = some (.int .i64 0) from by rw [cell_of_row _ _ 0 _ 28 (0, 0) (heap_setCell_same w1 w.heap.size 0 _ 28 (.int .i64 0) B1.out)]; rfl)
    go_wp2
    exact out_idle (be := w.heap.size) 0 HC.out rfl ⟨rfl, HE.out⟩
  · rw [endA_no _ _ rfl he] at HV
    clear he
    generalize traE l c s = y at *
    go_enter_defers Tryz.func13, Tryz.ntmps13
    go_wp2_with fail
    generalize hW : World.alloc w _ = W0 at *
    clear hW
    refine (HV.out _ HQ.out).mono ?_
    rintro e w1 ⟨rfl, q1⟩
    refine out_caught y ((Below.block q1 _ (lt_of_block HB.out)).trans HB.out) rfl (fun w'' ks => ⟨rfl, ?_⟩)
    have qw := HQ.out.trans q1
    exact ks.below qw qw.size (fun i e => by omega)
set_option maxHeartbeats 4000000 in
theorem trailers_any (x : Sv) (l : List Fd) (c s : Int) (w : World) (h : Fin w x l) : Calls Tryz.prog 11 #[.slice x.a x.n x.c, .agg #[.int .i64 c, .int .i64 s]] w fun e w' => e = .returned (.int .i64 (traE l c s)) ∧ Q w w' := by
  have hmf : ∀ (fn : Fn) (first cap : Array Value) (w : World), (Instr.makeFunc fn first cap).run Tryz.prog w = .ok (.func fn first cap) w := fun _ _ _ _ => rfl
  obtain ⟨xa, xn, xc⟩ := x
  have HQ := hid (((Q.refl w).alloc (.cells #[.slice xa xn xc] 22)).alloc (.cells #[.int .i64 c, .int .i64 s] 24))
  have HB1 := hid ((blk_new w #[.slice xa xn xc] 22).q ((Q.refl _).alloc (.cells #[.int .i64 c, .int .i64 s] 24)))
  have HB2 := hid (show Blk ((w.alloc (.cells #[.slice xa xn xc] 22)).alloc (.cells #[.int .i64 c, .int .i64 s] 24)) (w.heap.size + 1) 24 #[.int .i64 c, .int .i64 s] from by
    have := blk_new (w.alloc (.cells #[.slice xa xn xc] 22)) #[.int .i64 c, .int .i64 s] 24
    rw [World.size_alloc] at this
    exact this)
  have HV := hid (fault26 w.heap.size (w.heap.size + 1) ⟨xa, xn, xc⟩ l c s _ HB1.out HB2.out (h.q HQ.out))
  clear h HB1 HB2
  generalize traE l c s = y at *
  go_enter Tryz.func11, Tryz.ntmps11
  go_wp2_with (go_at_call 13; refine HV.out.mono ?_; rintro e w1 ⟨rfl, q1⟩)
  go_ret
  exact ⟨rfl, HQ.out.trans q1⟩
end Go.Proofs.YthefijjdffafkaaGreatDoor
