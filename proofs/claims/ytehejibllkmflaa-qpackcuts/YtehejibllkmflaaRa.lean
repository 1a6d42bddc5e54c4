/-
  A reading whose panics are caught: faultOf at takeNamed's own text: contracts that the statements' walks use.
-/
import Derived.Test.YtehejibllkmflaaQz
import Derived.Recover
namespace Go.Proofs.Ytehejibllkmflaa
open Go.RowKit
set_option linter.unusedVariables false
set_option linter.unusedSimpArgs false
set_option maxRecDepth 20000

theorem wp_any_post {P : Program} {c : Code} {Q : Exit → Act → World → Prop} {a : Act} {w : World} (h : ∀ Q' : Exit → Act → World → Prop, Hid (∀ e a w, Q e a w → Q' e a w) → c.wp P Q' a w) : c.wp P Q a w := h Q (hid fun _ _ _ x => x)
theorem neq_nil (w : World) : (binOp BinOp.eql 20 .nilIface .nilIface).run Try.prog w = .ok (.bool true) w := by kernel_rfl
theorem neq_33 (v : Value) (w : World) : (binOp BinOp.eql 20 (.iface 33 v) .nilIface).run Try.prog w = .ok (.bool false) w := by kernel_rfl
theorem as33_33 (v : Value) (w : World) : (Instr.typeAssert (.iface 33 v) 20 33 false).run Try.prog w = .ok v w := by kernel_rfl
theorem slots53 (a x y : Value) : #[a] ++ ((Array.replicate 6 undef).setIfInBounds 1 x).setIfInBounds 0 y = #[a, y, x, undef, undef, undef, undef] := by
  apply Array.toList_inj.1
  simp [List.replicate]
set_option maxHeartbeats 400000 in
theorem catch_idle (pe : Addr) (w : World) :
    CallsD Try.prog 53 #[.pointer (some pe)] .returning w fun e u' w' => e = .returned (.tuple #[]) ∧ u' = .returning ∧ w' = w := by
  have h1 := neq_nil
  refine callsD_of_wpS Try.func53 rfl fun c₀ cs hu => ?_
  apply wpS_seq
  apply wpS_region
  simp [wpOpsS, go_sem, recoverD, hu, Try.ntmps53, Exit.thenS]
  rw [slots53]
  refine wpS_of_wp (wp_any_post fun Q' HQ => ?_)
  go_wp2
  refine HQ.out _ _ _ ?_
  refine ⟨rfl, .returning, ?_, _, results_none rfl _ _ _, rfl, rfl, rfl⟩
  rw [← hu]
set_option maxHeartbeats 1000000 in
theorem catch_ref (be : Nat) (x y : Int) (w : World) (ce : w.cell? ⟨be, 0, none⟩ = some (.int .i64 y)) (ze : w.frozen? ⟨be, 0, none⟩ = false) :
    CallsD Try.prog 53 #[.pointer (some ⟨be, 0, none⟩)] (.panicking [refP x]) w fun e u' w' => e = .returned (.tuple #[]) ∧ u' = .panicking [{ refP x with recovered := true }] ∧ w' = w.setCell ⟨be, 0, none⟩ (.int .i64 x) := by
  have h1 := neq_33
  have h2 := as33_33
  have l1 := lt_of_cell ce
  refine callsD_of_wpS Try.func53 rfl fun c₀ cs hu => ?_
  apply wpS_seq
  apply wpS_region
  simp [wpOpsS, go_sem, recoverD, hu, Try.ntmps53, Exit.thenS, refP]
  rw [slots53]
  refine wpS_of_wp (wp_any_post fun Q' HQ => ?_)
  go_wp2
  refine HQ.out _ _ _ ?_
  exact ⟨rfl, _, rfl, _, results_none rfl _ _ _, rfl, rfl, rfl⟩
theorem results29 (tmps : Array Value) (w : World) (be : Nat) (x : Int) (h2 : tmps.getD 2 undef = .pointer (some ⟨be, 0, none⟩)) (ce : w.cell? ⟨be, 0, none⟩ = some (.int .i64 x)) : (results Try.f29 tmps).run Try.prog w = .ok (.int .i64 x) w := by
  have h2' : tmps[2]?.getD undef = .pointer (some ⟨be, 0, none⟩) := by simpa using h2
  simp [results, Try.f29, h2', asAddr, go_sem, ce]
/-- The way out: the deferred call has set the error. -/
theorem out_caught {w : World} {be : Nat} {tmps : Array Value} {R : Ending → World → Prop} (x : Int) (ce : w.heap[be]? = some (.cells #[.int .i64 0] 33 (0, 0)))
    (h2 : tmps.getD 2 undef = .pointer (some ⟨be, 0, none⟩)) (hR : ∀ w'', Keep (fun i => i = be) w w'' → R (.returned (.int .i64 x)) w'') :
    Leaves Try.prog Try.f29 tmps R [{ target := Target.fn (Fn.func 53) #[.pointer (some ⟨be, 0, none⟩)], args := #[] }] (.panicking [refP x]) w := by
  have c0 : w.cell? ⟨be, 0, none⟩ = some (.int .i64 0) := by rw [cell_of_row w be 0 _ 33 (0, 0) ce]; rfl
  have f0 : w.frozen? ⟨be, 0, none⟩ = false := frozen_of_row w be 0 _ 33 ce
  have ks : Keep (fun i => i = be) w (w.setCell ⟨be, 0, none⟩ (.int .i64 x)) := (Keep.refl (fun i => i = be) w).setCell _ _ _ (.inl rfl)
  have hlt := lt_of_block ce
  refine leaves_cons (f := 53) (args := #[.pointer (some ⟨be, 0, none⟩)]) (by simp) (by simp [go_sem]) ?_
  refine (catch_ref be x 0 w c0 f0).mono ?_
  rintro e u' w'' ⟨rfl, rfl, rfl⟩
  refine ⟨_, results29 tmps _ be x h2 ?_, hR _ ks⟩
  simp [go_sem, *]
theorem out_idle {w : World} {be : Nat} {tmps : Array Value} {R : Ending → World → Prop} (x : Int) (ce : w.cell? ⟨be, 0, none⟩ = some (.int .i64 x))
    (h2 : tmps.getD 2 undef = .pointer (some ⟨be, 0, none⟩)) (hR : R (.returned (.int .i64 x)) w) :
    Leaves Try.prog Try.f29 tmps R [{ target := Target.fn (Fn.func 53) #[.pointer (some ⟨be, 0, none⟩)], args := #[] }] .returning w := by
  refine leaves_cons (f := 53) (args := #[.pointer (some ⟨be, 0, none⟩)]) (by simp) (by simp [go_sem]) ?_
  refine (catch_idle ⟨be, 0, none⟩ w).mono ?_
  rintro e u' w'' ⟨rfl, rfl, rfl⟩
  exact ⟨_, results29 tmps _ be x h2 ce, hR⟩
/-- takeNamed's own text: the value is read into the field. -/
theorem val_ok (bx fb rb : Nat) (x : Sv) (zs : List Int) (p : Nat) (s : ByteArray) (q : Nat) (f1 f2 : ByteArray) (w : World) (hb : w.heap[bx]? = some (.cells #[.pointer (some ⟨rb, 0, none⟩)] 78 (0, 0))) (hf : FB w fb f1 f2) (h : Rg w rb x zs p) (ho : txtO zs p 7 = .ok s q) (hq : q ≤ zs.length) (hfr : fb ≠ rb) (hxf : ∀ b, blk x.a = some b → b ≠ fb) :
    Calls Try.prog 54 #[.pointer (some ⟨bx, 0, none⟩), .pointer (some ⟨fb, 0, none⟩)] w fun e w' => e = .returned (.tuple #[]) ∧ FB w' fb f1 s ∧ Rg w' rb x zs q ∧ Keep (fun b => b = rb ∨ b = fb) w w' := by
  have c0 : w.cell? ⟨bx, 0, none⟩ = some (.pointer (some ⟨rb, 0, none⟩)) := by rw [cell_of_row w _ 0 _ 78 (0, 0) hb]; rfl
  have HT := hid (txtR_ok rb x zs p 7 s q w h ho hq)
  have HF := hid hf
  have HD := hid h.d
  clear h hb hf
  go_enter Try.func54, Try.ntmps54
  go_wp2_with (go_at_call 36; refine HT.out.mono ?_; rintro e w1 ⟨rfl, g1, k1⟩; have G1 := hid g1; have K1 := hid k1; have F1 := hid (show FB w1 fb f1 f2 from (k1.block _ (lt_of_block HF.out) hfr).trans HF.out); clear g1 k1 c0; have b1 : w1.cell? ⟨fb, 1, none⟩ = some (.string f2) := (by rw [cell_of_row w1 _ 1 _ 23 (0, 0) F1.out]; rfl); have z1 : w1.frozen? ⟨fb, 1, none⟩ = false := frozen_of_row w1 _ 1 _ 23 F1.out)
  go_end0
  have k2 : Keep (fun b => b = fb) w1 (w1.setCell ⟨fb, 1, none⟩ (.string s)) := (Keep.refl _ w1).setCell fb 1 _ (.inl rfl)
  exact ⟨rfl, heap_setCell_same w1 _ 1 _ 23 (.string s) F1.out, G1.out.keep k2 (fun e => hfr e.symm) (hxf), (K1.out.mono (fun i _ e => .inl e)).trans (k2.mono (fun i _ e => .inr e))⟩
theorem val_bad (bx fb rb : Nat) (x : Sv) (zs : List Int) (p : Nat) (y : Int) (w : World) (hb : w.heap[bx]? = some (.cells #[.pointer (some ⟨rb, 0, none⟩)] 78 (0, 0))) (h : Rg w rb x zs p) (ho : txtO zs p 7 = .bad y) :
    Calls Try.prog 54 #[.pointer (some ⟨bx, 0, none⟩), .pointer (some ⟨fb, 0, none⟩)] w fun e w' => e = .panicked [refP y] ∧ Q w w' := by
  have c0 : w.cell? ⟨bx, 0, none⟩ = some (.pointer (some ⟨rb, 0, none⟩)) := by rw [cell_of_row w _ 0 _ 78 (0, 0) hb]; rfl
  have HT := hid (txtR_bad rb x zs p 7 y w h ho)
  clear h hb
  go_enter Try.func54, Try.ntmps54
  go_wp2_with (go_at_call 36; refine HT.out.mono ?_; rintro e w1 ⟨rfl, q1⟩)
  exact ⟨rfl, rfl, q1⟩
set_option maxHeartbeats 2000000 in
theorem fault54_bad (bx fb rb : Nat) (x : Sv) (zs : List Int) (p : Nat) (y : Int) (w : World) (hb : w.heap[bx]? = some (.cells #[.pointer (some ⟨rb, 0, none⟩)] 78 (0, 0))) (h : Rg w rb x zs p) (ho : txtO zs p 7 = .bad y) :
    Calls Try.prog 29 #[.func (.func 54) #[] #[.pointer (some ⟨bx, 0, none⟩), .pointer (some ⟨fb, 0, none⟩)]] w fun e w' => e = .returned (.int .i64 y) ∧ Q w w' := by
  have hmf : ∀ (fn : Fn) (first cap : Array Value) (w : World), (Instr.makeFunc fn first cap).run Try.prog w = .ok (.func fn first cap) w := fun _ _ _ _ => rfl
  have HV := hid (fun u (k : Q w u) => val_bad bx fb rb x zs p y u (blk_q k hb) (h.q k) ho)
  clear h hb
  have HB := hid (heap_alloc_new w (.cells #[.int .i64 0] 33))
  go_enter_defers Try.func29, Try.ntmps29
  go_wp2_with fail
  refine (HV.out _ ((Q.refl w).alloc _)).mono ?_
  rintro e w1 ⟨rfl, q1⟩
  refine out_caught y (blk_q q1 HB.out) rfl (fun w'' ks => ⟨rfl, ?_⟩)
  have qw := ((Q.refl w).alloc (.cells #[.int .i64 0] 33)).trans q1
  exact ks.below qw qw.size (fun i e => by omega)
set_option maxHeartbeats 2000000 in
theorem fault54_ok (bx fb rb : Nat) (x : Sv) (zs : List Int) (p : Nat) (s : ByteArray) (q : Nat) (f1 f2 : ByteArray) (w : World) (hb : w.heap[bx]? = some (.cells #[.pointer (some ⟨rb, 0, none⟩)] 78 (0, 0))) (hf : FB w fb f1 f2) (h : Rg w rb x zs p) (ho : txtO zs p 7 = .ok s q) (hq : q ≤ zs.length) (hfr : fb ≠ rb) (hxf : ∀ b, blk x.a = some b → b ≠ fb) :
    Calls Try.prog 29 #[.func (.func 54) #[] #[.pointer (some ⟨bx, 0, none⟩), .pointer (some ⟨fb, 0, none⟩)]] w fun e w' => e = .returned (.int .i64 0) ∧ FB w' fb f1 s ∧ Rg w' rb x zs q ∧ Keep (fun b => b = rb ∨ b = fb) w w' := by
  have hmf : ∀ (fn : Fn) (first cap : Array Value) (w : World), (Instr.makeFunc fn first cap).run Try.prog w = .ok (.func fn first cap) w := fun _ _ _ _ => rfl
  have HV := hid (fun u (k : Q w u) => val_ok bx fb rb x zs p s q f1 f2 u (blk_q k hb) (blk_q k hf) (h.q k) ho hq hfr hxf)
  have hrl := lt_of_block h.b
  have hfl := lt_of_block hf
  have hxl : ∀ b, blk x.a = some b → b < w.heap.size := by
    intro b e
    by_cases hz : zs = []
    · subst hz
      have hp0 : p = 0 := by have := h.pl; simpa using this
      subst hp0
      have hbad : txtO [] 0 7 = .bad 12 := by kernel_rfl
      rw [hbad] at ho
      cases ho
    · obtain ⟨g, o, ha, hc⟩ := h.s hz
      rw [ha] at e
      cases e
      exact lt_of_cell (hc 0 (by cases zs with | nil => exact absurd rfl hz | cons a r => simp))
  clear h hb hf
  have HB := hid (heap_alloc_new w (.cells #[.int .i64 0] 33))
  have HQ := hid ((Q.refl w).alloc (.cells #[.int .i64 0] 33))
  go_enter_defers Try.func29, Try.ntmps29
  go_wp2_with fail
  generalize hW : World.alloc w _ = W0 at *
  clear hW
  refine (HV.out _ HQ.out).mono ?_
  rintro e w1 ⟨rfl, fb1, g1, k1⟩
  have B1 := hid (show w1.heap[w.heap.size]? = some (.cells #[.int .i64 0] 33 (0, 0)) from (k1.block _ (lt_of_block HB.out) (by omega)).trans HB.out)
  have F1 := hid fb1
  have G1 := hid g1
  have K1 := hid ((Keep.ofQ HQ.out).trans k1)
  clear fb1 g1 k1
  have c0 : w1.cell? ⟨w.heap.size, 0, none⟩ = some (.int .i64 0) := by rw [cell_of_row w1 _ 0 _ 33 (0, 0) B1.out]; rfl
  have z0 : w1.frozen? ⟨w.heap.size, 0, none⟩ = false := frozen_of_row w1 _ 0 _ 33 B1.out
  have k2 : Keep (fun b => b = w.heap.size) w1 (w1.setCell ⟨w.heap.size, 0, none⟩ (.int .i64 0)) := (Keep.refl _ w1).setCell _ 0 _ (.inl rfl)
  have HE := hid (show (.returned (.int .i64 0) : Ending) = .returned (.int .i64 0) ∧ FB (w1.setCell ⟨w.heap.size, 0, none⟩ (.int .i64 0)) fb f1 s ∧ Rg (w1.setCell ⟨w.heap.size, 0, none⟩ (.int .i64 0)) rb x zs q ∧ Keep (fun b => b = rb ∨ b = fb) w (w1.setCell ⟨w.heap.size, 0, none⟩ (.int .i64 0)) from
    ⟨rfl, FB.keep F1.out k2 (by omega), G1.out.keep k2 (by omega) (fun b e => by have := hxl b e; omega), K1.out.trans' k2 (fun i hi e => by omega)⟩)
  have HC := hid (show (w1.setCell ⟨w.heap.size, 0, none⟩ (.int .i64 0)).cell? ⟨w.heap.size, 0, none⟩ = some (.int .i64 0) from by rw [cell_of_row _ _ 0 _ 33 (0, 0) (heap_setCell_same w1 w.heap.size 0 _ 33 (.int .i64 0) B1.out)]; rfl)
  clear k2
  go_wp2
  exact out_idle (be := w.heap.size) 0 HC.out rfl ⟨rfl, HE.out.2⟩
end Go.Proofs.Ytehejibllkmflaa
