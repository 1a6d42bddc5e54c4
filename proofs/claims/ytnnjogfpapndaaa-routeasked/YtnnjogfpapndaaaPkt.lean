/-
  What a reading's packet does: a contract that the statements' walks use.
-/
import Derived.Test.YtnnjogfpapndaaaHdr
import Derived.Recover
import Derived.Deep.RegionLaw
import Derived.Deep.RegionHeld3
namespace Go.Proofs.Ytnnjogfpapndaaa
open Go.RowKit
set_option linter.unusedVariables false
set_option linter.unusedSimpArgs false
set_option maxRecDepth 20000

theorem wp_any_post {P : Program} {c : Code} {Q : Exit → Act → World → Prop} {a : Act} {w : World} (h : ∀ Q' : Exit → Act → World → Prop, Hid (∀ e a w, Q e a w → Q' e a w) → c.wp P Q' a w) : c.wp P Q a w := h Q (hid fun _ _ _ x => x)
theorem neq_nil (w : World) : (binOp BinOp.eql 20 .nilIface .nilIface).run Try.prog w = .ok (.bool true) w := by kernel_rfl
theorem neq_27 (v : Value) (w : World) : (binOp BinOp.eql 20 (.iface 25 v) .nilIface).run Try.prog w = .ok (.bool false) w := by kernel_rfl
theorem as27_27 (v : Value) (w : World) : (Instr.typeAssert (.iface 25 v) 20 25 false).run Try.prog w = .ok v w := by kernel_rfl

theorem slots46 (a x y : Value) : #[a] ++ ((Array.replicate 6 undef).setIfInBounds 1 x).setIfInBounds 0 y = #[a, y, x, undef, undef, undef, undef] := by
  apply Array.toList_inj.1
  simp [List.replicate]
set_option maxHeartbeats 400000 in
theorem catch_idle (pe : Addr) (w : World) :
    CallsD Try.prog 76 #[.pointer (some pe)] .returning w fun e u' w' => e = .returned (.tuple #[]) ∧ u' = .returning ∧ w' = w := by
  have h1 := neq_nil
  refine callsD_of_wpS Try.func76 rfl fun c₀ cs hu => ?_
  apply wpS_seq
  apply wpS_region
  simp [wpOpsS, go_sem, recoverD, hu, Try.ntmps76, Exit.thenS]
  rw [slots46]
  refine wpS_of_wp (wp_any_post fun Q' HQ => ?_)
  go_wp2
  refine HQ.out _ _ _ ?_
  refine ⟨rfl, .returning, ?_, _, results_none rfl _ _ _, rfl, rfl, rfl⟩
  rw [← hu]
set_option maxHeartbeats 1000000 in
theorem catch_ref (be : Nat) (x y : Int) (w : World) (ce : w.cell? ⟨be, 0, none⟩ = some (.int .i64 y)) (ze : w.frozen? ⟨be, 0, none⟩ = false) :
    CallsD Try.prog 76 #[.pointer (some ⟨be, 0, none⟩)] (.panicking [refP x]) w fun e u' w' => e = .returned (.tuple #[]) ∧ u' = .panicking [{ refP x with recovered := true }] ∧ w' = w.setCell ⟨be, 0, none⟩ (.int .i64 x) := by
  have h1 := neq_27
  have h2 := as27_27
  have l1 := lt_of_cell ce
  refine callsD_of_wpS Try.func76 rfl fun c₀ cs hu => ?_
  apply wpS_seq
  apply wpS_region
  simp [wpOpsS, go_sem, recoverD, hu, Try.ntmps76, Exit.thenS, refP]
  rw [slots46]
  refine wpS_of_wp (wp_any_post fun Q' HQ => ?_)
  go_wp2
  refine HQ.out _ _ _ ?_
  exact ⟨rfl, _, rfl, _, results_none rfl _ _ _, rfl, rfl, rfl⟩

/-- A packet's words. -/
abbrev pcells (h : Hd) (d s t v : Sv) (fr at_ en : Int) : Array Value := #[.int .i64 h.kind, .int .i64 h.ver, .slice d.a d.n d.c, .slice s.a s.n s.c, .slice t.a t.n t.c, .slice v.a v.n v.c, .int .i64 h.len, .int .i64 fr, .int .i64 at_, .int .i64 en]
theorem pcells_one (h : Hd) (d s t v : Sv) (fr at_ en : Int) : (pcells h d s t v fr at_ en).all (·.oneCell') = true := by simp [pcells, Value.oneCell']
theorem pcells_info (h : Hd) (d s t v : Sv) (fr at_ en : Int) : (Try.prog.info? 97).map (·.size) = some (pcells h d s t v fr at_ en).size := by
  show (Try.prog.info? 97).map (·.size) = some 10
  kernel_rfl
def PBox (w : World) (pb : Nat) (h : Hd) (d s t v : Sv) (fr at_ en : Int) : Prop := w.heap[pb]? = some (.cells (pcells h d s t v fr at_ en) 97 (0, 0))
theorem PBox.cell {w : World} {pb : Nat} {h : Hd} {d s t v : Sv} {fr at_ en : Int} (x : PBox w pb h d s t v fr at_ en) (j : Nat) (u : Value) (hj : (pcells h d s t v fr at_ en)[j]? = some u) : w.cell? ⟨pb, j, none⟩ = some u := by
  rw [cell_of_row w pb j _ 97 (0, 0) x]; exact hj

theorem results27 (tmps : Array Value) (w : World) (bp be : Nat) (h : Hd) (d s t v : Sv) (fr at_ en x : Int) (h2 : tmps.getD 2 undef = .pointer (some ⟨bp, 0, none⟩)) (h3 : tmps.getD 3 undef = .pointer (some ⟨be, 0, none⟩))
    (b : PBox w bp h d s t v fr at_ en) (ce : w.cell? ⟨be, 0, none⟩ = some (.int .i64 x)) :
    (results Try.f60 tmps).run Try.prog w = .ok (.tuple #[.agg (pcells h d s t v fr at_ en), .int .i64 x]) w := by
  have h2' : tmps[2]?.getD undef = .pointer (some ⟨bp, 0, none⟩) := by simpa using h2
  have h3' : tmps[3]?.getD undef = .pointer (some ⟨be, 0, none⟩) := by simpa using h3
  have c0 := b.cell 0 _ rfl
  have c1 := b.cell 1 _ rfl
  have c2 := b.cell 2 _ rfl
  have c3 := b.cell 3 _ rfl
  have c4 := b.cell 4 _ rfl
  have c5 := b.cell 5 _ rfl
  have c6 := b.cell 6 _ rfl
  have c7 := b.cell 7 _ rfl
  have c8 := b.cell 8 _ rfl
  have c9 := b.cell 9 _ rfl
  simp [results, h2', h3', asAddr, go_sem, c0, c1, c2, c3, c4, c5, c6, c7, c8, c9, ce]
/-- The way out: the deferred call has set the error. -/
theorem out_caught {w : World} {bp be : Nat} {tmps : Array Value} {R : Ending → World → Prop} (x : Int) (b : PBox w bp zh nilS nilS nilS nilS 0 0 0) (ce : w.heap[be]? = some (.cells #[.int .i64 0] 25 (0, 0))) (hne : be ≠ bp)
    (h2 : tmps.getD 2 undef = .pointer (some ⟨bp, 0, none⟩)) (h3 : tmps.getD 3 undef = .pointer (some ⟨be, 0, none⟩))
    (hR : ∀ w'', Keep (fun i => i = be) w w'' → R (.returned (.tuple #[.agg (pcells zh nilS nilS nilS nilS 0 0 0), .int .i64 x])) w'') :
    Leaves Try.prog Try.f60 tmps R [{ target := Target.fn (Fn.func 76) #[.pointer (some ⟨be, 0, none⟩)], args := #[] }] (.panicking [refP x]) w := by
  have c0 : w.cell? ⟨be, 0, none⟩ = some (.int .i64 0) := by rw [cell_of_row w be 0 _ 25 (0, 0) ce]; rfl
  have f0 : w.frozen? ⟨be, 0, none⟩ = false := frozen_of_row w be 0 _ 25 ce
  have ks : Keep (fun i => i = be) w (w.setCell ⟨be, 0, none⟩ (.int .i64 x)) := (Keep.refl (fun i => i = be) w).setCell _ _ _ (.inl rfl)
  have hlt := lt_of_block ce
  refine leaves_cons (f := 76) (args := #[.pointer (some ⟨be, 0, none⟩)]) (by simp) (by simp [go_sem]) ?_
  refine (catch_ref be x 0 w c0 f0).mono ?_
  rintro e u' w'' ⟨rfl, rfl, rfl⟩
  refine ⟨_, results27 tmps _ bp be zh nilS nilS nilS nilS 0 0 0 x h2 h3 ((ks.block bp (lt_of_block b) (fun e => hne e.symm)).trans b) ?_, hR _ ks⟩
  simp [go_sem, *]

theorem hdrO_pl {zs : List Int} {cid p q : Int} {H : Hd} (hp : Pl zs p) (h : hdrO zs cid p = .ok H q) : Pl zs q ∧ p < q ∧ 0 ≤ behM zs.length H.kind H.len q ∧ q + behM zs.length H.kind H.len q ≤ zs.length := by
  unfold hdrO at h
  by_cases hc : cid < 0 ∨ 20 < cid
  · rw [if_pos hc] at h; cases h
  rw [if_neg hc] at h
  obtain ⟨m, q1, ho, h2⟩ := Out.bind_ok h
  obtain ⟨p1, e1, _, _, m0, m1⟩ := oneO_pl hp ho
  by_cases hL : 128 ≤ m
  · rw [if_pos hL] at h2
    unfold longO at h2
    obtain ⟨ve, q2, o2, h3⟩ := Out.bind_ok h2
    obtain ⟨d, q3, o3, h4⟩ := Out.bind_ok h3
    obtain ⟨s, q4, o4, h5⟩ := Out.bind_ok h4
    obtain ⟨p2, e2, _⟩ := verO_pl p1 o2
    obtain ⟨p3, e3, _⟩ := idO_pl p2 o3
    obtain ⟨p4, e4, _⟩ := idO_pl p3 o4
    have hp40 := p4.h1
    by_cases h0 : ve = 0
    · rw [if_pos h0] at h5
      obtain ⟨vs, q5, o5, h6⟩ := Out.bind_ok h5
      obtain ⟨p5, e5⟩ := versO_pl p4 o5
      cases h6
      have := p5.h1
      refine ⟨p5, by omega, ?_, ?_⟩ <;> simp [behM] <;> omega
    rw [if_neg h0] at h5
    by_cases h1 : ve = 1
    · rw [if_pos h1] at h5
      by_cases hF : m / 64 % 2 = 0
      · rw [if_pos hF] at h5; cases h5
      rw [if_neg hF] at h5
      obtain ⟨tl, q5, o5, h6⟩ := Out.bind_ok h5
      obtain ⟨p5, e5, a5, b5, c5⟩ := fillO_pl p4 o5
      cases h6
      have := p5.h1
      by_cases h4 : 1 + m / 16 % 4 = 4
      · refine ⟨p5, by omega, ?_, ?_⟩ <;> (unfold behM; dsimp only; rw [if_neg (by omega)]; omega)
      · have := b5 h4
        refine ⟨p5, by omega, ?_, ?_⟩ <;> (unfold behM; dsimp only; rw [if_pos (by omega)]; omega)
    · rw [if_neg h1] at h5
      cases h5
      refine ⟨p4, by omega, ?_, ?_⟩ <;> simp [behM] <;> omega
  · rw [if_neg hL] at h2
    by_cases hF : m / 64 % 2 = 0
    · rw [if_pos hF] at h2; cases h2
    rw [if_neg hF] at h2
    obtain ⟨d, q2, o2, h3⟩ := Out.bind_ok h2
    obtain ⟨p2, e2, _, _, _⟩ := someO_pl p1 (by omega) o2
    cases h3
    have := p2.h1
    refine ⟨p2, by omega, ?_, ?_⟩ <;> simp [behM] <;> omega
theorem wp_store_int {o : Oper} {a : Act} {w : World} {K : Act → World → Prop} {R : Exit → Act → World → Prop} (x y : Operand) (ho : o.op = .store 25 x y) (b : Nat) (v u : Int) (hx : a.eval x = .pointer (some ⟨b, 0, none⟩)) (hy : a.eval y = .int .i64 v) (hc : w.cell? ⟨b, 0, none⟩ = some (.int .i64 u)) (hf : w.frozen? ⟨b, 0, none⟩ = false)
    (h : K (a.put o.dst undef) (w.setCell ⟨b, 0, none⟩ (.int .i64 v))) : Oper.wp Try.prog o a w K R := by
  have hst : (storeVar 25 ⟨b, 0, none⟩ (.int .i64 v)).run Try.prog w = .ok () (w.setCell ⟨b, 0, none⟩ (.int .i64 v)) := by simp [storeVar, go_sem, hc, hf]
  unfold Oper.wp execOp
  simp only [ho, hx, hy, Instr.storeAt, Instr.sureAddr, Sem.run_bind, Sem.run_pure, Result.andThen_ok, hst]
  exact h
/-- A packet that a call made. -/
def PieceV (B : Nat) (h : Hd) (fr at_ en : Int) (w' : World) (v : Value) : Prop := ∃ d s t vs, v = .agg (pcells h d s t vs fr at_ en) ∧ Holds B w' h d s t vs
/-- What packet tells. -/
def AnsP (w : World) (rk rb g n : Nat) (zs : List Int) (cid p : Int) (e : Ending) (w' : World) : Prop :=
  Keep (fun k => k = rb) w w' ∧ ((∃ H q v, hdrO zs cid p = .ok H q ∧ e = .returned (.tuple #[v, .int .i64 0]) ∧ PieceV w.heap.size H p q (q + behM n H.kind H.len q) w' v ∧ Rg w' rk rb g n zs cid q) ∨
    (∃ x, hdrO zs cid p = .bad x ∧ e = .returned (.tuple #[.agg (pcells zh nilS nilS nilS nilS 0 0 0), .int .i64 x])))

section
variable (rk rb g n : Nat) (zs : List Int) (cid p : Int) (w : World)
set_option maxHeartbeats 4000000 in
theorem packet_at (h : Rg w rk rb g n zs cid p) : Calls Try.prog 60 #[.pointer (some ⟨rk, 0, none⟩)] w fun e w' => AnsP w rk rb g n zs cid p e w' := by
  have hmf : ∀ (fn : Fn) (first cap : Array Value) (w : World), (Instr.makeFunc fn first cap).run Try.prog w = .ok (.func fn first cap) w := fun _ _ _ _ => rfl
  have HH := hid h
  have hrk := h.lt
  have hrb := h.rdr.lt
  have hg := lt_of_block h.row
  have c0 := h.c0
  clear h
  go_enter_defers Try.func60, Try.ntmps60
  go_wp2_with fail
  generalize hw2 : World.alloc (World.alloc w _) _ = w2
  have q2 : Q w w2 := by rw [← hw2]; exact ((Q.refl w).alloc _).alloc _
  have s2 : w2.heap.size = w.heap.size + 2 := by rw [← hw2]; simp
  have bp : PBox w2 w.heap.size zh nilS nilS nilS nilS 0 0 0 := by rw [← hw2]; exact heap_alloc2_old w _ _
  have be : w2.heap[w.heap.size + 1]? = some (.cells #[.int .i64 0] 25 (0, 0)) := by rw [← hw2]; exact heap_alloc2_new w _ _
  clear hw2
  have r2 := HH.out.q q2
  refine (at_any rb _ n n p 0 w2 r2.rdr).mono ?_
  rintro e w2' ⟨rfl, rfl⟩
  have Q2 := hid q2
  have BP := hid bp
  have BE := hid be
  have R2 := hid r2
  clear q2 bp be r2
  go_wp2_with fail
  refine (header_at rk rb g n zs cid p w2 R2.out).mono ?_
  rintro e w3 ⟨hk, ⟨H, q3, vv, ho, rfl, ⟨dS, sS, tS, vS, rfl, hh⟩, hr⟩ | ⟨hs, rfl⟩⟩
  rotate_left
  · obtain ⟨x, hx⟩ : ∃ x, hdrO zs cid p = .bad x := by
      cases hc : hdrO zs cid p with
      | ok a q => exact absurd hc (hs a q)
      | bad x => exact ⟨x, rfl⟩
    rw [hx]
    have k3 : Keep (fun k => k = rb) w w3 := (Keep.ofQ Q2.out).trans hk
    refine out_caught (bp := w.heap.size) x ((hk.block _ (lt_of_block BP.out) (by omega)).trans BP.out) ((hk.block _ (lt_of_block BE.out) (by omega)).trans BE.out) (by omega) rfl rfl (fun w'' ks => ?_)
    exact ⟨k3.trans' ks (fun i hi e => by omega), .inr ⟨x, hx, rfl⟩⟩
  · have hs3 := hk.size
    have K3 := hid (show Keep (fun k => k = rb) w w3 from (Keep.ofQ Q2.out).trans hk)
    have R3 := hid hr
    have BP3 := hid (show PBox w3 w.heap.size zh nilS nilS nilS nilS 0 0 0 from (hk.block _ (lt_of_block BP.out) (by omega)).trans BP.out)
    have BE3 := hid ((hk.block _ (lt_of_block BE.out) (by omega)).trans BE.out)
    have H3 := hid hh
    have HO := hid ho
    have HPL := hid (hdrO_pl HH.out.pl_ ho)
    clear hk hr hh ho BP BE R2 Q2
    go_wp2_with (refine wpList_store_row rfl 80 _ _ rfl w3.heap.size (hcells H dS sS tS vS) rfl rfl 80 _ (heap_alloc_new w3 _) (hcells_info _ _ _ _ _) rfl (hcells_one _ _ _ _ _) ?_; refine Hid.out ?_)
    refine hid ?_
    generalize hw4 : World.setRow _ _ _ = w4
    have k4 : Keep (fun i => i = w3.heap.size) w3 w4 := by rw [← hw4]; exact ((Keep.refl (fun i => i = w3.heap.size) w3).alloc _).setRow _ _ (.inl rfl)
    have b4 : Box w4 80 w3.heap.size H dS sS tS vS := by rw [← hw4]; exact setRow_heap _ _ _ _ 80 _ (heap_alloc_new w3 _)
    clear hw4
    have K4 := hid (show Keep (fun k => k = rb) w w4 from K3.out.trans' k4 (fun i hi e => by omega))
    have r4 := R3.out.keepNew k4 HH.out (fun i e => by omega)
    have BP4 := hid (show PBox w4 w.heap.size zh nilS nilS nilS nilS 0 0 0 from (k4.block _ (lt_of_block BP3.out) (by omega)).trans BP3.out)
    have BE4 := hid ((k4.block _ (lt_of_block BE3.out) (by omega)).trans BE3.out)
    have H4 := hid (H3.out.keep k4 (fun i e => .inr (by omega)))
    have hs4 := k4.size
    have hlt4 := b4.lt
    have f0 := r4.c0
    generalize hhb : w3.heap.size = hb at *
    clear hhb k4 K3 R3 BP3 BE3 H3
    go_wp2_with fail
    refine (at_any rb _ n n q3 0 w4 r4.rdr).mono ?_
    rintro e w4' ⟨rfl, rfl⟩
    obtain ⟨y0, y1, y2, y3, y4, y5, y6⟩ := b4.all
    have HBH := hid (fun u (hu : Q w4 u) => behind_any rk rb g n zs cid q3 u H dS sS tS vS (r4.q hu))
    have hbq : 0 ≤ q3 + behM n H.kind H.len q3 ∧ q3 + behM n H.kind H.len q3 ≤ 140737488355328 := by have h1 := HPL.out; have h2 := r4.small; have h3 := r4.len; have h4 := r4.p0; rw [h3] at h1; omega
    have hq0 := r4.p0
    have hq1 := r4.p1
    have R4 := hid r4
    have B4 := hid b4
    have hwr : IntKind.i64.wrap (q3 + behM n H.kind H.len q3) = q3 + behM n H.kind H.len q3 := by rw [wrap_i64]; omega
    generalize hbm : behM n H.kind H.len q3 = bh at *
    have HBHM := hid hbm
    clear r4 b4 hbm
    go_wp2
    refine wp_region_noPanic ?_
    refine wp_region_held (S := fun w' => Box w' 80 hb H dS sS tS vS) (by kernel_rfl) ?_
    show wpAnyH Try.prog .any _ _ _ 11 _ _ (w4.drewN 1)
    refine wpAnyH_take (i := 0) (fuel := 10) (v := hv H dS sS tS vS) rfl (by kernel_rfl) (by kernel_rfl) (by kernel_rfl) (fun _ _ _ h => h) (.inl ⟨by kernel_rfl, by intro w' hb'; obtain ⟨c0, c1, c2, c3, c4, c5, c6⟩ := hb'.all; simp [execOp, go_sem, c0, c1, c2, c3, c4, c5, c6]⟩) (B4.out.q ((Q.refl w4).drewN 1)) ?_
    refine wpAnyH_take (i := 1) (fuel := 9) (v := .int .i64 p) rfl (by kernel_rfl) (by kernel_rfl) (by kernel_rfl) (fun _ _ _ h => h) (.inl ⟨by kernel_rfl, by intro w' hb'; kernel_rfl⟩) (B4.out.q ((Q.refl w4).drewN 1)) ?_
    refine wpAnyH_take (i := 2) (fuel := 8) (v := .int .i64 q3) rfl (by kernel_rfl) (by kernel_rfl) (by kernel_rfl) (fun _ _ _ h => h) (.inl ⟨by kernel_rfl, by intro w' hb'; kernel_rfl⟩) (B4.out.q ((Q.refl w4).drewN 1)) ?_
    refine wpAnyH_take (i := 3) (fuel := 7) (v := .int .i64 q3) rfl (by kernel_rfl) (by kernel_rfl) (by kernel_rfl) (fun _ _ _ h => h) (.inl ⟨by kernel_rfl, by intro w' hb'; kernel_rfl⟩) (B4.out.q ((Q.refl w4).drewN 1)) ?_
    refine wpAnyH_take (i := 4) (fuel := 6) (v := .pointer (some ⟨rk, 0, none⟩)) rfl (by kernel_rfl) (by kernel_rfl) (by kernel_rfl) (fun _ _ _ h => h) (.inl ⟨by kernel_rfl, by intro w' hb'; kernel_rfl⟩) (B4.out.q ((Q.refl w4).drewN 1)) ?_
    refine wpAnyH_take (i := 5) (fuel := 5) (v := hv H dS sS tS vS) rfl (by kernel_rfl) (by kernel_rfl) (by kernel_rfl) (fun _ _ _ h => h) (.inl ⟨by kernel_rfl, by intro w' hb'; obtain ⟨c0, c1, c2, c3, c4, c5, c6⟩ := hb'.all; simp [execOp, go_sem, c0, c1, c2, c3, c4, c5, c6]⟩) (B4.out.q ((Q.refl w4).drewN 1)) ?_
    refine wpAnyH_all (rs := [6]) (fuel := 4) (by kernel_rfl) (by simp) ?_
    intro i hi
    have hi' := List.mem_singleton.1 hi
    clear hi
    subst hi'
    generalize hA : Act.put _ _ _ = A
    refine wpOp_in rfl (by rw [← hA]; kernel_rfl) (oper_enter (f := 79) (args := #[.pointer (some ⟨rk, 0, none⟩), hv H dS sS tS vS]) (by rw [← hA]; kernel_rfl) (HBH.out _ ((Q.refl w4).drewN 1)) ?_)
    rintro e w5 ⟨rfl, hq⟩
    have q5 : Q w4 w5 := Q.trans ((Q.refl w4).drewN 1) hq
    have b5 := B4.out.q q5
    refine .inl ⟨_, rfl, b5, ?_⟩
    subst hA
    refine wpAnyH_take (i := 7) (fuel := 3) (v := .int .i64 (q3 + bh)) rfl (by kernel_rfl) (by kernel_rfl) (by kernel_rfl) (fun _ _ _ h => h) (.inl ⟨by kernel_rfl, by intro w' hb'; simp [execOp, go_sem, hwr]⟩) b5 ?_
    refine wpAnyH_take (i := 8) (fuel := 2) (v := .agg (pcells H dS sS tS vS p q3 (q3 + bh))) rfl (by kernel_rfl) (by kernel_rfl) (by kernel_rfl) (fun _ _ _ h => h) (.inl ⟨by kernel_rfl, by intro w' hb'; kernel_rfl⟩) b5 ?_
    refine wpAnyH_all (rs := [9]) (fuel := 1) (by kernel_rfl) (by simp) ?_
    intro i hi
    have hi' := List.mem_singleton.1 hi
    clear hi
    subst hi'
    generalize hA : Act.put _ _ _ = A
    have bp5 : PBox w5 w.heap.size zh nilS nilS nilS nilS 0 0 0 := (Below.block q5 _ (lt_of_block BP4.out)).trans BP4.out
    have be5 : w5.heap[w.heap.size + 1]? = some (.cells #[.int .i64 0] 25 (0, 0)) := (Below.block q5 _ (lt_of_block BE4.out)).trans BE4.out
    have k6 : Keep (fun i => i = w.heap.size) w5 (w5.setRow w.heap.size (pcells H dS sS tS vS p q3 (q3 + bh))) := (Keep.refl _ _).setRow _ _ (.inl rfl)
    have bp6 : PBox (w5.setRow w.heap.size (pcells H dS sS tS vS p q3 (q3 + bh))) w.heap.size H dS sS tS vS p q3 (q3 + bh) := setRow_heap _ _ _ _ 97 _ bp5
    have be6 := (k6.block _ (lt_of_block be5) (by omega)).trans be5
    have b6 := b5.keep k6 (by omega)
    refine wpOp_in rfl (by rw [← hA]; kernel_rfl) (wp_store_row 97 _ _ rfl w.heap.size (pcells H dS sS tS vS p q3 (q3 + bh)) (by rw [← hA]; kernel_rfl) (by rw [← hA]; kernel_rfl) 97 _ bp5 (pcells_info _ _ _ _ _ _ _ _) rfl (pcells_one _ _ _ _ _ _ _ _) ⟨b6, ?_⟩)
    generalize w5.setRow w.heap.size (pcells H dS sS tS vS p q3 (q3 + bh)) = w6 at *
    subst hA
    refine wpAnyH_all (rs := [10]) (fuel := 0) (by kernel_rfl) (by simp) ?_
    intro i hi
    have hi' := List.mem_singleton.1 hi
    clear hi
    subst hi'
    generalize hA : Act.put _ _ _ = A
    have ks : Keep (fun i => i = w.heap.size + 1) w6 (w6.setCell ⟨w.heap.size + 1, 0, none⟩ (.int .i64 0)) := (Keep.refl (fun i => i = w.heap.size + 1) w6).setCell _ _ _ (.inl rfl)
    have c6 : w6.cell? ⟨w.heap.size + 1, 0, none⟩ = some (.int .i64 0) := by rw [cell_of_row w6 _ 0 _ 25 (0, 0) be6]; rfl
    refine wpOp_in rfl (by rw [← hA]; kernel_rfl) (wp_store_int _ _ rfl (w.heap.size + 1) 0 0 (by rw [← hA]; kernel_rfl) (by rw [← hA]; kernel_rfl) c6 (frozen_of_row w6 _ 0 _ 25 be6) ⟨b6.keep ks (by omega), ?_⟩)
    subst hA
    refine wpAnyH_done (by kernel_rfl) ?_ _
    refine NoPanic.normal ?_
    have k56 : Keep (fun i => i = w.heap.size ∨ i = w.heap.size + 1) w4 (w6.setCell ⟨w.heap.size + 1, 0, none⟩ (.int .i64 0)) := ((Keep.ofQ q5).trans (k6.mono (fun i _ e => .inl e))).trans (ks.mono (fun i _ e => .inr e))
    have bp7 : PBox (w6.setCell ⟨w.heap.size + 1, 0, none⟩ (.int .i64 0)) w.heap.size H dS sS tS vS p q3 (q3 + bh) := (ks.block _ (lt_of_block bp6) (by omega)).trans bp6
    have c7 : (w6.setCell ⟨w.heap.size + 1, 0, none⟩ (.int .i64 0)).cell? ⟨w.heap.size + 1, 0, none⟩ = some (.int .i64 0) := by have := lt_of_cell c6; simp [go_sem, *]
    generalize w6.setCell ⟨w.heap.size + 1, 0, none⟩ (.int .i64 0) = w7 at *
    have HX := hid (show AnsP w rk rb g n zs cid p (.returned (.tuple #[.agg (pcells H dS sS tS vS p q3 (q3 + bh)), .int .i64 0])) w7 from
      ⟨K4.out.trans' k56 (fun i hi e => by omega), .inl ⟨H, q3, _, HO.out, rfl, ⟨dS, sS, tS, vS, by rw [HBHM.out], (H4.out.keep k56 (fun i e => .inl (by omega))).mono (by omega)⟩, R4.out.keepNew k56 HH.out (fun i e => by omega)⟩⟩)
    have BP7 := hid bp7
    have C7 := hid c7
    clear k6 ks bp5 be5 bp6 be6 b6 c6 k56 bp7 c7 b5 q5 hq
    generalize hA : Act.put _ _ _ = A
    have hD : A.defers = [{ target := Target.fn (Fn.func 76) #[.pointer (some ⟨w.heap.size + 1, 0, none⟩)], args := #[] }] := by rw [← hA]; kernel_rfl
    have h2 : A.tmps.getD 2 undef = .pointer (some ⟨w.heap.size, 0, none⟩) := by rw [← hA]; kernel_rfl
    have h3 : A.tmps.getD 3 undef = .pointer (some ⟨w.heap.size + 1, 0, none⟩) := by rw [← hA]; kernel_rfl
    clear hA
    obtain ⟨tm, df⟩ := A
    dsimp only at hD h2 h3
    subst hD
    go_wp2
    refine leaves_cons (f := 76) (args := #[.pointer (some ⟨w.heap.size + 1, 0, none⟩)]) (by simp) (by simp [go_sem]) ?_
    refine (catch_idle ⟨w.heap.size + 1, 0, none⟩ _).mono ?_
    rintro e u' w'' ⟨rfl, rfl, rfl⟩
    exact ⟨_, results27 _ _ w.heap.size (w.heap.size + 1) H dS sS tS vS p q3 (q3 + bh) 0 h2 h3 BP7.out C7.out, HX.out⟩
end
end Go.Proofs.Ytnnjogfpapndaaa
