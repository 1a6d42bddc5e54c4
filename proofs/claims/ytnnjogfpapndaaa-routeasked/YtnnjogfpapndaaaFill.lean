/-
  What a reading's fill does: a contract that the statements' walks use.
-/
import Derived.Test.YtnnjogfpapndaaaOps
namespace Go.Proofs.Ytnnjogfpapndaaa
open Go.RowKit
set_option linter.unusedVariables false
set_option maxRecDepth 20000

/-- What fill tells: the header in its block has token and length. -/
def AnsL (w : World) (rk rb g n : Nat) (zs : List Int) (cid : Int) (hb : Nat) (h : Hd) (d s v : Sv) (o : Out (List Int × Int)) (e : Ending) (w' : World) : Prop :=
  Keep (fun k => k = rb ∨ k = hb) w w' ∧ ((∃ tl q t, o = .ok tl q ∧ e = .returned (.tuple #[]) ∧ Box w' 80 hb { h with tok := tl.1, len := tl.2 } d s t v ∧ Row w' t tl.1 ∧ New w.heap.size t ∧ Rg w' rk rb g n zs cid q) ∨ (o.stop ∧ e = .panicked o.ends))

section
variable (rk rb g n : Nat) (zs : List Int) (cid p : Int) (w : World) (hb : Nat) (h : Hd) (d s v : Sv)
set_option maxHeartbeats 2000000 in
/-- A Retry. -/
theorem fill_4 (hk4 : h.kind = 4) (hl0 : h.len = 0) (hB : Box w 80 hb h d s nilS v) (hne : hb ≠ rb ∧ hb ≠ rk ∧ hb ≠ g) (hr : Rg w rk rb g n zs cid p) :
    Calls Try.prog 99 #[.pointer (some ⟨rk, 0, none⟩), .pointer (some ⟨hb, 0, none⟩)] w fun e w' => AnsL w rk rb g n zs cid hb h d s v (fillO zs 4 p) e w' := by
  have b0 := hB.c0
  rw [hk4] at b0
  have b4 := hB.c4
  have f4 := hB.free 4
  have c0 := hr.c0
  have HR := hid hr
  have HB := hid hB
  have hp0 := hr.p0
  have hp1 := hr.p1
  have hsm := hr.small
  have HL0 := hid hl0
  have HNE := hid hne
  have HK4 := hid hk4
  clear hr hB hl0 hk4 hne
  go_enter Try.func99, Try.ntmps99
  go_wp2_with fail
  refine (left_any rb _ n n p 0 w (by omega) hp0 hp1 HR.out.rdr).mono ?_
  rw [if_pos rfl]
  rintro e w1 ⟨rfl, k1, rfl⟩
  have Q1 := hid (show Q w (w.drewN k1) from (Q.refl w).drewN k1)
  generalize w.drewN k1 = w1 at *
  have HO := hid (show fillO zs 4 p = if (n : Int) - p < 16 then .bad 12 else (someO zs p ((n : Int) - p - 16)).bind fun tk q => .ok (tk, 0) q from by unfold fillO; rw [if_pos rfl, HR.out.len])
  by_cases h16 : (n : Int) - p < 16
  · have h16' : decide ((n : Int) - p < 16) = true := by simp; omega
    go_wp2_with fail
    refine (refuse_no 12 w1).mono ?_
    rintro e w2 ⟨rfl, rfl⟩
    exact ⟨rfl, Keep.ofQ Q1.out, .inr (by rw [HO.out, if_pos h16]; exact ⟨stop_bad _, rfl⟩)⟩
  · have h16' : decide ((n : Int) - p < 16) = false := by simp; omega
    go_wp2_with fail
    refine (refuse_ok 12 w1).mono ?_
    rintro e w2 ⟨rfl, rfl⟩
    have c0' := (HR.out.q Q1.out).c0
    go_wp2_with fail
    refine (left_any rb _ n n p 0 w1 (by omega) hp0 hp1 (HR.out.q Q1.out).rdr).mono ?_
    rw [if_pos rfl]
    rintro e w2 ⟨rfl, k2, rfl⟩
    have Q2 := hid (show Q w (w1.drewN k2) from Q1.out.drewN k2)
    generalize w1.drewN k2 = w2 at *
    clear c0'
    go_wp2_with fail
    refine (some_at rk rb g n zs cid p w2 ((n : Int) - p - 16) (by omega) (HR.out.q Q2.out)).mono ?_
    rintro e w3 ⟨hk, ⟨l, q, vv, ho, rfl, ⟨⟨ta, tn, tc⟩, rfl, hrow, hnew⟩, hr⟩ | ⟨hs, rfl⟩⟩
    rotate_left
    · have := Out.bind_stop hs (fun tk q => Out.ok (tk, (0 : Int)) q)
      exact ⟨rfl, (Keep.ofQ Q2.out).trans (hk.mono (fun i _ e => .inl e)), .inr (by rw [HO.out, if_neg (by omega)]; exact ⟨this.1, by rw [this.2]⟩)⟩
    have hb3 : Box w3 80 hb h d s nilS v := (HB.out.q Q2.out).keep hk HNE.out.1
    have b4' := hb3.c4
    have f4' := hb3.free 4
    have HX := hid (show AnsL w rk rb g n zs cid hb h d s v (fillO zs 4 p) (.returned (.tuple #[])) (w3.setCell ⟨hb, 4, none⟩ (.slice ta tn tc)) from by
      have hrn : Row w3 ⟨ta, tn, tc⟩ l := hrow
      have ks : Keep (fun k => k = hb) w3 (w3.setCell ⟨hb, 4, none⟩ (.slice ta tn tc)) := (Keep.refl (fun k => k = hb) w3).setCell _ _ _ (.inl rfl)
      have hlt := HB.out.lt
      refine ⟨((Keep.ofQ Q2.out).trans (hk.mono (fun i _ e => .inl e))).trans (ks.mono (fun i _ e => .inr e)), .inl ⟨(l, 0), q, ⟨ta, tn, tc⟩, ?_, rfl, ?_, ?_, ?_, ?_⟩⟩
      · rw [HO.out, if_neg (by omega), ho]; rfl
      · have := hb3.tok_ ⟨ta, tn, tc⟩ l
        obtain ⟨hk_, hv_, hd_, hs_, ht_, hvs_, hl_⟩ := h
        have e := HL0.out
        dsimp only at e
        subst e
        exact this
      · exact hrn.keep ks (fun b hb' e => by have := hnew b hb'; have := Q2.out.size; omega)
      · exact hnew.mono Q2.out.size
      · exact hr.keep ks (fun e => HNE.out.2.1 e.symm) (fun e => HNE.out.1 e.symm) (fun e => HNE.out.2.2 e.symm))
    clear hk ho hrow hnew hr hb3 f4 b4
    go_wp2
    go_end0
    exact HX.out
/-- The left of a reading, quietly. -/
theorem left_q (h : Rg w rk rb g n zs cid p) (k : Nat) : Calls Try.prog 90 #[.pointer (some ⟨rb, 0, none⟩)] (w.drewN k) fun e w' => e = .returned (.int .i64 ((n : Int) - p)) ∧ ∃ m, w' = (w.drewN k).drewN m := by
  refine (left_any rb _ n n p 0 (w.drewN k) h.small h.p0 h.p1 (h.rdr.drewN k)).mono ?_
  rw [if_pos rfl]
  rintro e w' ⟨rfl, m, rfl⟩
  exact ⟨rfl, m, rfl⟩
set_option maxHeartbeats 4000000 in
theorem fill_n (hk1 : h.kind ≠ 1) (hk4 : h.kind ≠ 4) (ht0 : h.tok = []) (hB : Box w 80 hb h d s nilS v) (hne : hb ≠ rb ∧ hb ≠ rk ∧ hb ≠ g) (hr : Rg w rk rb g n zs cid p) :
    Calls Try.prog 99 #[.pointer (some ⟨rk, 0, none⟩), .pointer (some ⟨hb, 0, none⟩)] w fun e w' => AnsL w rk rb g n zs cid hb h d s v (fillO zs h.kind p) e w' := by
  have b0 := hB.c0
  have b4 := hB.c4
  have f4 := hB.free 4
  have c0 := hr.c0
  have HR := hid hr
  have HB := hid hB
  have hsm := hr.small
  have HNE := hid hne
  have HT0 := hid ht0
  have HLT := hid hB.lt
  have k1 : (h.kind == 1) = false := by simp [hk1]
  have k4 : (h.kind == 4) = false := by simp [hk4]
  clear hr hB hne ht0
  have HO := hid (show fillO zs h.kind p = lenO zs h.tok p from by unfold fillO; rw [if_neg hk4, if_neg hk1, HT0.out])
  have K3 := hid (Keep.refl (fun k => k = rb ∨ k = hb) w)
  have T3 := hid (show Row w nilS h.tok from by rw [HT0.out]; exact sub_nil _ _ _)
  have TB_ := hid (show ∀ i, i = rb ∨ i = hb → ∀ b, blk nilS.a = some b → ¬ b = i from fun i hi b hb' => by cases hb')
  clear hk1 hk4
  go_enter Try.func99, Try.ntmps99
  go_wp2_with fail
  refine (number_at rk rb g n zs cid p w HR.out).mono ?_
  rintro e w4 ⟨hk, ⟨l, q4, vv, ho, rfl, rfl, hr⟩ | ⟨hs, rfl⟩⟩
  rotate_left
  · have := Out.bind_stop hs (fun l q => if l = 0 ∨ (zs.length : Int) - q < l then Out.bad 54 else Out.ok (h.tok, l) q)
    exact ⟨rfl, K3.out.trans (hk.mono (fun i _ e => .inl e)), .inr (by rw [HO.out]; exact ⟨this.1, by unfold lenO; rw [this.2]⟩)⟩
  have hpl := numO_pl HR.out.pl_ ho
  have HO4 := hid (show fillO zs h.kind p = if l = 0 ∨ (n : Int) - q4 < l then .bad 54 else .ok (h.tok, l) q4 from by rw [HO.out]; unfold lenO; rw [ho]; show (if l = 0 ∨ (zs.length : Int) - q4 < l then Out.bad 54 else Out.ok (h.tok, l) q4) = _; rw [hr.len])
  have hb4 := HB.out.keep hk HNE.out.1
  have f6 := hb4.free 6
  have g6 := hb4.c6
  have hl0 : 0 ≤ l := hpl.2.2.1
  have hl1 : l ≤ 4611686018427387903 := hpl.2.2.2
  have hq0 : 0 ≤ q4 := hr.p0
  have hq1 : q4 ≤ n := hr.p1
  have ks : Keep (fun k => k = hb) w4 (w4.setCell ⟨hb, 6, none⟩ (.int .i64 l)) := (Keep.refl (fun k => k = hb) w4).setCell _ _ _ (.inl rfl)
  have R5 := hid (hr.keep ks (fun e => HNE.out.2.1 e.symm) (fun e => HNE.out.1 e.symm) (fun e => HNE.out.2.2 e.symm))
  have B5 := hid (hb4.len_ l)
  have K5 := hid ((K3.out.trans (hk.mono (fun i _ e => .inl e))).trans (ks.mono (fun i _ e => .inr e)))
  have T5 := hid (show Row (w4.setCell ⟨hb, 6, none⟩ (.int .i64 l)) nilS h.tok from (T3.out.keep hk (TB_.out rb (Or.inl rfl))).keep ks (TB_.out hb (Or.inr rfl)))
  clear hk ho hr hpl hb4 ks
  go_wp2
  generalize w4.setCell ⟨hb, 6, none⟩ (.int .i64 l) = w5 at *
  have e6 := B5.out.c6
  dsimp only at e6
  have e0 := R5.out.c0
  have HLF := hid (fun k => left_q rk rb g n zs cid q4 w5 R5.out k)
  by_cases z : l = 0
  · have HX := hid (show ∀ k, AnsL w rk rb g n zs cid hb h d s v (fillO zs h.kind p) (.panicked [refP 54]) (w5.drewN k) from fun k => ⟨K5.out.drewN k, .inr (by rw [HO4.out, if_pos (.inl z)]; exact ⟨stop_bad _, rfl⟩)⟩)
    subst z
    refine wp_region_held (S := fun w' => ∃ k, w' = w5.drewN k) (by kernel_rfl) ?_
    show wpAnyH Try.prog .any _ _ _ 18 _ _ (w5.drewN 1)
    refine wpAnyH_take (i := 0) (fuel := 17) (v := .pointer (some ⟨hb, 0, none⟩)) rfl (by kernel_rfl) (by kernel_rfl) (by kernel_rfl) (fun _ _ _ h => h) (.inl ⟨by kernel_rfl, by rintro w' ⟨k', rfl⟩; kernel_rfl⟩) ⟨_, rfl⟩ ?_
    refine wpAnyH_take (i := 1) (fuel := 16) (v := .pointer (some ⟨hb, 0, none⟩)) rfl (by kernel_rfl) (by kernel_rfl) (by kernel_rfl) (fun _ _ _ h => h) (.inl ⟨by kernel_rfl, by rintro w' ⟨k', rfl⟩; kernel_rfl⟩) ⟨_, rfl⟩ ?_
    refine wpAnyH_take (i := 2) (fuel := 15) (v := .pointer (some ⟨hb, 6, none⟩)) rfl (by kernel_rfl) (by kernel_rfl) (by kernel_rfl) (fun _ _ _ h => h) (.inl ⟨by kernel_rfl, by rintro w' ⟨k', rfl⟩; kernel_rfl⟩) ⟨_, rfl⟩ ?_
    refine wpAnyH_take (i := 3) (fuel := 14) (v := .int .i64 0) rfl (by kernel_rfl) (by kernel_rfl) (by kernel_rfl) (fun _ _ _ h => h) (.inl ⟨by kernel_rfl, by rintro w' ⟨k', rfl⟩; (have e6' : (w5.drewN k').cell? ⟨hb, 6, none⟩ = some (.int .i64 0) := e6; simp [execOp, go_sem, e6'])⟩) ⟨_, rfl⟩ ?_
    refine wpAnyH_take (i := 4) (fuel := 13) (v := .bool true) rfl (by kernel_rfl) (by kernel_rfl) (by kernel_rfl) (fun _ _ _ h => h) (.inl ⟨by kernel_rfl, by rintro w' ⟨k', rfl⟩; (simp [execOp, go_sem])⟩) ⟨_, rfl⟩ ?_
    refine wpAnyH_take (i := 5) (fuel := 12) (v := .bool true) rfl (by kernel_rfl) (by kernel_rfl) (by kernel_rfl) (fun _ _ _ h => h) (.inl ⟨by kernel_rfl, by rintro w' ⟨k', rfl⟩; kernel_rfl⟩) ⟨_, rfl⟩ ?_
    refine wpAnyH_take (i := 6) (fuel := 11) (v := undef) rfl (by kernel_rfl) (by kernel_rfl) (by kernel_rfl) (fun _ _ _ h => h) (.inr ⟨by kernel_rfl, rfl⟩) ⟨_, rfl⟩ ?_
    refine wpAnyH_take (i := 7) (fuel := 10) (v := undef) rfl (by kernel_rfl) (by kernel_rfl) (by kernel_rfl) (fun _ _ _ h => h) (.inr ⟨by kernel_rfl, rfl⟩) ⟨_, rfl⟩ ?_
    refine wpAnyH_take (i := 8) (fuel := 9) (v := undef) rfl (by kernel_rfl) (by kernel_rfl) (by kernel_rfl) (fun _ _ _ h => h) (.inr ⟨by kernel_rfl, rfl⟩) ⟨_, rfl⟩ ?_
    refine wpAnyH_take (i := 9) (fuel := 8) (v := undef) rfl (by kernel_rfl) (by kernel_rfl) (by kernel_rfl) (fun _ _ _ h => h) (.inr ⟨by kernel_rfl, rfl⟩) ⟨_, rfl⟩ ?_
    refine wpAnyH_take (i := 10) (fuel := 7) (v := undef) rfl (by kernel_rfl) (by kernel_rfl) (by kernel_rfl) (fun _ _ _ h => h) (.inr ⟨by kernel_rfl, rfl⟩) ⟨_, rfl⟩ ?_
    refine wpAnyH_take (i := 11) (fuel := 6) (v := undef) rfl (by kernel_rfl) (by kernel_rfl) (by kernel_rfl) (fun _ _ _ h => h) (.inr ⟨by kernel_rfl, rfl⟩) ⟨_, rfl⟩ ?_
    refine wpAnyH_take (i := 12) (fuel := 5) (v := undef) rfl (by kernel_rfl) (by kernel_rfl) (by kernel_rfl) (fun _ _ _ h => h) (.inr ⟨by kernel_rfl, rfl⟩) ⟨_, rfl⟩ ?_
    refine wpAnyH_take (i := 13) (fuel := 4) (v := undef) rfl (by kernel_rfl) (by kernel_rfl) (by kernel_rfl) (fun _ _ _ h => h) (.inr ⟨by kernel_rfl, rfl⟩) ⟨_, rfl⟩ ?_
    refine wpAnyH_take (i := 14) (fuel := 3) (v := undef) rfl (by kernel_rfl) (by kernel_rfl) (by kernel_rfl) (fun _ _ _ h => h) (.inr ⟨by kernel_rfl, rfl⟩) ⟨_, rfl⟩ ?_
    refine wpAnyH_take (i := 15) (fuel := 2) (v := undef) rfl (by kernel_rfl) (by kernel_rfl) (by kernel_rfl) (fun _ _ _ h => h) (.inr ⟨by kernel_rfl, rfl⟩) ⟨_, rfl⟩ ?_
    refine wpAnyH_take (i := 16) (fuel := 1) (v := .bool true) rfl (by kernel_rfl) (by kernel_rfl) (by kernel_rfl) (fun _ _ _ h => h) (.inl ⟨by kernel_rfl, by rintro w' ⟨k', rfl⟩; kernel_rfl⟩) ⟨_, rfl⟩ ?_
    refine wpAnyH_all (rs := [17]) (fuel := 0) (by kernel_rfl) (by simp) ?_
    intro i hi
    have hi' := List.mem_singleton.1 hi
    clear hi
    subst hi'
    generalize hA : Act.put _ _ _ = A
    have hD : A.defers = [] := by rw [← hA]; kernel_rfl
    refine wpOp_in rfl (by rw [← hA]; kernel_rfl) (oper_enter (f := 86) (args := #[.bool true, .int .i64 54]) (by rw [← hA]; kernel_rfl) (refuse_no 54 _) ?_)
    rintro e w' ⟨rfl, rfl⟩
    exact .inr ⟨_, rfl, hD, HX.out _⟩
  have z' : (l == 0) = false := by simp [z]
  by_cases y : (n : Int) - q4 < l
  · have HX := hid (show ∀ k, AnsL w rk rb g n zs cid hb h d s v (fillO zs h.kind p) (.panicked [refP 54]) (w5.drewN k) from fun k => ⟨K5.out.drewN k, .inr (by rw [HO4.out, if_pos (.inr y)]; exact ⟨stop_bad _, rfl⟩)⟩)
    have y' : decide ((n : Int) - q4 < l) = true := by simp; omega
    clear y
    refine wp_region_held (S := fun w' => ∃ k, w' = w5.drewN k) (by kernel_rfl) ?_
    show wpAnyH Try.prog .any _ _ _ 18 _ _ (w5.drewN 1)
    refine wpAnyH_take (i := 0) (fuel := 17) (v := .pointer (some ⟨hb, 0, none⟩)) rfl (by kernel_rfl) (by kernel_rfl) (by kernel_rfl) (fun _ _ _ h => h) (.inl ⟨by kernel_rfl, by rintro w' ⟨k', rfl⟩; kernel_rfl⟩) ⟨_, rfl⟩ ?_
    refine wpAnyH_take (i := 1) (fuel := 16) (v := .pointer (some ⟨hb, 0, none⟩)) rfl (by kernel_rfl) (by kernel_rfl) (by kernel_rfl) (fun _ _ _ h => h) (.inl ⟨by kernel_rfl, by rintro w' ⟨k', rfl⟩; kernel_rfl⟩) ⟨_, rfl⟩ ?_
    refine wpAnyH_take (i := 2) (fuel := 15) (v := .pointer (some ⟨hb, 6, none⟩)) rfl (by kernel_rfl) (by kernel_rfl) (by kernel_rfl) (fun _ _ _ h => h) (.inl ⟨by kernel_rfl, by rintro w' ⟨k', rfl⟩; kernel_rfl⟩) ⟨_, rfl⟩ ?_
    refine wpAnyH_take (i := 3) (fuel := 14) (v := .int .i64 l) rfl (by kernel_rfl) (by kernel_rfl) (by kernel_rfl) (fun _ _ _ h => h) (.inl ⟨by kernel_rfl, by rintro w' ⟨k', rfl⟩; (have e6' : (w5.drewN k').cell? ⟨hb, 6, none⟩ = some (.int .i64 l) := e6; simp [execOp, go_sem, e6'])⟩) ⟨_, rfl⟩ ?_
    refine wpAnyH_take (i := 4) (fuel := 13) (v := .bool false) rfl (by kernel_rfl) (by kernel_rfl) (by kernel_rfl) (fun _ _ _ h => h) (.inl ⟨by kernel_rfl, by rintro w' ⟨k', rfl⟩; (simp [execOp, go_sem, z'])⟩) ⟨_, rfl⟩ ?_
    refine wpAnyH_take (i := 5) (fuel := 12) (v := .bool false) rfl (by kernel_rfl) (by kernel_rfl) (by kernel_rfl) (fun _ _ _ h => h) (.inl ⟨by kernel_rfl, by rintro w' ⟨k', rfl⟩; kernel_rfl⟩) ⟨_, rfl⟩ ?_
    refine wpAnyH_take (i := 6) (fuel := 11) (v := .pointer (some ⟨hb, 0, none⟩)) rfl (by kernel_rfl) (by kernel_rfl) (by kernel_rfl) (fun _ _ _ h => h) (.inl ⟨by kernel_rfl, by rintro w' ⟨k', rfl⟩; kernel_rfl⟩) ⟨_, rfl⟩ ?_
    refine wpAnyH_take (i := 7) (fuel := 10) (v := .pointer (some ⟨hb, 0, none⟩)) rfl (by kernel_rfl) (by kernel_rfl) (by kernel_rfl) (fun _ _ _ h => h) (.inl ⟨by kernel_rfl, by rintro w' ⟨k', rfl⟩; kernel_rfl⟩) ⟨_, rfl⟩ ?_
    refine wpAnyH_take (i := 8) (fuel := 9) (v := .pointer (some ⟨hb, 6, none⟩)) rfl (by kernel_rfl) (by kernel_rfl) (by kernel_rfl) (fun _ _ _ h => h) (.inl ⟨by kernel_rfl, by rintro w' ⟨k', rfl⟩; kernel_rfl⟩) ⟨_, rfl⟩ ?_
    refine wpAnyH_take (i := 9) (fuel := 8) (v := .int .i64 l) rfl (by kernel_rfl) (by kernel_rfl) (by kernel_rfl) (fun _ _ _ h => h) (.inl ⟨by kernel_rfl, by rintro w' ⟨k', rfl⟩; (have e6' : (w5.drewN k').cell? ⟨hb, 6, none⟩ = some (.int .i64 l) := e6; simp [execOp, go_sem, e6'])⟩) ⟨_, rfl⟩ ?_
    refine wpAnyH_take (i := 10) (fuel := 7) (v := .pointer (some ⟨rk, 0, none⟩)) rfl (by kernel_rfl) (by kernel_rfl) (by kernel_rfl) (fun _ _ _ h => h) (.inl ⟨by kernel_rfl, by rintro w' ⟨k', rfl⟩; kernel_rfl⟩) ⟨_, rfl⟩ ?_
    refine wpAnyH_take (i := 11) (fuel := 6) (v := .pointer (some ⟨rk, 0, none⟩)) rfl (by kernel_rfl) (by kernel_rfl) (by kernel_rfl) (fun _ _ _ h => h) (.inl ⟨by kernel_rfl, by rintro w' ⟨k', rfl⟩; kernel_rfl⟩) ⟨_, rfl⟩ ?_
    refine wpAnyH_take (i := 12) (fuel := 5) (v := .pointer (some ⟨rk, 0, none⟩)) rfl (by kernel_rfl) (by kernel_rfl) (by kernel_rfl) (fun _ _ _ h => h) (.inl ⟨by kernel_rfl, by rintro w' ⟨k', rfl⟩; kernel_rfl⟩) ⟨_, rfl⟩ ?_
    refine wpAnyH_take (i := 13) (fuel := 4) (v := .pointer (some ⟨rb, 0, none⟩)) rfl (by kernel_rfl) (by kernel_rfl) (by kernel_rfl) (fun _ _ _ h => h) (.inl ⟨by kernel_rfl, by rintro w' ⟨k', rfl⟩; (have e0' : (w5.drewN k').cell? ⟨rk, 0, none⟩ = some (.pointer (some ⟨rb, 0, none⟩)) := e0; simp [execOp, go_sem, e0'])⟩) ⟨_, rfl⟩ ?_
    refine wpAnyH_all (rs := [14]) (fuel := 3) (by kernel_rfl) (by simp) ?_
    intro i hi
    have hi' := List.mem_singleton.1 hi
    clear hi
    subst hi'
    generalize hA : Act.put _ _ _ = A
    refine wpOp_in rfl (by rw [← hA]; kernel_rfl) (oper_enter (f := 90) (args := #[.pointer (some ⟨rb, 0, none⟩)]) (by rw [← hA]; kernel_rfl) (HLF.out 1) ?_)
    rintro e w' ⟨rfl, k2, hw2⟩
    rw [World.drewN_drewN] at hw2
    subst hw2
    refine .inl ⟨_, rfl, ⟨1 + k2, rfl⟩, ?_⟩
    subst hA
    refine wpAnyH_take (i := 15) (fuel := 2) (v := .bool true) rfl (by kernel_rfl) (by kernel_rfl) (by kernel_rfl) (fun _ _ _ h => h) (.inl ⟨by kernel_rfl, by rintro w' ⟨k', rfl⟩; (simp [execOp, go_sem, y'])⟩) ⟨_, rfl⟩ ?_
    refine wpAnyH_take (i := 16) (fuel := 1) (v := .bool true) rfl (by kernel_rfl) (by kernel_rfl) (by kernel_rfl) (fun _ _ _ h => h) (.inl ⟨by kernel_rfl, by rintro w' ⟨k', rfl⟩; kernel_rfl⟩) ⟨_, rfl⟩ ?_
    refine wpAnyH_all (rs := [17]) (fuel := 0) (by kernel_rfl) (by simp) ?_
    intro i hi
    have hi' := List.mem_singleton.1 hi
    clear hi
    subst hi'
    generalize hA : Act.put _ _ _ = A
    have hD : A.defers = [] := by rw [← hA]; kernel_rfl
    refine wpOp_in rfl (by rw [← hA]; kernel_rfl) (oper_enter (f := 86) (args := #[.bool true, .int .i64 54]) (by rw [← hA]; kernel_rfl) (refuse_no 54 _) ?_)
    rintro e w' ⟨rfl, rfl⟩
    exact .inr ⟨_, rfl, hD, HX.out _⟩
  have y' : decide ((n : Int) - q4 < l) = false := by simp; omega
  have HX := hid (show ∀ k, AnsL w rk rb g n zs cid hb h d s v (fillO zs h.kind p) (.returned (.tuple #[])) (w5.drewN k) from by
    intro k
    have qk : Q w5 (w5.drewN k) := (Q.refl w5).drewN k
    refine ⟨K5.out.drewN k, .inl ⟨(h.tok, l), q4, nilS, ?_, rfl, ?_, T5.out.q qk, (new_nil _), R5.out.q qk⟩⟩
    · rw [HO4.out, if_neg (by omega)]
    · exact (B5.out.q qk))
  clear z y
  go_quiet (first | (go_at_call 90; exact Calls.quiet_of (HLF.out _)) | (go_at_call 86; exact Calls.quiet_of_same ((refuse_ok 54 _).mono (by rintro e w' ⟨rfl, rfl⟩; exact ⟨rfl, rfl⟩))))
  go_wp2
  go_end0
  exact HX.out _
set_option maxHeartbeats 4000000 in
theorem fill_1 (hk1 : h.kind = 1) (ht0 : h.tok = []) (hB : Box w 80 hb h d s nilS v) (hne : hb ≠ rb ∧ hb ≠ rk ∧ hb ≠ g) (hr : Rg w rk rb g n zs cid p) :
    Calls Try.prog 99 #[.pointer (some ⟨rk, 0, none⟩), .pointer (some ⟨hb, 0, none⟩)] w fun e w' => AnsL w rk rb g n zs cid hb h d s v (fillO zs 1 p) e w' := by
  have b0 := hB.c0
  have b4 := hB.c4
  have f4 := hB.free 4
  have c0 := hr.c0
  have HR := hid hr
  have HB := hid hB
  have hsm := hr.small
  have HNE := hid hne
  have HT0 := hid ht0
  have HLT := hid hB.lt
  rw [hk1] at b0
  clear hr hB hne ht0
  have HO0 := hid (show fillO zs 1 p = (numO zs p).bind fun m q => (someO zs q m).bind fun tk q2 => lenO zs tk q2 from by unfold fillO; rw [if_neg (by omega), if_pos rfl])
  go_enter Try.func99, Try.ntmps99
  go_wp2_with fail
  refine (number_at rk rb g n zs cid p w HR.out).mono ?_
  rintro e w1 ⟨hk, ⟨m, q1, vv, ho, rfl, rfl, hr⟩ | ⟨hs, rfl⟩⟩
  rotate_left
  · have := Out.bind_stop hs (fun m q => (someO zs q m).bind fun tk q2 => lenO zs tk q2)
    exact ⟨rfl, hk.mono (fun i _ e => .inl e), .inr (by rw [HO0.out]; exact ⟨this.1, by rw [this.2]⟩)⟩
  have hpl := numO_pl HR.out.pl_ ho
  have HO1 := hid (show fillO zs 1 p = (someO zs q1 m).bind fun tk q2 => lenO zs tk q2 from by rw [HO0.out, ho]; rfl)
  have hm0 : 0 ≤ m := hpl.2.2.1
  have R1 := hid hr
  have B1 := hid (HB.out.keep hk HNE.out.1)
  have K1 := hid hk
  clear hk hr ho hpl HO0
  go_wp2_with fail
  refine (some_at rk rb g n zs cid q1 w1 m hm0 R1.out).mono ?_
  rintro e w2 ⟨hk, ⟨tk, q2, vv, ho, rfl, ⟨⟨ta, tn, tc⟩, rfl, hrow, hnew⟩, hr⟩ | ⟨hs, rfl⟩⟩
  rotate_left
  · have := Out.bind_stop hs (fun tk q2 => lenO zs tk q2)
    exact ⟨rfl, (K1.out.trans hk).mono (fun i _ e => .inl e), .inr (by rw [HO1.out]; exact ⟨this.1, by rw [this.2]⟩)⟩
  have HO := hid (show fillO zs 1 p = lenO zs tk q2 from by rw [HO1.out, ho]; rfl)
  have hb2 := B1.out.keep hk HNE.out.1
  have b4' := hb2.c4
  have f4' := hb2.free 4
  have c0' := hr.c0
  have hs1 := K1.out.size
  have ks : Keep (fun k => k = hb) w2 (w2.setCell ⟨hb, 4, none⟩ (.slice ta tn tc)) := (Keep.refl (fun k => k = hb) w2).setCell _ _ _ (.inl rfl)
  have R3 := hid (hr.keep ks (fun e => HNE.out.2.1 e.symm) (fun e => HNE.out.1 e.symm) (fun e => HNE.out.2.2 e.symm))
  have B3 := hid (hb2.tok_ ⟨ta, tn, tc⟩ tk)
  have hnew' : New w.heap.size ⟨ta, tn, tc⟩ := hnew.mono hs1
  have TN := hid hnew'
  have TB_ := hid (show ∀ i, i = rb ∨ i = hb → ∀ b, blk ta = some b → ¬ b = i from fun i hi b hb' e => by have h1 := hnew' b hb'; have h2 := HR.out.rdr.lt; have h3 := HB.out.lt; rcases hi with rfl | rfl <;> omega)
  have T3 := hid (show Row (w2.setCell ⟨hb, 4, none⟩ (.slice ta tn tc)) ⟨ta, tn, tc⟩ tk from hrow.keep ks (TB_.out hb (Or.inr rfl)))
  have K3 := hid (show Keep (fun k => k = rb ∨ k = hb) w (w2.setCell ⟨hb, 4, none⟩ (.slice ta tn tc)) from ((K1.out.trans hk).mono (fun i _ e => .inl e)).trans (ks.mono (fun i _ e => .inr e)))
  clear hk ho hrow hnew hnew' hr hb2 ks b4 f4 HO1 R1 B1 K1 hs1
  go_wp2_with fail
  generalize w2.setCell ⟨hb, 4, none⟩ (.slice ta tn tc) = w3 at *
  refine (number_at rk rb g n zs cid q2 w3 R3.out).mono ?_
  rintro e w4 ⟨hk, ⟨l, q4, vv, ho, rfl, rfl, hr⟩ | ⟨hs, rfl⟩⟩
  rotate_left
  · have := Out.bind_stop hs (fun l q => if l = 0 ∨ (zs.length : Int) - q < l then Out.bad 54 else Out.ok (tk, l) q)
    exact ⟨rfl, K3.out.trans (hk.mono (fun i _ e => .inl e)), .inr (by rw [HO.out]; exact ⟨this.1, by unfold lenO; rw [this.2]⟩)⟩
  have hpl := numO_pl R3.out.pl_ ho
  have HO4 := hid (show fillO zs 1 p = if l = 0 ∨ (n : Int) - q4 < l then .bad 54 else .ok (tk, l) q4 from by rw [HO.out]; unfold lenO; rw [ho]; show (if l = 0 ∨ (zs.length : Int) - q4 < l then Out.bad 54 else Out.ok (tk, l) q4) = _; rw [hr.len])
  have hb4 := B3.out.keep hk HNE.out.1
  have f6 := hb4.free 6
  have g6 := hb4.c6
  have hl0 : 0 ≤ l := hpl.2.2.1
  have hl1 : l ≤ 4611686018427387903 := hpl.2.2.2
  have hq0 : 0 ≤ q4 := hr.p0
  have hq1 : q4 ≤ n := hr.p1
  have ks : Keep (fun k => k = hb) w4 (w4.setCell ⟨hb, 6, none⟩ (.int .i64 l)) := (Keep.refl (fun k => k = hb) w4).setCell _ _ _ (.inl rfl)
  have R5 := hid (hr.keep ks (fun e => HNE.out.2.1 e.symm) (fun e => HNE.out.1 e.symm) (fun e => HNE.out.2.2 e.symm))
  have B5 := hid (hb4.len_ l)
  have K5 := hid ((K3.out.trans (hk.mono (fun i _ e => .inl e))).trans (ks.mono (fun i _ e => .inr e)))
  have T5 := hid (show Row (w4.setCell ⟨hb, 6, none⟩ (.int .i64 l)) ⟨ta, tn, tc⟩ tk from (T3.out.keep hk (TB_.out rb (Or.inl rfl))).keep ks (TB_.out hb (Or.inr rfl)))
  clear hk ho hr hpl hb4 ks
  go_wp2
  generalize w4.setCell ⟨hb, 6, none⟩ (.int .i64 l) = w5 at *
  have e6 := B5.out.c6
  dsimp only at e6
  have e0 := R5.out.c0
  have HLF := hid (fun k => left_q rk rb g n zs cid q4 w5 R5.out k)
  by_cases z : l = 0
  · have HX := hid (show ∀ k, AnsL w rk rb g n zs cid hb h d s v (fillO zs 1 p) (.panicked [refP 54]) (w5.drewN k) from fun k => ⟨K5.out.drewN k, .inr (by rw [HO4.out, if_pos (.inl z)]; exact ⟨stop_bad _, rfl⟩)⟩)
    subst z
    refine wp_region_held (S := fun w' => ∃ k, w' = w5.drewN k) (by kernel_rfl) ?_
    show wpAnyH Try.prog .any _ _ _ 18 _ _ (w5.drewN 1)
    refine wpAnyH_take (i := 0) (fuel := 17) (v := .pointer (some ⟨hb, 0, none⟩)) rfl (by kernel_rfl) (by kernel_rfl) (by kernel_rfl) (fun _ _ _ h => h) (.inl ⟨by kernel_rfl, by rintro w' ⟨k', rfl⟩; kernel_rfl⟩) ⟨_, rfl⟩ ?_
    refine wpAnyH_take (i := 1) (fuel := 16) (v := .pointer (some ⟨hb, 0, none⟩)) rfl (by kernel_rfl) (by kernel_rfl) (by kernel_rfl) (fun _ _ _ h => h) (.inl ⟨by kernel_rfl, by rintro w' ⟨k', rfl⟩; kernel_rfl⟩) ⟨_, rfl⟩ ?_
    refine wpAnyH_take (i := 2) (fuel := 15) (v := .pointer (some ⟨hb, 6, none⟩)) rfl (by kernel_rfl) (by kernel_rfl) (by kernel_rfl) (fun _ _ _ h => h) (.inl ⟨by kernel_rfl, by rintro w' ⟨k', rfl⟩; kernel_rfl⟩) ⟨_, rfl⟩ ?_
    refine wpAnyH_take (i := 3) (fuel := 14) (v := .int .i64 0) rfl (by kernel_rfl) (by kernel_rfl) (by kernel_rfl) (fun _ _ _ h => h) (.inl ⟨by kernel_rfl, by rintro w' ⟨k', rfl⟩; (have e6' : (w5.drewN k').cell? ⟨hb, 6, none⟩ = some (.int .i64 0) := e6; simp [execOp, go_sem, e6'])⟩) ⟨_, rfl⟩ ?_
    refine wpAnyH_take (i := 4) (fuel := 13) (v := .bool true) rfl (by kernel_rfl) (by kernel_rfl) (by kernel_rfl) (fun _ _ _ h => h) (.inl ⟨by kernel_rfl, by rintro w' ⟨k', rfl⟩; (simp [execOp, go_sem])⟩) ⟨_, rfl⟩ ?_
    refine wpAnyH_take (i := 5) (fuel := 12) (v := .bool true) rfl (by kernel_rfl) (by kernel_rfl) (by kernel_rfl) (fun _ _ _ h => h) (.inl ⟨by kernel_rfl, by rintro w' ⟨k', rfl⟩; kernel_rfl⟩) ⟨_, rfl⟩ ?_
    refine wpAnyH_take (i := 6) (fuel := 11) (v := undef) rfl (by kernel_rfl) (by kernel_rfl) (by kernel_rfl) (fun _ _ _ h => h) (.inr ⟨by kernel_rfl, rfl⟩) ⟨_, rfl⟩ ?_
    refine wpAnyH_take (i := 7) (fuel := 10) (v := undef) rfl (by kernel_rfl) (by kernel_rfl) (by kernel_rfl) (fun _ _ _ h => h) (.inr ⟨by kernel_rfl, rfl⟩) ⟨_, rfl⟩ ?_
    refine wpAnyH_take (i := 8) (fuel := 9) (v := undef) rfl (by kernel_rfl) (by kernel_rfl) (by kernel_rfl) (fun _ _ _ h => h) (.inr ⟨by kernel_rfl, rfl⟩) ⟨_, rfl⟩ ?_
    refine wpAnyH_take (i := 9) (fuel := 8) (v := undef) rfl (by kernel_rfl) (by kernel_rfl) (by kernel_rfl) (fun _ _ _ h => h) (.inr ⟨by kernel_rfl, rfl⟩) ⟨_, rfl⟩ ?_
    refine wpAnyH_take (i := 10) (fuel := 7) (v := undef) rfl (by kernel_rfl) (by kernel_rfl) (by kernel_rfl) (fun _ _ _ h => h) (.inr ⟨by kernel_rfl, rfl⟩) ⟨_, rfl⟩ ?_
    refine wpAnyH_take (i := 11) (fuel := 6) (v := undef) rfl (by kernel_rfl) (by kernel_rfl) (by kernel_rfl) (fun _ _ _ h => h) (.inr ⟨by kernel_rfl, rfl⟩) ⟨_, rfl⟩ ?_
    refine wpAnyH_take (i := 12) (fuel := 5) (v := undef) rfl (by kernel_rfl) (by kernel_rfl) (by kernel_rfl) (fun _ _ _ h => h) (.inr ⟨by kernel_rfl, rfl⟩) ⟨_, rfl⟩ ?_
    refine wpAnyH_take (i := 13) (fuel := 4) (v := undef) rfl (by kernel_rfl) (by kernel_rfl) (by kernel_rfl) (fun _ _ _ h => h) (.inr ⟨by kernel_rfl, rfl⟩) ⟨_, rfl⟩ ?_
    refine wpAnyH_take (i := 14) (fuel := 3) (v := undef) rfl (by kernel_rfl) (by kernel_rfl) (by kernel_rfl) (fun _ _ _ h => h) (.inr ⟨by kernel_rfl, rfl⟩) ⟨_, rfl⟩ ?_
    refine wpAnyH_take (i := 15) (fuel := 2) (v := undef) rfl (by kernel_rfl) (by kernel_rfl) (by kernel_rfl) (fun _ _ _ h => h) (.inr ⟨by kernel_rfl, rfl⟩) ⟨_, rfl⟩ ?_
    refine wpAnyH_take (i := 16) (fuel := 1) (v := .bool true) rfl (by kernel_rfl) (by kernel_rfl) (by kernel_rfl) (fun _ _ _ h => h) (.inl ⟨by kernel_rfl, by rintro w' ⟨k', rfl⟩; kernel_rfl⟩) ⟨_, rfl⟩ ?_
    refine wpAnyH_all (rs := [17]) (fuel := 0) (by kernel_rfl) (by simp) ?_
    intro i hi
    have hi' := List.mem_singleton.1 hi
    clear hi
    subst hi'
    generalize hA : Act.put _ _ _ = A
    have hD : A.defers = [] := by rw [← hA]; kernel_rfl
    refine wpOp_in rfl (by rw [← hA]; kernel_rfl) (oper_enter (f := 86) (args := #[.bool true, .int .i64 54]) (by rw [← hA]; kernel_rfl) (refuse_no 54 _) ?_)
    rintro e w' ⟨rfl, rfl⟩
    exact .inr ⟨_, rfl, hD, HX.out _⟩
  have z' : (l == 0) = false := by simp [z]
  by_cases y : (n : Int) - q4 < l
  · have HX := hid (show ∀ k, AnsL w rk rb g n zs cid hb h d s v (fillO zs 1 p) (.panicked [refP 54]) (w5.drewN k) from fun k => ⟨K5.out.drewN k, .inr (by rw [HO4.out, if_pos (.inr y)]; exact ⟨stop_bad _, rfl⟩)⟩)
    have y' : decide ((n : Int) - q4 < l) = true := by simp; omega
    clear y
    refine wp_region_held (S := fun w' => ∃ k, w' = w5.drewN k) (by kernel_rfl) ?_
    show wpAnyH Try.prog .any _ _ _ 18 _ _ (w5.drewN 1)
    refine wpAnyH_take (i := 0) (fuel := 17) (v := .pointer (some ⟨hb, 0, none⟩)) rfl (by kernel_rfl) (by kernel_rfl) (by kernel_rfl) (fun _ _ _ h => h) (.inl ⟨by kernel_rfl, by rintro w' ⟨k', rfl⟩; kernel_rfl⟩) ⟨_, rfl⟩ ?_
    refine wpAnyH_take (i := 1) (fuel := 16) (v := .pointer (some ⟨hb, 0, none⟩)) rfl (by kernel_rfl) (by kernel_rfl) (by kernel_rfl) (fun _ _ _ h => h) (.inl ⟨by kernel_rfl, by rintro w' ⟨k', rfl⟩; kernel_rfl⟩) ⟨_, rfl⟩ ?_
    refine wpAnyH_take (i := 2) (fuel := 15) (v := .pointer (some ⟨hb, 6, none⟩)) rfl (by kernel_rfl) (by kernel_rfl) (by kernel_rfl) (fun _ _ _ h => h) (.inl ⟨by kernel_rfl, by rintro w' ⟨k', rfl⟩; kernel_rfl⟩) ⟨_, rfl⟩ ?_
    refine wpAnyH_take (i := 3) (fuel := 14) (v := .int .i64 l) rfl (by kernel_rfl) (by kernel_rfl) (by kernel_rfl) (fun _ _ _ h => h) (.inl ⟨by kernel_rfl, by rintro w' ⟨k', rfl⟩; (have e6' : (w5.drewN k').cell? ⟨hb, 6, none⟩ = some (.int .i64 l) := e6; simp [execOp, go_sem, e6'])⟩) ⟨_, rfl⟩ ?_
    refine wpAnyH_take (i := 4) (fuel := 13) (v := .bool false) rfl (by kernel_rfl) (by kernel_rfl) (by kernel_rfl) (fun _ _ _ h => h) (.inl ⟨by kernel_rfl, by rintro w' ⟨k', rfl⟩; (simp [execOp, go_sem, z'])⟩) ⟨_, rfl⟩ ?_
    refine wpAnyH_take (i := 5) (fuel := 12) (v := .bool false) rfl (by kernel_rfl) (by kernel_rfl) (by kernel_rfl) (fun _ _ _ h => h) (.inl ⟨by kernel_rfl, by rintro w' ⟨k', rfl⟩; kernel_rfl⟩) ⟨_, rfl⟩ ?_
    refine wpAnyH_take (i := 6) (fuel := 11) (v := .pointer (some ⟨hb, 0, none⟩)) rfl (by kernel_rfl) (by kernel_rfl) (by kernel_rfl) (fun _ _ _ h => h) (.inl ⟨by kernel_rfl, by rintro w' ⟨k', rfl⟩; kernel_rfl⟩) ⟨_, rfl⟩ ?_
    refine wpAnyH_take (i := 7) (fuel := 10) (v := .pointer (some ⟨hb, 0, none⟩)) rfl (by kernel_rfl) (by kernel_rfl) (by kernel_rfl) (fun _ _ _ h => h) (.inl ⟨by kernel_rfl, by rintro w' ⟨k', rfl⟩; kernel_rfl⟩) ⟨_, rfl⟩ ?_
    refine wpAnyH_take (i := 8) (fuel := 9) (v := .pointer (some ⟨hb, 6, none⟩)) rfl (by kernel_rfl) (by kernel_rfl) (by kernel_rfl) (fun _ _ _ h => h) (.inl ⟨by kernel_rfl, by rintro w' ⟨k', rfl⟩; kernel_rfl⟩) ⟨_, rfl⟩ ?_
    refine wpAnyH_take (i := 9) (fuel := 8) (v := .int .i64 l) rfl (by kernel_rfl) (by kernel_rfl) (by kernel_rfl) (fun _ _ _ h => h) (.inl ⟨by kernel_rfl, by rintro w' ⟨k', rfl⟩; (have e6' : (w5.drewN k').cell? ⟨hb, 6, none⟩ = some (.int .i64 l) := e6; simp [execOp, go_sem, e6'])⟩) ⟨_, rfl⟩ ?_
    refine wpAnyH_take (i := 10) (fuel := 7) (v := .pointer (some ⟨rk, 0, none⟩)) rfl (by kernel_rfl) (by kernel_rfl) (by kernel_rfl) (fun _ _ _ h => h) (.inl ⟨by kernel_rfl, by rintro w' ⟨k', rfl⟩; kernel_rfl⟩) ⟨_, rfl⟩ ?_
    refine wpAnyH_take (i := 11) (fuel := 6) (v := .pointer (some ⟨rk, 0, none⟩)) rfl (by kernel_rfl) (by kernel_rfl) (by kernel_rfl) (fun _ _ _ h => h) (.inl ⟨by kernel_rfl, by rintro w' ⟨k', rfl⟩; kernel_rfl⟩) ⟨_, rfl⟩ ?_
    refine wpAnyH_take (i := 12) (fuel := 5) (v := .pointer (some ⟨rk, 0, none⟩)) rfl (by kernel_rfl) (by kernel_rfl) (by kernel_rfl) (fun _ _ _ h => h) (.inl ⟨by kernel_rfl, by rintro w' ⟨k', rfl⟩; kernel_rfl⟩) ⟨_, rfl⟩ ?_
    refine wpAnyH_take (i := 13) (fuel := 4) (v := .pointer (some ⟨rb, 0, none⟩)) rfl (by kernel_rfl) (by kernel_rfl) (by kernel_rfl) (fun _ _ _ h => h) (.inl ⟨by kernel_rfl, by rintro w' ⟨k', rfl⟩; (have e0' : (w5.drewN k').cell? ⟨rk, 0, none⟩ = some (.pointer (some ⟨rb, 0, none⟩)) := e0; simp [execOp, go_sem, e0'])⟩) ⟨_, rfl⟩ ?_
    refine wpAnyH_all (rs := [14]) (fuel := 3) (by kernel_rfl) (by simp) ?_
    intro i hi
    have hi' := List.mem_singleton.1 hi
    clear hi
    subst hi'
    generalize hA : Act.put _ _ _ = A
    refine wpOp_in rfl (by rw [← hA]; kernel_rfl) (oper_enter (f := 90) (args := #[.pointer (some ⟨rb, 0, none⟩)]) (by rw [← hA]; kernel_rfl) (HLF.out 1) ?_)
    rintro e w' ⟨rfl, k2, hw2⟩
    rw [World.drewN_drewN] at hw2
    subst hw2
    refine .inl ⟨_, rfl, ⟨1 + k2, rfl⟩, ?_⟩
    subst hA
    refine wpAnyH_take (i := 15) (fuel := 2) (v := .bool true) rfl (by kernel_rfl) (by kernel_rfl) (by kernel_rfl) (fun _ _ _ h => h) (.inl ⟨by kernel_rfl, by rintro w' ⟨k', rfl⟩; (simp [execOp, go_sem, y'])⟩) ⟨_, rfl⟩ ?_
    refine wpAnyH_take (i := 16) (fuel := 1) (v := .bool true) rfl (by kernel_rfl) (by kernel_rfl) (by kernel_rfl) (fun _ _ _ h => h) (.inl ⟨by kernel_rfl, by rintro w' ⟨k', rfl⟩; kernel_rfl⟩) ⟨_, rfl⟩ ?_
    refine wpAnyH_all (rs := [17]) (fuel := 0) (by kernel_rfl) (by simp) ?_
    intro i hi
    have hi' := List.mem_singleton.1 hi
    clear hi
    subst hi'
    generalize hA : Act.put _ _ _ = A
    have hD : A.defers = [] := by rw [← hA]; kernel_rfl
    refine wpOp_in rfl (by rw [← hA]; kernel_rfl) (oper_enter (f := 86) (args := #[.bool true, .int .i64 54]) (by rw [← hA]; kernel_rfl) (refuse_no 54 _) ?_)
    rintro e w' ⟨rfl, rfl⟩
    exact .inr ⟨_, rfl, hD, HX.out _⟩
  have y' : decide ((n : Int) - q4 < l) = false := by simp; omega
  have HX := hid (show ∀ k, AnsL w rk rb g n zs cid hb h d s v (fillO zs 1 p) (.returned (.tuple #[])) (w5.drewN k) from by
    intro k
    have qk : Q w5 (w5.drewN k) := (Q.refl w5).drewN k
    refine ⟨K5.out.drewN k, .inl ⟨(tk, l), q4, ⟨ta, tn, tc⟩, ?_, rfl, ?_, T5.out.q qk, TN.out, R5.out.q qk⟩⟩
    · rw [HO4.out, if_neg (by omega)]
    · exact (B5.out.q qk))
  clear z y
  go_quiet (first | (go_at_call 90; exact Calls.quiet_of (HLF.out _)) | (go_at_call 86; exact Calls.quiet_of_same ((refuse_ok 54 _).mono (by rintro e w' ⟨rfl, rfl⟩; exact ⟨rfl, rfl⟩))))
  go_wp2
  go_end0
  exact HX.out _
theorem fill_at (ht0 : h.tok = []) (hl0 : h.len = 0) (hB : Box w 80 hb h d s nilS v) (hne : hb ≠ rb ∧ hb ≠ rk ∧ hb ≠ g) (hr : Rg w rk rb g n zs cid p) :
    Calls Try.prog 99 #[.pointer (some ⟨rk, 0, none⟩), .pointer (some ⟨hb, 0, none⟩)] w fun e w' => AnsL w rk rb g n zs cid hb h d s v (fillO zs h.kind p) e w' := by
  by_cases h4 : h.kind = 4
  · rw [h4]; exact fill_4 rk rb g n zs cid p w hb h d s v h4 hl0 hB hne hr
  by_cases h1 : h.kind = 1
  · rw [h1]; exact fill_1 rk rb g n zs cid p w hb h d s v h1 ht0 hB hne hr
  · exact fill_n rk rb g n zs cid p w hb h d s v h1 h4 ht0 hB hne hr
end
end Go.Proofs.Ytnnjogfpapndaaa
