/-
  What stands behind Src as the document reads it, but for the versions: contracts that the statements' walks use.
-/
import Derived.Test.YtbhhajmfdffdbaaRId
import Derived.Test.YtbhhajmfdffdbaaLong
namespace Go.Proofs.Ytbhhajmfdffdbaa
open Go.RowKit
set_option linter.unusedVariables false
set_option maxRecDepth 20000

/-- What stands behind Src: the kind, the token, the versions, the length. -/
def tailO (zs : List Int) (first ve p : Int) : Out (Int × List Int × List Int × Int) :=
  if ve = 0 then (versO zs p).bind fun vs q => .ok (5, [], vs, 0) q
  else if ve = 1 then (if first / 64 % 2 = 0 then .bad 62 else (fillO zs (1 + first / 16 % 4) p).bind fun tl q => .ok (1 + first / 16 % 4, tl.1, [], tl.2) q)
  else .ok (7, [], [], 0) p
theorem rnum_at (rb : Nat) (a : Option Addr) (n c : Nat) (zs : List Int) (p : Int) (w : World) (h : Dr w rb a n c zs p 0) : Calls Try.prog 50 #[.pointer (some ⟨rb, 0, none⟩)] w fun e w' => Keep (fun i => i = rb) w w' ∧ ((∃ m q, numO zs p = .ok m q ∧ e = .returned (.int .i64 m) ∧ Dr w' rb a n c zs q 0) ∨ (numO zs p = .bad 12 ∧ e = .returned (.int .i64 0) ∧ Dr w' rb a n c zs p 12)) := by
  have hsm := h.small
  refine (rnumber_any rb a n c zs p 0 w h.len (by omega) h.by_ h.off h.rdr).mono ?_
  rintro e w' ⟨rfl, ho, hr⟩
  unfold numR at hr ⊢
  rw [if_pos rfl] at hr ⊢
  have hfl := rd_fault (zs := zs) h.p0 (by rw [h.len]; exact h.p1)
  by_cases hf : (rd zs p).2.2 = 0
  · rw [if_pos hf] at hr ⊢
    have hrange := rd_range h.by_ h.p0 (by rw [h.len]; exact h.p1) (m := (rd zs p).1) (q := (rd zs p).2.1) (e := (rd zs p).2.2) rfl hf
    rw [h.len] at hrange
    have hp0 := h.p0
    exact ⟨ho.keep, .inl ⟨_, _, by unfold numO; rw [if_pos hf], rfl, h.turn ho.keep hr (by dsimp only; omega) (by dsimp only; exact hrange.2.1)⟩⟩
  · rw [if_neg hf] at hr ⊢
    rw [hfl hf] at hr
    exact ⟨ho.keep, .inr ⟨by unfold numO; rw [if_neg hf], rfl, h.turn ho.keep hr h.p0 h.p1⟩⟩
/-- What the document's long tells. -/
def AnsT (w : World) (rb : Nat) (a : Option Addr) (n c : Nat) (zs : List Int) (hb : Nat) (ve : Int) (dl sl : List Int) (d s : Sv) (o : Out (Int × List Int × List Int × Int)) (e : Ending) (w' : World) : Prop :=
  Keep (fun k => k = rb ∨ k = hb) w w' ∧ ((∃ x q t v, o = .ok x q ∧ e = .returned (.int .i64 0) ∧ Box w' 30 hb ⟨x.1, ve, dl, sl, x.2.1, x.2.2.1, x.2.2.2⟩ d s t v ∧ Row w' t x.2.1 ∧ New w.heap.size t ∧ RowN w' v x.2.2.1 ∧ New w.heap.size v ∧ Dr w' rb a n c zs q 0) ∨ (∃ x, x ≠ 0 ∧ o = .bad x ∧ e = .returned (.int .i64 x)))
section
variable (rb : Nat) (a : Option Addr) (n c : Nat) (zs : List Int) (first p : Int) (w : World) (hb : Nat) (ve : Int) (dl sl : List Int) (d s : Sv)
theorem rleft_q (h : Dr w rb a n c zs p 0) (k : Nat) : Calls Try.prog 30 #[.pointer (some ⟨rb, 0, none⟩)] (w.drewN k) fun e w' => e = .returned (.int .i64 ((n : Int) - p)) ∧ ∃ m, w' = (w.drewN k).drewN m := by
  refine (rleft_any rb a n c p 0 (w.drewN k) (by have := h.small; omega) h.p0 h.p1 (h.rdr.drewN k)).mono ?_
  rw [if_pos rfl]
  rintro e w' ⟨rfl, m, rfl⟩
  exact ⟨rfl, m, rfl⟩
set_option maxHeartbeats 1000000 in
/-- Another version. -/
theorem rlong_o (h0 : ve ≠ 0) (h1 : ve ≠ 1) (hne : rb < hb) (hB : Box w 30 hb ⟨0, ve, dl, sl, [], [], 0⟩ d s nilS nilS) (h : Dr w rb a n c zs p 0) :
    Calls Try.prog 33 #[.pointer (some ⟨rb, 0, none⟩), .pointer (some ⟨hb, 0, none⟩), .int .i64 first] w fun e w' => AnsT w rb a n c zs hb ve dl sl d s (tailO zs first ve p) e w' := by
  have e1 := hB.c1
  have e0 := hB.c0
  have f0 := hB.free 0
  dsimp only at e1 e0
  have h0' : (ve != 0) = true := by simp [h0]
  have h1' : (ve != 1) = true := by simp [h1]
  have ks : Keep (fun k => k = hb) w (w.setCell ⟨hb, 0, none⟩ (.int .i64 7)) := (Keep.refl (fun k => k = hb) w).setCell _ _ _ (.inl rfl)
  have HX := hid (show AnsT w rb a n c zs hb ve dl sl d s (tailO zs first ve p) (.returned (.int .i64 0)) (w.setCell ⟨hb, 0, none⟩ (.int .i64 7)) from
    ⟨ks.mono (fun i _ e => .inr e), .inl ⟨(7, [], [], 0), p, nilS, nilS, by unfold tailO; rw [if_neg h0, if_neg h1], rfl, hB.kind_ 7, sub_nil _ _ _, new_nil _, sub_nil _ _ _, new_nil _, h.keep ks (fun i e => by omega)⟩⟩)
  clear ks hB h h0 h1
  go_enter Try.func33, Try.ntmps33
  go_wp2
  go_ret
  exact HX.out
set_option maxHeartbeats 1000000 in
/-- Version 1 without the bit. -/
theorem rlong_f (hx : first / 64 % 2 = 0) (hf0 : 0 ≤ first) (hf1 : first < 256) (hne : rb < hb) (hB : Box w 30 hb ⟨0, 1, dl, sl, [], [], 0⟩ d s nilS nilS) (h : Dr w rb a n c zs p 0) :
    Calls Try.prog 33 #[.pointer (some ⟨rb, 0, none⟩), .pointer (some ⟨hb, 0, none⟩), .int .i64 first] w fun e w' => AnsT w rb a n c zs hb 1 dl sl d s (tailO zs first 1 p) e w' := by
  have e1 := hB.c1
  have e0 := hB.c0
  have f0 := hB.free 0
  dsimp only at e1 e0
  have t1 : Int.tdiv first 64 = first / 64 := Int.tdiv_eq_ediv_of_nonneg hf0
  have t2 : Int.tmod (first / 64) 2 = first / 64 % 2 := Int.tmod_eq_emod_of_nonneg (by omega)
  have t3 : Int.tdiv first 16 = first / 16 := Int.tdiv_eq_ediv_of_nonneg hf0
  have t4 : Int.tmod (first / 16) 4 = first / 16 % 4 := Int.tmod_eq_emod_of_nonneg (by omega)
  have HX := hid (show AnsT w rb a n c zs hb 1 dl sl d s (tailO zs first 1 p) (.returned (.int .i64 62)) w from ⟨Keep.refl _ _, .inr ⟨62, by omega, by unfold tailO; rw [if_neg (by omega), if_pos rfl, if_pos hx], rfl⟩⟩)
  clear hB h t3 t4
  go_enter Try.func33, Try.ntmps33
  go_wp2
  go_ret
  exact HX.out
set_option maxHeartbeats 2000000 in
/-- A Retry. -/
theorem rlong_4 (hx : first / 64 % 2 = 1) (hk : first / 16 % 4 = 3) (hf0 : 0 ≤ first) (hf1 : first < 256) (hne : rb < hb) (hB : Box w 30 hb ⟨0, 1, dl, sl, [], [], 0⟩ d s nilS nilS) (h : Dr w rb a n c zs p 0) :
    Calls Try.prog 33 #[.pointer (some ⟨rb, 0, none⟩), .pointer (some ⟨hb, 0, none⟩), .int .i64 first] w fun e w' => AnsT w rb a n c zs hb 1 dl sl d s (tailO zs first 1 p) e w' := by
  have e1 := hB.c1
  have e0 := hB.c0
  have f0 := hB.free 0
  dsimp only at e1 e0
  have t1 : Int.tdiv first 64 = first / 64 := Int.tdiv_eq_ediv_of_nonneg hf0
  have t2 : Int.tmod (first / 64) 2 = first / 64 % 2 := Int.tmod_eq_emod_of_nonneg (by omega)
  have t3 : Int.tdiv first 16 = first / 16 := Int.tdiv_eq_ediv_of_nonneg hf0
  have t4 : Int.tmod (first / 16) 4 = first / 16 % 4 := Int.tmod_eq_emod_of_nonneg (by omega)
  rw [hx] at t2
  rw [hk] at t4
  have HO := hid (show tailO zs first 1 p = (fillO zs 4 p).bind fun tl q => .ok (4, tl.1, [], tl.2) q from by unfold tailO; rw [if_neg (by omega), if_pos rfl, if_neg (by omega), hk]; rfl)
  have HF := hid (show fillO zs 4 p = if (n : Int) - p < 16 then .bad 12 else (someO zs p ((n : Int) - p - 16)).bind fun tk q => .ok (tk, 0) q from by unfold fillO; rw [if_pos rfl, h.len])
  have hp0 := h.p0
  have hp1 := h.p1
  have hsm := h.small
  have ks : Keep (fun k => k = hb) w (w.setCell ⟨hb, 0, none⟩ (.int .i64 4)) := (Keep.refl (fun k => k = hb) w).setCell _ _ _ (.inl rfl)
  have K1 := hid (show Keep (fun k => k = rb ∨ k = hb) w (w.setCell ⟨hb, 0, none⟩ (.int .i64 4)) from ks.mono (fun i _ e => .inr e))
  have R1 := hid (h.keep ks (fun i e => by omega))
  have b1 : Box (w.setCell ⟨hb, 0, none⟩ (.int .i64 4)) 30 hb ⟨4, 1, dl, sl, [], [], 0⟩ d s nilS nilS := hB.kind_ 4
  have B1 := hid b1
  have hs1 : (w.setCell ⟨hb, 0, none⟩ (.int .i64 4)).heap.size = w.heap.size := by simp
  have hlt1 := b1.lt
  clear hB h ks b1
  go_enter Try.func33, Try.ntmps33
  go_wp2_with fail
  generalize w.setCell ⟨hb, 0, none⟩ (.int .i64 4) = w1 at *
  refine (rleft_any rb a n c p 0 w1 (by omega) hp0 hp1 R1.out.rdr).mono ?_
  rw [if_pos rfl]
  rintro e w2 ⟨rfl, k2, rfl⟩
  have q2 : Q w1 (w1.drewN k2) := (Q.refl w1).drewN k2
  have R2 := hid (R1.out.q q2)
  have B2 := hid (B1.out.q q2)
  have K2 := hid (show Keep (fun k => k = rb ∨ k = hb) w (w1.drewN k2) from K1.out.trans (Keep.ofQ q2))
  have hs2 : (w1.drewN k2).heap.size = w1.heap.size := rfl
  clear q2 R1 B1 K1
  generalize w1.drewN k2 = w2 at *
  by_cases h16 : (n : Int) - p < 16
  · have d16 : decide ((n : Int) - p < 16) = true := by simp; omega
    have HX := hid (show AnsT w rb a n c zs hb 1 dl sl d s (tailO zs first 1 p) (.returned (.int .i64 12)) w2 from ⟨K2.out, .inr ⟨12, by omega, by rw [HO.out, HF.out, if_pos h16]; rfl, rfl⟩⟩)
    go_wp2
    go_ret
    exact HX.out
  have d16 : decide ((n : Int) - p < 16) = false := by simp; omega
  go_wp2_with fail
  refine (rleft_any rb a n c p 0 w2 (by omega) hp0 hp1 R2.out.rdr).mono ?_
  rw [if_pos rfl]
  rintro e w3 ⟨rfl, k3, rfl⟩
  have q3 : Q w2 (w2.drewN k3) := (Q.refl w2).drewN k3
  have R3 := hid (R2.out.q q3)
  have B3 := hid (B2.out.q q3)
  have K3 := hid (show Keep (fun k => k = rb ∨ k = hb) w (w2.drewN k3) from K2.out.trans (Keep.ofQ q3))
  have hs3 : (w2.drewN k3).heap.size = w2.heap.size := rfl
  clear q3 R2 B2 K2
  generalize w2.drewN k3 = w3 at *
  go_wp2_with fail
  refine (rbytes_ok rb a n c zs p w3 ((n : Int) - p - 16) (by omega) (by omega) R3.out).mono ?_
  rintro e w4 ⟨⟨ta, tn, tc⟩, rfl, hk4, hr4, hrow, hnew⟩
  have b4 := B3.out.keep hk4 (by omega)
  have e4 := b4.c4
  have f4 := b4.free 4
  have ks : Keep (fun k => k = hb) w4 (w4.setCell ⟨hb, 4, none⟩ (.slice ta tn tc)) := (Keep.refl (fun k => k = hb) w4).setCell _ _ _ (.inl rfl)
  have HX := hid (show AnsT w rb a n c zs hb 1 dl sl d s (tailO zs first 1 p) (.returned (.int .i64 0)) (w4.setCell ⟨hb, 4, none⟩ (.slice ta tn tc)) from by
    refine ⟨(K3.out.trans (hk4.mono (fun i _ e => .inl e))).trans (ks.mono (fun i _ e => .inr e)), .inl ⟨(4, (zs.drop p.toNat).take ((n : Int) - p - 16).toNat, [], 0), p + ((n : Int) - p - 16), ⟨ta, tn, tc⟩, nilS, ?_, rfl, b4.tok_ ⟨ta, tn, tc⟩ _, hrow.keep ks ?_, hnew.mono (by omega), sub_nil _ _ _, new_nil _, hr4.keep ks (fun i e => by omega)⟩⟩
    · rw [HO.out, HF.out, if_neg (by omega)]
      unfold someO
      rw [if_neg (by have := R3.out.len; omega)]
      rfl
    · intro b hb' e; have := hnew b hb'; omega)
  clear hk4 hr4 hrow hnew b4 ks
  go_wp2
  go_ret
  exact HX.out
set_option maxHeartbeats 4000000 in
/-- Early and Handshake. -/
theorem rlong_n (kd : Int) (hkd : kd = 2 ∨ kd = 3) (hx : first / 64 % 2 = 1) (hk : first / 16 % 4 = kd - 1) (hf0 : 0 ≤ first) (hf1 : first < 256) (hne : rb < hb) (hB : Box w 30 hb ⟨0, 1, dl, sl, [], [], 0⟩ d s nilS nilS) (h : Dr w rb a n c zs p 0) :
    Calls Try.prog 33 #[.pointer (some ⟨rb, 0, none⟩), .pointer (some ⟨hb, 0, none⟩), .int .i64 first] w fun e w' => AnsT w rb a n c zs hb 1 dl sl d s (tailO zs first 1 p) e w' := by
  have e1 := hB.c1
  have e0 := hB.c0
  have f0 := hB.free 0
  dsimp only at e1 e0
  have t1 : Int.tdiv first 64 = first / 64 := Int.tdiv_eq_ediv_of_nonneg hf0
  have t2 : Int.tmod (first / 64) 2 = first / 64 % 2 := Int.tmod_eq_emod_of_nonneg (by omega)
  have t3 : Int.tdiv first 16 = first / 16 := Int.tdiv_eq_ediv_of_nonneg hf0
  have t4 : Int.tmod (first / 16) 4 = first / 16 % 4 := Int.tmod_eq_emod_of_nonneg (by omega)
  rw [hx] at t2
  have HO := hid (show tailO zs first 1 p = (lenO zs [] p).bind fun tl q => .ok (kd, tl.1, [], tl.2) q from by
    unfold tailO; rw [if_neg (by omega), if_pos rfl, if_neg (by omega), hk, show 1 + (kd - 1) = kd by omega]
    unfold fillO; rw [if_neg (by omega), if_neg (by omega)])
  have hsm := h.small
  rw [hk] at t4
  have k1 : (kd == 1) = false := by simp; omega
  have k4 : (kd == 4) = false := by simp; omega
  have hw : 1 + (kd - 1) = kd := by omega
  have hw' : IntKind.i64.wrap (1 + (kd - 1)) = kd := by rw [wrap_i64]; omega
  have TB_ := hid (show ∀ i, i = rb ∨ i = hb → ∀ b, blk nilS.a = some b → ¬ b = i from fun i hi b hb' => by cases hb')
  have ks : Keep (fun k => k = hb) w (w.setCell ⟨hb, 0, none⟩ (.int .i64 kd)) := (Keep.refl (fun k => k = hb) w).setCell _ _ _ (.inl rfl)
  have K1 := hid (show Keep (fun k => k = rb ∨ k = hb) w (w.setCell ⟨hb, 0, none⟩ (.int .i64 kd)) from ks.mono (fun i _ e => .inr e))
  have R1 := hid (h.keep ks (fun i e => by omega))
  have b1 : Box (w.setCell ⟨hb, 0, none⟩ (.int .i64 kd)) 30 hb ⟨kd, 1, dl, sl, [], [], 0⟩ d s nilS nilS := hB.kind_ kd
  have B1 := hid b1
  have hs1 : (w.setCell ⟨hb, 0, none⟩ (.int .i64 kd)).heap.size = w.heap.size := by simp
  have hlt1 := b1.lt
  clear hB h ks b1
  clear hkd
  go_enter Try.func33, Try.ntmps33
  go_wp2_with fail
  refine (rnum_at rb a n c zs p (w.setCell ⟨hb, 0, none⟩ (.int .i64 kd)) R1.out).mono ?_
  rintro e w4 ⟨hk4, ⟨l, q4, ho, rfl, hr⟩ | ⟨ho, rfl, hr⟩⟩
  rotate_left
  · have b4 := B1.out.keep hk4 (by omega)
    have e6 := b4.c6
    have f6 := b4.free 6
    have ks : Keep (fun k => k = hb) w4 (w4.setCell ⟨hb, 6, none⟩ (.int .i64 0)) := (Keep.refl (fun k => k = hb) w4).setCell _ _ _ (.inl rfl)
    have r5 := hr.keep ks (fun i e => by omega)
    have g2 := hr.rdr.c2
    have HX := hid (show AnsT w rb a n c zs hb 1 dl sl d s (tailO zs first 1 p) (.returned (.int .i64 12)) (w4.setCell ⟨hb, 6, none⟩ (.int .i64 0)) from
      ⟨(K1.out.trans (hk4.mono (fun i _ e => .inl e))).trans (ks.mono (fun i _ e => .inr e)), .inr ⟨12, by omega, by rw [HO.out]; unfold lenO; rw [ho]; rfl, rfl⟩⟩)
    clear hk4 ho hr b4 ks r5
    go_wp2
    go_ret
    exact HX.out
  have hpl := numO_pl R1.out.pl_ ho
  have HO4 := hid (show tailO zs first 1 p = if l = 0 ∨ (n : Int) - q4 < l then .bad 54 else .ok (kd, [], [], l) q4 from by
    rw [HO.out]; unfold lenO; rw [ho, ← hr.len]
    show Out.bind (if l = 0 ∨ (zs.length : Int) - q4 < l then Out.bad 54 else Out.ok ([], l) q4) _ = _
    split <;> rfl)
  have b4 := B1.out.keep hk4 (by omega)
  have e6 := b4.c6
  have f6 := b4.free 6
  have hl0 : 0 ≤ l := hpl.2.2.1
  have hl1 : l ≤ 4611686018427387903 := hpl.2.2.2
  have hq0 : 0 ≤ q4 := hr.p0
  have hq1 : q4 ≤ n := hr.p1
  have ks : Keep (fun k => k = hb) w4 (w4.setCell ⟨hb, 6, none⟩ (.int .i64 l)) := (Keep.refl (fun k => k = hb) w4).setCell _ _ _ (.inl rfl)
  have r5 := hr.keep ks (fun i e => by omega)
  have R5 := hid r5
  have B5 := hid (show Box (w4.setCell ⟨hb, 6, none⟩ (.int .i64 l)) 30 hb ⟨kd, 1, dl, sl, [], [], l⟩ d s nilS nilS from b4.len_ l)
  have K5 := hid (show Keep (fun k => k = rb ∨ k = hb) w (w4.setCell ⟨hb, 6, none⟩ (.int .i64 l)) from (K1.out.trans (hk4.mono (fun i _ e => .inl e))).trans (ks.mono (fun i _ e => .inr e)))
  have T5 := hid (show Row (w4.setCell ⟨hb, 6, none⟩ (.int .i64 l)) nilS [] from ((show Row (w.setCell ⟨hb, 0, none⟩ (.int .i64 kd)) nilS [] from sub_nil _ _ _).keep hk4 (TB_.out rb (Or.inl rfl))).keep ks (TB_.out hb (Or.inr rfl)))
  have g2 := hr.rdr.c2
  clear hk4 ho hr hpl b4 ks r5
  go_wp2
  generalize w4.setCell ⟨hb, 6, none⟩ (.int .i64 l) = w5 at *
  have g6 := B5.out.c6
  dsimp only at g6
  have HLF := hid (fun k => rleft_q rb a n c zs q4 w5 R5.out k)
  by_cases z : l = 0
  · have HX := hid (show ∀ k, AnsT w rb a n c zs hb 1 dl sl d s (tailO zs first 1 p) (.returned (.int .i64 54)) (w5.drewN k) from fun k => ⟨K5.out.drewN k, .inr ⟨54, by omega, by rw [HO4.out, if_pos (.inl z)], rfl⟩⟩)
    have z' : (l == 0) = true := by simp [z]
    clear z
    go_quiet (first | (go_at_call 30; exact Calls.quiet_of (HLF.out _)))
    go_wp2
    go_ret
    exact HX.out _
  have z' : (l == 0) = false := by simp [z]
  by_cases y : (n : Int) - q4 < l
  · have HX := hid (show ∀ k, AnsT w rb a n c zs hb 1 dl sl d s (tailO zs first 1 p) (.returned (.int .i64 54)) (w5.drewN k) from fun k => ⟨K5.out.drewN k, .inr ⟨54, by omega, by rw [HO4.out, if_pos (.inr y)], rfl⟩⟩)
    have y' : decide ((n : Int) - q4 < l) = true := by simp; omega
    clear z y
    go_quiet (first | (go_at_call 30; exact Calls.quiet_of (HLF.out _)))
    go_wp2
    go_ret
    exact HX.out _
  have y' : decide ((n : Int) - q4 < l) = false := by simp; omega
  have HX := hid (show ∀ k, AnsT w rb a n c zs hb 1 dl sl d s (tailO zs first 1 p) (.returned (.int .i64 0)) (w5.drewN k) from by
    intro k
    have qk : Q w5 (w5.drewN k) := (Q.refl w5).drewN k
    refine ⟨K5.out.drewN k, .inl ⟨(kd, [], [], l), q4, nilS, nilS, ?_, rfl, B5.out.q qk, T5.out.q qk, (new_nil _), sub_nil _ _ _, new_nil _, R5.out.q qk⟩⟩
    rw [HO4.out, if_neg (by omega)])
  clear z y
  go_quiet (first | (go_at_call 30; exact Calls.quiet_of (HLF.out _)))
  go_wp2
  go_ret
  exact HX.out _
set_option maxHeartbeats 4000000 in
/-- Initial. -/
theorem rlong_1 (hx : first / 64 % 2 = 1) (hk : first / 16 % 4 = 0) (hf0 : 0 ≤ first) (hf1 : first < 256) (hne : rb < hb) (hB : Box w 30 hb ⟨0, 1, dl, sl, [], [], 0⟩ d s nilS nilS) (h : Dr w rb a n c zs p 0) :
    Calls Try.prog 33 #[.pointer (some ⟨rb, 0, none⟩), .pointer (some ⟨hb, 0, none⟩), .int .i64 first] w fun e w' => AnsT w rb a n c zs hb 1 dl sl d s (tailO zs first 1 p) e w' := by
  have e1 := hB.c1
  have e0 := hB.c0
  have f0 := hB.free 0
  dsimp only at e1 e0
  have t1 : Int.tdiv first 64 = first / 64 := Int.tdiv_eq_ediv_of_nonneg hf0
  have t2 : Int.tmod (first / 64) 2 = first / 64 % 2 := Int.tmod_eq_emod_of_nonneg (by omega)
  have t3 : Int.tdiv first 16 = first / 16 := Int.tdiv_eq_ediv_of_nonneg hf0
  have t4 : Int.tmod (first / 16) 4 = first / 16 % 4 := Int.tmod_eq_emod_of_nonneg (by omega)
  rw [hx] at t2
  have HO0 := hid (show tailO zs first 1 p = ((numO zs p).bind fun m q => (someO zs q m).bind fun tk q2 => lenO zs tk q2).bind fun tl q => .ok (1, tl.1, [], tl.2) q from by
    unfold tailO; rw [if_neg (by omega), if_pos rfl, if_neg (by omega), hk, show (1 : Int) + 0 = 1 by omega]
    unfold fillO; rw [if_neg (by omega), if_pos rfl])
  have hsm := h.small
  rw [hk] at t4
  have ks : Keep (fun k => k = hb) w (w.setCell ⟨hb, 0, none⟩ (.int .i64 1)) := (Keep.refl (fun k => k = hb) w).setCell _ _ _ (.inl rfl)
  have K1 := hid (show Keep (fun k => k = rb ∨ k = hb) w (w.setCell ⟨hb, 0, none⟩ (.int .i64 1)) from ks.mono (fun i _ e => .inr e))
  have R1 := hid (h.keep ks (fun i e => by omega))
  have b1 : Box (w.setCell ⟨hb, 0, none⟩ (.int .i64 1)) 30 hb ⟨1, 1, dl, sl, [], [], 0⟩ d s nilS nilS := hB.kind_ 1
  have B1 := hid b1
  have hs1 : (w.setCell ⟨hb, 0, none⟩ (.int .i64 1)).heap.size = w.heap.size := by simp
  have hlt1 := b1.lt
  clear hB h ks b1
  go_enter Try.func33, Try.ntmps33
  go_wp2_with fail
  generalize w.setCell ⟨hb, 0, none⟩ (.int .i64 1) = w1 at *
  refine (rnum_at rb a n c zs p w1 R1.out).mono ?_
  rintro e w2 ⟨hk2, ⟨m, q2, ho, rfl, hr⟩ | ⟨ho, rfl, hr⟩⟩
  rotate_left
  · have R2 := hid hr
    have K2 := hid hk2
    have HN := hid ho
    clear hk2 ho hr
    go_wp2_with fail
    refine (rbytes_f rb a n c p 12 0 w2 (by omega) R2.out.rdr).mono ?_
    rintro e w3 ⟨rfl, rfl⟩
    have b4 := B1.out.keep K2.out (by omega)
    have e4 := b4.c4
    have f4 := b4.free 4
    have r4 := R2.out
    have g2 := r4.rdr.c2
    have ks : Keep (fun k => k = hb) w2 (w2.setCell ⟨hb, 4, none⟩ (.slice none 0 0)) := (Keep.refl (fun k => k = hb) w2).setCell _ _ _ (.inl rfl)
    have b5 : Box (w2.setCell ⟨hb, 4, none⟩ (.slice none 0 0)) 30 hb ⟨1, 1, dl, sl, [], [], 0⟩ d s nilS nilS := b4.tok_ nilS []
    have r5 := r4.keep ks (fun i e => by omega)
    have hb5 : hb < w2.heap.size := b4.lt
    have K5 := hid (show Keep (fun k => k = rb ∨ k = hb) w (w2.setCell ⟨hb, 4, none⟩ (.slice none 0 0)) from (K1.out.trans (K2.out.mono (fun i _ e => .inl e))).trans (ks.mono (fun i _ e => .inr e)))
    have B5 := hid b5
    have R5 := hid r5
    clear b4 r4 ks b5 r5 R2
    go_wp2_with fail
    generalize w2.setCell ⟨hb, 4, none⟩ (.slice none 0 0) = w5 at *
    refine (rnumber_f rb a n c p 12 w5 (by omega) R5.out.rdr).mono ?_
    rintro e w6 ⟨rfl, rfl⟩
    have e6 := B5.out.c6
    have f6 := B5.out.free 6
    have h2 := R5.out.rdr.c2
    have ks : Keep (fun k => k = hb) w5 (w5.setCell ⟨hb, 6, none⟩ (.int .i64 0)) := (Keep.refl (fun k => k = hb) w5).setCell _ _ _ (.inl rfl)
    have HX := hid (show AnsT w rb a n c zs hb 1 dl sl d s (tailO zs first 1 p) (.returned (.int .i64 12)) (w5.setCell ⟨hb, 6, none⟩ (.int .i64 0)) from ⟨K5.out.trans (ks.mono (fun i _ e => .inr e)), .inr ⟨12, by omega, by rw [HO0.out, HN.out]; rfl, rfl⟩⟩)
    clear ks e4 f4 g2
    go_wp2
    go_ret
    exact HX.out
  have hpl := numO_pl R1.out.pl_ ho
  have hm0 : 0 ≤ m := hpl.2.2.1
  have HO1 := hid (show tailO zs first 1 p = ((someO zs q2 m).bind fun tk q2 => lenO zs tk q2).bind fun tl q => .ok (1, tl.1, [], tl.2) q from by rw [HO0.out, ho]; rfl)
  have R2 := hid hr
  have K2 := hid hk2
  have hs2 := hk2.size
  clear hk2 ho hr hpl HO0
  by_cases hsh : (n : Int) - q2 < m
  · have HS := hid (show someO zs q2 m = .bad 12 from by unfold someO; rw [R2.out.len, if_pos hsh])
    go_wp2_with fail
    refine (rbytes_no rb a n c zs q2 w2 m hm0 (by omega) R2.out).mono ?_
    rintro e w3 ⟨⟨ta, tn, tc⟩, rfl, hk3, hr3, _, _⟩
    have b4 := B1.out.keep (K2.out.trans hk3) (by omega)
    have e4 := b4.c4
    have f4 := b4.free 4
    have r4 := hr3
    have g2 := r4.rdr.c2
    have ks : Keep (fun k => k = hb) w3 (w3.setCell ⟨hb, 4, none⟩ (.slice ta tn tc)) := (Keep.refl (fun k => k = hb) w3).setCell _ _ _ (.inl rfl)
    have b5 : Box (w3.setCell ⟨hb, 4, none⟩ (.slice ta tn tc)) 30 hb ⟨1, 1, dl, sl, [], [], 0⟩ d s ⟨ta, tn, tc⟩ nilS := b4.tok_ ⟨ta, tn, tc⟩ []
    have r5 := r4.keep ks (fun i e => by omega)
    have hb5 : hb < w3.heap.size := b4.lt
    have K5 := hid (show Keep (fun k => k = rb ∨ k = hb) w (w3.setCell ⟨hb, 4, none⟩ (.slice ta tn tc)) from (K1.out.trans ((K2.out.trans hk3).mono (fun i _ e => .inl e))).trans (ks.mono (fun i _ e => .inr e)))
    have B5 := hid b5
    have R5 := hid r5
    clear b4 r4 ks b5 r5 hk3 hr3
    go_wp2_with fail
    generalize w3.setCell ⟨hb, 4, none⟩ (.slice ta tn tc) = w5 at *
    refine (rnumber_f rb a n c q2 12 w5 (by omega) R5.out.rdr).mono ?_
    rintro e w6 ⟨rfl, rfl⟩
    have e6 := B5.out.c6
    have f6 := B5.out.free 6
    have h2 := R5.out.rdr.c2
    have ks : Keep (fun k => k = hb) w5 (w5.setCell ⟨hb, 6, none⟩ (.int .i64 0)) := (Keep.refl (fun k => k = hb) w5).setCell _ _ _ (.inl rfl)
    have HX := hid (show AnsT w rb a n c zs hb 1 dl sl d s (tailO zs first 1 p) (.returned (.int .i64 12)) (w5.setCell ⟨hb, 6, none⟩ (.int .i64 0)) from ⟨K5.out.trans (ks.mono (fun i _ e => .inr e)), .inr ⟨12, by omega, by rw [HO1.out, HS.out]; rfl, rfl⟩⟩)
    clear ks e4 f4 g2
    go_wp2
    go_ret
    exact HX.out
  have HS := hid (show someO zs q2 m = .ok ((zs.drop q2.toNat).take m.toNat) (q2 + m) from by unfold someO; rw [R2.out.len, if_neg hsh])
  have HO := hid (show tailO zs first 1 p = (lenO zs ((zs.drop q2.toNat).take m.toNat) (q2 + m)).bind fun tl q => .ok (1, tl.1, [], tl.2) q from by rw [HO1.out, HS.out]; rfl)
  go_wp2_with fail
  refine (rbytes_ok rb a n c zs q2 w2 m hm0 (by omega) R2.out).mono ?_
  rintro e w3 ⟨⟨ta, tn, tc⟩, rfl, hk3, hr3, hrow, hnew⟩
  have b3 := B1.out.keep (K2.out.trans hk3) (by omega)
  have e4 := b3.c4
  have f4 := b3.free 4
  generalize (zs.drop q2.toNat).take m.toNat = tk at *
  generalize q2 + m = q3 at *
  have ks : Keep (fun k => k = hb) w3 (w3.setCell ⟨hb, 4, none⟩ (.slice ta tn tc)) := (Keep.refl (fun k => k = hb) w3).setCell _ _ _ (.inl rfl)
  have hnew' : New w.heap.size ⟨ta, tn, tc⟩ := hnew.mono (by omega)
  have TN := hid hnew'
  have TB_ := hid (show ∀ i, i = rb ∨ i = hb → ∀ b, blk ta = some b → ¬ b = i from fun i hi b hb' e => by have h1 := hnew b hb'; rcases hi with rfl | rfl <;> omega)
  have R3 := hid (hr3.keep ks (fun i e => by omega))
  have B3 := hid (show Box (w3.setCell ⟨hb, 4, none⟩ (.slice ta tn tc)) 30 hb ⟨1, 1, dl, sl, tk, [], 0⟩ d s ⟨ta, tn, tc⟩ nilS from b3.tok_ ⟨ta, tn, tc⟩ tk)
  have K3 := hid (show Keep (fun k => k = rb ∨ k = hb) w (w3.setCell ⟨hb, 4, none⟩ (.slice ta tn tc)) from (K1.out.trans ((K2.out.trans hk3).mono (fun i _ e => .inl e))).trans (ks.mono (fun i _ e => .inr e)))
  have T3 := hid (show Row (w3.setCell ⟨hb, 4, none⟩ (.slice ta tn tc)) ⟨ta, tn, tc⟩ tk from hrow.keep ks (TB_.out hb (Or.inr rfl)))
  clear hk3 hr3 hrow hnew hnew' b3 ks R2 K2 HS HO1 R1 B1
  go_wp2_with fail
  refine (rnum_at rb a n c zs q3 (w3.setCell ⟨hb, 4, none⟩ (.slice ta tn tc)) R3.out).mono ?_
  rintro e w4 ⟨hk4, ⟨l, q4, ho, rfl, hr⟩ | ⟨ho, rfl, hr⟩⟩
  rotate_left
  · have b4 := B3.out.keep hk4 (by omega)
    have e6 := b4.c6
    have f6 := b4.free 6
    have ks : Keep (fun k => k = hb) w4 (w4.setCell ⟨hb, 6, none⟩ (.int .i64 0)) := (Keep.refl (fun k => k = hb) w4).setCell _ _ _ (.inl rfl)
    have r5 := hr.keep ks (fun i e => by omega)
    have g2 := hr.rdr.c2
    have HX := hid (show AnsT w rb a n c zs hb 1 dl sl d s (tailO zs first 1 p) (.returned (.int .i64 12)) (w4.setCell ⟨hb, 6, none⟩ (.int .i64 0)) from
      ⟨(K3.out.trans (hk4.mono (fun i _ e => .inl e))).trans (ks.mono (fun i _ e => .inr e)), .inr ⟨12, by omega, by rw [HO.out]; unfold lenO; rw [ho]; rfl, rfl⟩⟩)
    clear hk4 ho hr b4 ks r5
    go_wp2
    go_ret
    exact HX.out
  have hpl := numO_pl R3.out.pl_ ho
  have HO4 := hid (show tailO zs first 1 p = if l = 0 ∨ (n : Int) - q4 < l then .bad 54 else .ok (1, tk, [], l) q4 from by
    rw [HO.out]; unfold lenO; rw [ho, ← hr.len]
    show Out.bind (if l = 0 ∨ (zs.length : Int) - q4 < l then Out.bad 54 else Out.ok (tk, l) q4) _ = _
    split <;> rfl)
  have b4 := B3.out.keep hk4 (by omega)
  have e6 := b4.c6
  have f6 := b4.free 6
  have hl0 : 0 ≤ l := hpl.2.2.1
  have hl1 : l ≤ 4611686018427387903 := hpl.2.2.2
  have hq0 : 0 ≤ q4 := hr.p0
  have hq1 : q4 ≤ n := hr.p1
  have ks : Keep (fun k => k = hb) w4 (w4.setCell ⟨hb, 6, none⟩ (.int .i64 l)) := (Keep.refl (fun k => k = hb) w4).setCell _ _ _ (.inl rfl)
  have r5 := hr.keep ks (fun i e => by omega)
  have R5 := hid r5
  have B5 := hid (show Box (w4.setCell ⟨hb, 6, none⟩ (.int .i64 l)) 30 hb ⟨1, 1, dl, sl, tk, [], l⟩ d s ⟨ta, tn, tc⟩ nilS from b4.len_ l)
  have K5 := hid (show Keep (fun k => k = rb ∨ k = hb) w (w4.setCell ⟨hb, 6, none⟩ (.int .i64 l)) from (K3.out.trans (hk4.mono (fun i _ e => .inl e))).trans (ks.mono (fun i _ e => .inr e)))
  have T5 := hid (show Row (w4.setCell ⟨hb, 6, none⟩ (.int .i64 l)) ⟨ta, tn, tc⟩ tk from (T3.out.keep hk4 (TB_.out rb (Or.inl rfl))).keep ks (TB_.out hb (Or.inr rfl)))
  have g2 := hr.rdr.c2
  clear hk4 ho hr hpl b4 ks r5
  go_wp2
  generalize w4.setCell ⟨hb, 6, none⟩ (.int .i64 l) = w5 at *
  have g6 := B5.out.c6
  dsimp only at g6
  have HLF := hid (fun k => rleft_q rb a n c zs q4 w5 R5.out k)
  by_cases z : l = 0
  · have HX := hid (show ∀ k, AnsT w rb a n c zs hb 1 dl sl d s (tailO zs first 1 p) (.returned (.int .i64 54)) (w5.drewN k) from fun k => ⟨K5.out.drewN k, .inr ⟨54, by omega, by rw [HO4.out, if_pos (.inl z)], rfl⟩⟩)
    have z' : (l == 0) = true := by simp [z]
    clear z
    go_quiet (first | (go_at_call 30; exact Calls.quiet_of (HLF.out _)))
    go_wp2
    go_ret
    exact HX.out _
  have z' : (l == 0) = false := by simp [z]
  by_cases y : (n : Int) - q4 < l
  · have HX := hid (show ∀ k, AnsT w rb a n c zs hb 1 dl sl d s (tailO zs first 1 p) (.returned (.int .i64 54)) (w5.drewN k) from fun k => ⟨K5.out.drewN k, .inr ⟨54, by omega, by rw [HO4.out, if_pos (.inr y)], rfl⟩⟩)
    have y' : decide ((n : Int) - q4 < l) = true := by simp; omega
    clear z y
    go_quiet (first | (go_at_call 30; exact Calls.quiet_of (HLF.out _)))
    go_wp2
    go_ret
    exact HX.out _
  have y' : decide ((n : Int) - q4 < l) = false := by simp; omega
  have HX := hid (show ∀ k, AnsT w rb a n c zs hb 1 dl sl d s (tailO zs first 1 p) (.returned (.int .i64 0)) (w5.drewN k) from by
    intro k
    have qk : Q w5 (w5.drewN k) := (Q.refl w5).drewN k
    refine ⟨K5.out.drewN k, .inl ⟨(1, tk, [], l), q4, ⟨ta, tn, tc⟩, nilS, ?_, rfl, B5.out.q qk, T5.out.q qk, TN.out, sub_nil _ _ _, new_nil _, R5.out.q qk⟩⟩
    rw [HO4.out, if_neg (by omega)])
  clear z y
  go_quiet (first | (go_at_call 30; exact Calls.quiet_of (HLF.out _)))
  go_wp2
  go_ret
  exact HX.out _
end
end Go.Proofs.Ytbhhajmfdffdbaa
