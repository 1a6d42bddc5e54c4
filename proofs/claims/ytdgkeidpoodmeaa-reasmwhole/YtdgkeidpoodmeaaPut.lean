/-
  What the program's Put answers and does to a buffer, for every piece: a contract that the statements' walks use.
-/
import Derived.Test.YtdgkeidpoodmeaaTook
namespace Go.Proofs.Ytdgkeidpoodmeaa
open Go.RowKit
set_option linter.unusedVariables false

set_option maxHeartbeats 1000000 in
theorem put_range (rb : Nat) (p : Int) (da : Option Addr) (dn dc : Nat) (f : Bool) (w : World) (hdn : dn ≤ 140737488355328) (h : p < 0 ∨ 4611686018427387903 - (dn : Int) < p) :
    Calls Try.prog 24 #[.pointer (some ⟨rb, 0, none⟩), .int .i64 p, .slice da dn dc, .bool f] w fun r w' => r = .returned (.tuple #[.int .i64 0, .int .i64 30]) ∧ w = w' := by
  have hw : IntKind.i64.wrap (4611686018427387903 - (dn : Int)) = 4611686018427387903 - (dn : Int) := by rw [IntKind.wrap_i64]; omega
  by_cases h1 : p < 0
  · have hb : decide (p < 0) = true := by simp [h1]
    go_enter Try.func24, Try.ntmps24
    go_wp2
    go_ret2
    exact ⟨rfl, rfl⟩
  · have hb : decide (p < 0) = false := by simp [h1]
    have hc : 4611686018427387903 - (dn : Int) < p := by omega
    go_enter Try.func24, Try.ntmps24
    go_wp2
    go_ret2
    exact ⟨rfl, rfl⟩

set_option maxHeartbeats 1000000 in
theorem put_final (rb : Nat) (room : Int) (s : S) (ready held : Int) (a : Option Addr) (n c : Nat) (p : Int) (da : Option Addr) (dn dc : Nat) (f : Bool) (w : World) (hr : Hd w rb room s.off s.high s.fin s.known ready held a n c) (hdn : dn ≤ 140737488355328) (h : ¬ (p < 0 ∨ 4611686018427387903 - (dn : Int) < p)) (hk : brk s (p + dn) f = true) :
    Calls Try.prog 24 #[.pointer (some ⟨rb, 0, none⟩), .int .i64 p, .slice da dn dc, .bool f] w fun r w' => r = .returned (.tuple #[.int .i64 0, .int .i64 31]) ∧ w = w' := by
  have hw : IntKind.i64.wrap (4611686018427387903 - (dn : Int)) = 4611686018427387903 - (dn : Int) := by rw [IntKind.wrap_i64]; omega
  have hw2 : IntKind.i64.wrap (p + (dn : Int)) = p + (dn : Int) := by rw [IntKind.wrap_i64]; omega
  have hb : decide (p < 0) = false := by simp; omega
  have hc : ¬ 4611686018427387903 - (dn : Int) < p := by omega
  have HR := hid hr
  have HK := hid hk
  clear hr h hk
  go_enter Try.func24, Try.ntmps24
  go_wp2_with fail
  refine (breaks_any rb room s _ _ a n c (p + dn) f w HR.out).mono ?_
  rintro e w1 ⟨rfl, rfl⟩
  rw [HK.out]
  go_wp2
  go_ret2
  exact ⟨rfl, rfl⟩

set_option maxHeartbeats 1000000 in
theorem put_room (rb : Nat) (room : Int) (s : S) (ready held : Int) (a : Option Addr) (n c : Nat) (p : Int) (da : Option Addr) (dn dc : Nat) (f : Bool) (w : World) (hr : Hd w rb room s.off s.high s.fin s.known ready held a n c) (hdn : dn ≤ 140737488355328) (h : ¬ (p < 0 ∨ 4611686018427387903 - (dn : Int) < p)) (hk : brk s (p + dn) f = false) (h3 : s.off + room < p + dn) (h4 : 0 ≤ s.off + room) :
    Calls Try.prog 24 #[.pointer (some ⟨rb, 0, none⟩), .int .i64 p, .slice da dn dc, .bool f] w fun r w' => r = .returned (.tuple #[.int .i64 0, .int .i64 32]) ∧ ∃ k, w' = w.drewN k := by
  have hw : IntKind.i64.wrap (4611686018427387903 - (dn : Int)) = 4611686018427387903 - (dn : Int) := by rw [IntKind.wrap_i64]; omega
  have hw2 : IntKind.i64.wrap (p + (dn : Int)) = p + (dn : Int) := by rw [IntKind.wrap_i64]; omega
  have hw3 : IntKind.i64.wrap (s.off + room) = s.off + room := by rw [IntKind.wrap_i64]; omega
  have hb : decide (p < 0) = false := by simp; omega
  have hc : ¬ 4611686018427387903 - (dn : Int) < p := by omega
  have c0 := hr.c0
  have c1 := hr.c1
  have HR := hid hr
  have HK := hid hk
  clear hr h hk
  go_enter Try.func24, Try.ntmps24
  go_wp2_with fail
  refine (breaks_any rb room s _ _ a n c (p + dn) f w HR.out).mono ?_
  rintro e w1 ⟨rfl, rfl⟩
  rw [HK.out]
  go_wp2
  go_quiet (fail)
  go_wp2
  go_ret2
  exact ⟨rfl, _, rfl⟩

theorem put_tail (rb : Nat) (room : Int) (s : S) (a : Option Addr) (n c : Nat) (p : Int) (da : Option Addr) (dn dc : Nat) (zs : List Int) (f : Bool) (w w1 : World) (hO : Ok room s)
    (hz : Seg w da zs) (hl : zs.length = dn) (hd : ∀ b, blk da = some b → ¬ Fp rb a b) (hdc : dn ≤ dc) (he : errOf room s p dn f = 0) (hi fi : Int) (kn : Bool)
    (hr : Hd w1 rb room s.off hi fi kn (rdy s.xs) (heldN s.xs) a n c) (hs : Sub w1 62 2 a n c (flat2 s.xs)) (hsep : blk a ≠ some rb) (hk : Keep (Fp rb a) w w1) (h1 : hi = max s.high (p + dn)) (h2 : fi = if f then p + (dn : Int) else s.fin) (h3 : kn = (s.known || f)) :
    Calls Try.prog 28 #[.pointer (some ⟨rb, 0, none⟩), .int .i64 p, .slice da dn dc] w1 fun r w' => ∃ a' n' c', r = .returned (.int .i64 ((heldN (putX s.off s.xs p zs) : Int) - heldN s.xs)) ∧ Bf w' rb a' n' c' room (putSt s p zs f) ∧ Keep (Fp rb a) w w' ∧ (∀ b, blk a' = some b → blk a = some b ∨ w.heap.size ≤ b) := by
  obtain ⟨e0, e1, e2, e3⟩ := err_zero.1 he
  obtain ⟨r0, r1, o0, len, hh, hh1, f0, f1, _, _⟩ := hO
  have hlen : s.xs.length = n := by have := hs.1; rw [flat2_len] at this; omega
  refine (take_any rb room s.off hi fi kn s.xs a n c p da dn dc zs w1 hr hs hsep (by omega) (hz.keep hk hd) hl hd o0 (by omega) e0 e1 hdc (by omega)).mono ?_
  rintro r w' ⟨a', n', c', rfl, k1, k2, k3, k4, k5⟩
  refine ⟨a', n', c', rfl, ⟨?_, k2, k3⟩, hk.trans k4, fun b hb => ?_⟩
  · subst h1; subst h2; subst h3; subst hl; exact k1
  · rcases k5 b hb with h | h
    · exact .inl h
    · exact .inr (Nat.le_trans hk.size h)

set_option maxHeartbeats 2000000 in
theorem put_ok (rb : Nat) (room : Int) (s : S) (a : Option Addr) (n c : Nat) (p : Int) (da : Option Addr) (dn dc : Nat) (zs : List Int) (f : Bool) (w : World) (hB : Bf w rb a n c room s) (hO : Ok room s) (hdn : dn ≤ 140737488355328)
    (hz : Seg w da zs) (hl : zs.length = dn) (hd : ∀ b, blk da = some b → ¬ Fp rb a b) (hdc : dn ≤ dc) (he : errOf room s p dn f = 0) :
    Calls Try.prog 24 #[.pointer (some ⟨rb, 0, none⟩), .int .i64 p, .slice da dn dc, .bool f] w fun r w' => ∃ a' n' c', r = .returned (.tuple #[.int .i64 ((heldN (putX s.off s.xs p zs) : Int) - heldN s.xs), .int .i64 0]) ∧ Bf w' rb a' n' c' room (putSt s p zs f) ∧ Keep (Fp rb a) w w' ∧ (∀ b, blk a' = some b → blk a = some b ∨ w.heap.size ≤ b) := by
  have TAIL := hid (fun w1 hi fi kn hr hs hk h1 h2 h3 => put_tail rb room s a n c p da dn dc zs f w w1 hO hz hl hd hdc he hi fi kn hr hs hB.sep hk h1 h2 h3)
  obtain ⟨e0, e1, e2, e3⟩ := err_zero.1 he
  obtain ⟨r0, r1, o0, len, hi, h1, f0, f1, kn, un⟩ := hO
  have hw : IntKind.i64.wrap (4611686018427387903 - (dn : Int)) = 4611686018427387903 - (dn : Int) := by rw [IntKind.wrap_i64]; omega
  have hw2 : IntKind.i64.wrap (p + (dn : Int)) = p + (dn : Int) := by rw [IntKind.wrap_i64]; omega
  have hw3 : IntKind.i64.wrap (s.off + room) = s.off + room := by rw [IntKind.wrap_i64]; omega
  have hb : decide (p < 0) = false := by simp; omega
  have hc : ¬ 4611686018427387903 - (dn : Int) < p := by omega
  have hr := hB.hd
  have c0 := hr.c0
  have c1 := hr.c1
  have c2 := hr.c2
  have c3 := hr.c3
  have c4 := hr.c4
  have g2 := hr.free 2
  have g3 := hr.free 3
  have g4 := hr.free 4
  have h3 : ¬ s.off + room < p + dn := by omega
  have HR := hid hr
  have HK := hid e2
  have HS := hid hB.sub
  have hsep := hB.sep
  clear hr hB e2 hz hd hl he len hi h1 f0 f1 kn un r0 r1 e1 e3
  go_enter Try.func24, Try.ntmps24
  go_wp2_with fail
  refine (breaks_any rb room s _ _ a n c (p + dn) f w HR.out).mono ?_
  rintro e w1 ⟨rfl, rfl⟩
  rw [HK.out]
  go_wp2_with fail
  go_quiet (fail)
  cases f
  · go_wp2_with fail
    refine (TAIL.out _ _ _ _ ((HR.out.q ((Q.refl w).drewN nq)).high_ _) ((HS.out.q ((Q.refl w).drewN nq)).keep ((Keep.refl (fun k => k = rb) _).setCell rb 2 _ (.inl rfl)) (fun b hb e => hsep (by rw [hb, e]))) (((Keep.refl _ w).drewN nq).setCell rb 2 _ (.inl (.inl rfl))) rfl rfl (by simp)).mono ?_
    rintro e w2 ⟨a', n', c', rfl, k1, k2, k3⟩
    have K1 := hid k1
    have K2 := hid k2
    have K3 := hid k3
    clear k1 k2 k3
    go_wp2
    go_ret2
    exact ⟨a', n', c', rfl, K1.out, K2.out, K3.out⟩
  · go_wp2_with fail
    refine (TAIL.out _ _ _ _ ((((HR.out.q ((Q.refl w).drewN nq)).high_ _).fin_ _).known_ _) ((HS.out.q ((Q.refl w).drewN nq)).keep ((((Keep.refl (fun k => k = rb) _).setCell rb 2 _ (.inl rfl)).setCell rb 3 _ (.inl rfl)).setCell rb 4 _ (.inl rfl)) (fun b hb e => hsep (by rw [hb, e]))) (((((Keep.refl _ w).drewN nq).setCell rb 2 _ (.inl (.inl rfl))).setCell rb 3 _ (.inl (.inl rfl))).setCell rb 4 _ (.inl (.inl rfl))) rfl rfl (by simp)).mono ?_
    rintro e w2 ⟨a', n', c', rfl, k1, k2, k3⟩
    have K1 := hid k1
    have K2 := hid k2
    have K3 := hid k3
    clear k1 k2 k3
    go_wp2
    go_ret2
    exact ⟨a', n', c', rfl, K1.out, K2.out, K3.out⟩

/-- Put, whatever it answers. -/
theorem put_any (rb : Nat) (room : Int) (s : S) (a : Option Addr) (n c : Nat) (p : Int) (da : Option Addr) (dn dc : Nat) (zs : List Int) (f : Bool) (w : World) (hB : Bf w rb a n c room s) (hO : Ok room s) (hdn : dn ≤ 140737488355328)
    (hz : Seg w da zs) (hl : zs.length = dn) (hd : ∀ b, blk da = some b → ¬ Fp rb a b) (hdc : dn ≤ dc) :
    Calls Try.prog 24 #[.pointer (some ⟨rb, 0, none⟩), .int .i64 p, .slice da dn dc, .bool f] w fun r w' => ∃ a' n' c', r = .returned (.tuple #[.int .i64 (freshOf room s p zs f), .int .i64 (errOf room s p dn f)]) ∧ Bf w' rb a' n' c' room (putAll room s p zs f) ∧ Keep (Fp rb a) w w' ∧ (∀ b, blk a' = some b → blk a = some b ∨ w.heap.size ≤ b) := by
  have h2 : errOf room s p dn f ≠ 0 → freshOf room s p zs f = 0 ∧ putAll room s p zs f = s := by
    intro h
    unfold freshOf putAll
    rw [hl, if_neg h]
    exact ⟨by omega, rfl⟩
  by_cases h30 : p < 0 ∨ 4611686018427387903 - (dn : Int) < p
  · have e : errOf room s p dn f = 30 := by unfold errOf; rw [if_pos h30]
    obtain ⟨e1, e2⟩ := h2 (by omega)
    rw [e, e1, e2]
    refine (put_range rb p da dn dc f w hdn h30).mono ?_
    rintro r w' ⟨rfl, rfl⟩
    exact ⟨a, n, c, rfl, hB, Keep.refl _ _, fun b h => .inl h⟩
  cases hk : brk s (p + dn) f
  · by_cases h32 : s.off + room < p + dn
    · have e : errOf room s p dn f = 32 := by unfold errOf; rw [if_neg h30, if_neg (by rw [hk]; simp), if_pos h32]
      obtain ⟨e1, e2⟩ := h2 (by omega)
      rw [e, e1, e2]
      refine (put_room rb room s _ _ a n c p da dn dc f w hB.hd hdn h30 hk h32 (by have := hO.o0; have := hO.r0; omega)).mono ?_
      rintro r w' ⟨rfl, k, rfl⟩
      exact ⟨a, n, c, rfl, hB.q ((Q.refl w).drewN k), (Keep.refl _ w).drewN k, fun b h => .inl h⟩
    · have e : errOf room s p dn f = 0 := by unfold errOf; rw [if_neg h30, if_neg (by rw [hk]; simp), if_neg h32]
      have e2 : putAll room s p zs f = putSt s p zs f := by unfold putAll; rw [hl, if_pos e]
      refine (put_ok rb room s a n c p da dn dc zs f w hB hO hdn hz hl hd hdc e).mono ?_
      rintro r w' ⟨a', n', c', rfl, k1, k2, k3⟩
      refine ⟨a', n', c', ?_, by rw [e2]; exact k1, k2, k3⟩
      unfold freshOf
      rw [e2, e]
      rfl
  · have e : errOf room s p dn f = 31 := by unfold errOf; rw [if_neg h30, if_pos hk]
    obtain ⟨e1, e2⟩ := h2 (by omega)
    rw [e, e1, e2]
    refine (put_final rb room s _ _ a n c p da dn dc f w hB.hd hdn h30 hk).mono ?_
    rintro r w' ⟨rfl, rfl⟩
    exact ⟨a, n, c, rfl, hB, Keep.refl _ _, fun b h => .inl h⟩
end Go.Proofs.Ytdgkeidpoodmeaa
