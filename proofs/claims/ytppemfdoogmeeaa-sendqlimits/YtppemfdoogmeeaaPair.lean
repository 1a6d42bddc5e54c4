/-
  The program's queue and the document's beside one another, and what the law's own rest answers: for the walk of the law SendqPlays.
-/
import Derived.Test.YtppemfdoogmeeaaRef
namespace Go.Proofs.Ytppemfdoogmeeaa
open Go.RowKit
set_option linter.unusedVariables false

theorem or_right {a b c : Prop} (h : a ∨ b) (f : b → c) : a ∨ c := by
  rcases h with h | h
  · exact .inl h
  · exact .inr (f h)
/-- Both hold the same state, apart from one another. -/
structure Inv2 (w : World) (rb : Nat) (d m : Sv) (rd : Nat) (x y : Sv) (room : Int) (s : S) : Prop where
  bf : Bf w rb d m room s
  rw : Rw w rd x y room s
  ok : Ok room s
  ap : ∀ i, Fp rb d m i → ¬ Fp rd x y i
theorem Inv2.q {w w' : World} {rb : Nat} {d m : Sv} {rd : Nat} {x y : Sv} {room : Int} {s : S} (h : Inv2 w rb d m rd x y room s) (k : Q w w') : Inv2 w' rb d m rd x y room s := ⟨h.bf.q k, h.rw.q k, h.ok, h.ap⟩
theorem Inv2.mid {w w' : World} {rb : Nat} {d m : Sv} {rd : Nat} {x y : Sv} {room : Int} {s : S} (h : Inv2 w rb d m rd x y room s) (k : Keep (Fp rb d m) w w') : Rw w' rd x y room s := h.rw.keep k (fun i h2 h1 => h.ap i h1 h2)

/-- What a step of both leaves. -/
def Both (w w' : World) (rb : Nat) (d m : Sv) (rd : Nat) (x y : Sv) (room : Int) (s' : S) : Prop :=
  ∃ d' m' x' y', Inv2 w' rb d' m' rd x' y' room s' ∧ Keep (fun i => Fp rb d m i ∨ Fp rd x y i) w w' ∧ (∀ i, Fp rb d' m' i → Fp rb d m i ∨ w.heap.size ≤ i) ∧ (∀ i, Fp rd x' y' i → Fp rd x y i ∨ w.heap.size ≤ i)
theorem Both.q {w w' w2 : World} {rb : Nat} {d m : Sv} {rd : Nat} {x y : Sv} {room : Int} {s' : S} (h : Both w w' rb d m rd x y room s') (k : Q w' w2) : Both w w2 rb d m rd x y room s' := by
  obtain ⟨d', m', x', y', h1, h2, h3, h4⟩ := h
  exact ⟨d', m', x', y', h1.q k, h2.trans (Keep.ofQ k), h3, h4⟩
theorem Both.pre {w0 w w' : World} {rb : Nat} {d m : Sv} {rd : Nat} {x y : Sv} {room : Int} {s' : S} (k : Q w0 w) (h : Both w w' rb d m rd x y room s') : Both w0 w' rb d m rd x y room s' := by
  obtain ⟨d', m', x', y', h1, h2, h3, h4⟩ := h
  have := k.size
  exact ⟨d', m', x', y', h1, (Keep.ofQ k).trans h2, fun i hi => or_right (h3 i hi) (fun h => by omega), fun i hi => or_right (h4 i hi) (fun h => by omega)⟩
theorem both_same {w w' : World} {rb : Nat} {d m : Sv} {rd : Nat} {x y : Sv} {room : Int} {s : S} (h : Inv2 w rb d m rd x y room s) (k : Q w w') : Both w w' rb d m rd x y room s :=
  ⟨d, m, x, y, h.q k, Keep.ofQ k, fun i hi => .inl hi, fun i hi => .inl hi⟩
theorem pair_step {w w2 w3 : World} {rb : Nat} {d m d' m' : Sv} {rd : Nat} {x y x' y' : Sv} {room : Int} {s s' : S} (h : Inv2 w rb d m rd x y room s) (k2 : Keep (Fp rb d m) w w2) (b2 : Bf w2 rb d' m' room s') (f2 : ∀ i, Fp rb d' m' i → Fp rb d m i ∨ w.heap.size ≤ i)
    (k3 : Keep (Fp rd x y) w2 w3) (r3 : Rw w3 rd x' y' room s') (f3 : ∀ i, Fp rd x' y' i → Fp rd x y i ∨ w2.heap.size ≤ i) (o : Ok room s') : Both w w3 rb d m rd x y room s' := by
  have z2 := k2.size
  have d2 : ∀ i, Fp rb d' m' i → ¬ Fp rd x y i := fun i hi hF => by
    rcases f2 i hi with hh | hh
    · exact h.ap i hh hF
    · have := h.rw.lt i hF; omega
  refine ⟨d', m', x', y', ⟨b2.keep k3 d2, r3, o, fun i hi hF => ?_⟩, (k2.mono (fun i _ e => .inl e)).trans (k3.mono (fun i _ e => .inr e)), f2, fun i hi => or_right (f3 i hi) (fun h => by omega)⟩
  rcases f3 i hF with hh | hh
  · exact d2 i hi hh
  · have := b2.lt i hi; omega

set_option maxHeartbeats 4000000 in
set_option maxRecDepth 100000 in
theorem rest_any (rb : Nat) (d m : Sv) (rd : Nat) (x y : Sv) (room : Int) (s : S) (w : World) (h : Inv2 w rb d m rd x y room s) (hL : s.ms.length ≤ 4611686018427387904) :
    Calls Try.prog 17 #[.pointer (some ⟨rb, 0, none⟩), .pointer (some ⟨rd, 0, none⟩)] w fun e w' => e = .returned (.bool true) ∧ ∃ k, w' = w.drewN k := by
  have I := hid (fun k => h.q ((Q.refl w).drewN k))
  have B1 := hid (fun k => written_any rb d m room s (w.drewN k) (I.out k).bf h.ok hL)
  have B2 := hid (fun k => (sent_any rb d m room s (w.drewN k) (I.out k).bf).mono (R' := fun e w' => e = .returned (.int .i64 s.sent) ∧ w' = w.drewN k) (by rintro e w' ⟨rfl, rfl⟩; exact ⟨rfl, rfl⟩))
  have B3 := hid (fun k => (base_any rb d m room s (w.drewN k) (I.out k).bf).mono (R' := fun e w' => e = .returned (.int .i64 (bas s)) ∧ w' = w.drewN k) (by rintro e w' ⟨rfl, rfl⟩; exact ⟨rfl, rfl⟩))
  have B4 := hid (fun k => (rbase_any rd x y room s (w.drewN k) (I.out k).rw hL).mono (R' := fun e w' => e = .returned (.int .i64 (bas s)) ∧ w' = w.drewN k) (by rintro e w' ⟨rfl, rfl⟩; exact ⟨rfl, rfl⟩))
  have B5 := hid (fun k => room_any rb d m room s (w.drewN k) (I.out k).bf h.ok)
  have B6 := hid (fun k => rleft_any rd x y room s (w.drewN k) (I.out k).rw h.ok hL)
  have B7 := hid (fun k => (done_any rb d m room s (w.drewN k) (I.out k).bf h.ok).mono (R' := fun e w' => e = .returned (.bool (dnB s)) ∧ w' = w.drewN k) (by rintro e w' ⟨rfl, rfl⟩; exact ⟨rfl, rfl⟩))
  have B8 := hid (fun k => rdone_any rd x y room s (w.drewN k) (I.out k).rw h.ok hL)
  have c1 := h.rw.hd.c1
  have c2 := h.rw.hd.c2
  have hx : x.n = s.ms.length := by rw [← h.rw.rs.sd.len]; exact h.ok.len
  rw [hx] at c2
  generalize room - ((s.ms.length : Int) - (bas s : Int)) = rm at *
  generalize dnB s = dn at *
  generalize s.ms.length = L at *
  generalize bas s = b at *
  generalize s.sent = st at *
  have y1 : ((L : Int) == (L : Int)) = true := by simp
  have y2 : ((st : Int) == (st : Int)) = true := by simp
  have y3 : ((b : Int) == (b : Int)) = true := by simp
  have y4 : (rm == rm) = true := by simp
  have y5 : (dn == dn) = true := by simp
  clear h hL hx I
  go_enter Try.func17, Try.ntmps17
  go_wp2
  go_quiet (first | (go_at_call 12; exact Calls.quiet_of (B1.out _)) | (go_at_call 13; exact Calls.quiet_of_same (B2.out _)) | (go_at_call 14; exact Calls.quiet_of_same (B3.out _)) | (go_at_call 32; exact Calls.quiet_of_same (B4.out _)) | (go_at_call 11; exact Calls.quiet_of (B5.out _)) | (go_at_call 33; exact Calls.quiet_of (B6.out _)) | (go_at_call 15; exact Calls.quiet_of_same (B7.out _)) | (go_at_call 34; exact Calls.quiet_of (B8.out _)))
  go_wp2
  go_ret
  exact ⟨by first | rfl | simp, _, rfl⟩
end Go.Proofs.Ytppemfdoogmeeaa
