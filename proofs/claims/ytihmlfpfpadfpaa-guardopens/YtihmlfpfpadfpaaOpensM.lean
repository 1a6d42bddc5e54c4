/-
  An opener opens every sequence of packets as the document says: numbers, payloads, errors and phases: whatever the secret and the packets.
-/
import Derived.Test.YtihmlfpfpadfpaaRows
import Derived.Test.YtihmlfpfpadfpaaUnp
import Derived.Deep.RegionHeld3
import Derived.Deep.Cut
import Derived.Deep.CutRange
import Derived.Test.YtihmlfpfpadfpaaRUp
import Derived.Test.YtihmlfpfpadfpaaKcp
import Derived.Test.YtihmlfpfpadfpaaBkM
import Derived.Test.YtihmlfpfpadfpaaOpenK
import Derived.Deep.Slices
import Derived.Deep.MidRow
import Derived.OrdersHeld
import Derived.Test.YtihmlfpfpadfpaaAwk
import Derived.Test.YtihmlfpfpadfpaaOpen
import Derived.WalkKit
import Derived.ProofKit
import Derived.OpenShut
import Derived.ShutString
import Derived.ChangeOld
import Derived.Below
import Derived.SizedLaws

/-
  What the phase of a packet, its opening by a secret and an opener's phase are: contracts that the statements' walks use.
-/
namespace Go.Proofs.Ytihmlfpfpadfpaa
open Go.RowKit
set_option linter.unusedVariables false
set_option maxRecDepth 20000

/-- An opener's block. -/
abbrev ocells (h p f : Sv) (ph : Int) : Array Value := #[.slice h.a h.n h.c, .slice p.a p.n p.c, .slice f.a f.n f.c, .int .i64 ph]
def OB (w : World) (g : Nat) (h p f : Sv) (ph : Int) : Prop := w.heap[g]? = some (.cells (ocells h p f ph) 107 (0, 0))
section
variable {w w' : World} {g : Nat} {h p f : Sv} {ph : Int}
theorem OB.q (x : OB w g h p f ph) (q : Q w w') : OB w' g h p f ph := (Below.block q _ (lt_of_block x)).trans x
theorem OB.c0 (x : OB w g h p f ph) : w.cell? ⟨g, 0, none⟩ = some (.slice h.a h.n h.c) := by rw [cell_of_row w g 0 _ 107 (0, 0) x]; rfl
theorem OB.c1 (x : OB w g h p f ph) : w.cell? ⟨g, 1, none⟩ = some (.slice p.a p.n p.c) := by rw [cell_of_row w g 1 _ 107 (0, 0) x]; rfl
theorem OB.c2 (x : OB w g h p f ph) : w.cell? ⟨g, 2, none⟩ = some (.slice f.a f.n f.c) := by rw [cell_of_row w g 2 _ 107 (0, 0) x]; rfl
theorem OB.c3 (x : OB w g h p f ph) : w.cell? ⟨g, 3, none⟩ = some (.int .i64 ph) := by rw [cell_of_row w g 3 _ 107 (0, 0) x]; rfl
end
/-- A packet's phase. -/
def phs (f : Int) : Int := if f / 4 % 2 = 1 then 1 else 0
set_option maxHeartbeats 4000000 in
theorem phase_any (b : Sv) (num : Int) (s : Sv) (zs : List Int) (w : World) (hb : In w b zs) (hn : 0 < b.n) :
    Calls Try.prog 58 #[.agg (bcells b num s)] w fun e w' => e = .returned (.int .i64 (phs (zs.getD 0 0))) ∧ Q w w' := by
  have FL := getD_lt hb.z 0
  have h4 := and4 (zs.getD 0 0) FL.1 FL.2
  have FA := hid (first_any b num s zs (w.alloc (.cells (bcells b num s) 97)) (hb.q ((Q.refl w).alloc _)) hn)
  by_cases hp : zs.getD 0 0 / 4 % 2 = 1
  · rw [show phs (zs.getD 0 0) = 1 from by unfold phs; rw [if_pos hp]]
    rw [show decide (zs.getD 0 0 / 4 % 2 = 1) = true from decide_eq_true hp] at h4
    clear hp FL
    generalize zs.getD 0 0 = y at *
    go_enter Try.func58, Try.ntmps58
    go_wp2_with (go_at_call 53; refine FA.out.mono ?_; rintro e w1 ⟨rfl, q1⟩)
    have Q1 := hid (Q.trans ((Q.refl w).alloc _) q1)
    clear q1
    go_wp2
    go_ret
    exact ⟨rfl, Q1.out⟩
  · rw [show phs (zs.getD 0 0) = 0 from by unfold phs; rw [if_neg hp]]
    rw [show decide (zs.getD 0 0 / 4 % 2 = 1) = false from decide_eq_false hp] at h4
    clear hp FL
    generalize zs.getD 0 0 = y at *
    go_enter Try.func58, Try.ntmps58
    go_wp2_with (go_at_call 53; refine FA.out.mono ?_; rintro e w1 ⟨rfl, q1⟩)
    have Q1 := hid (Q.trans ((Q.refl w).alloc _) q1)
    clear q1
    go_wp2
    go_ret
    exact ⟨rfl, Q1.out⟩
theorem ophase_any (g : Nat) (h p f : Sv) (ph : Int) (w : World) (hb : OB w g h p f ph) :
    Calls Try.prog 28 #[.pointer (some ⟨g, 0, none⟩)] w fun e w' => e = .returned (.int .i64 ph) ∧ w = w' := by
  have c3 := hb.c3
  go_enter Try.func28, Try.ntmps28
  go_wp2
  go_ret
  exact ⟨rfl, rfl⟩
set_option maxHeartbeats 8000000 in
theorem openBy_any (b s t : Sv) (num : Int) (bz sz tz : List Int) (w : World) (hb : In w b bz) (hs : In w s sz) (ht : In w t tz) (lt : t.n = 16) (b0 : 0 < b.n) (b1 : b.n ≤ 16384) (s0 : 16 ≤ s.n) (s1 : s.n ≤ 16400) (sc : s.n ≤ s.c) (n0 : 0 ≤ num) (n1 : num ≤ 4611686018427387903) :
    Calls Try.prog 59 #[.agg (bcells b num s), .slice t.a t.n t.c] w fun e w' => ∃ x : Sv, e = .returned (.tuple #[.slice x.a x.n x.c, .int .i64 (usE (kyL tz) (ivL tz) bz num sz)]) ∧ Q w w' ∧ Row w' x (usR (kyL tz) (ivL tz) bz num sz) := by
  have HB := hid hb
  have HS := hid hs
  have HT := hid ht
  have LT := hid (show tz.length = 16 from by rw [ht.l, lt])
  have E16 := hid (show e16 t.n = 0 from by rw [lt]; rfl)
  clear hb hs ht
  obtain ⟨ba, bn, bc⟩ := b
  obtain ⟨sa, sn, sc'⟩ := s
  obtain ⟨ta, tn, tc⟩ := t
  dsimp only at *
  subst lt
  have B0 := hid b0
  have B1_ := hid b1
  have S0 := hid s0
  have S1 := hid s1
  have SC := hid sc
  have N0 := hid n0
  have N1 := hid n1
  clear b0 b1 s0 s1 sc n0 n1
  go_enter Try.func59, Try.ntmps59
  go_wp2_with fail
  generalize hw1 : World.alloc w _ = w1
  have Q1 := hid (show Q w w1 from by rw [← hw1]; exact (Q.refl w).alloc _)
  have B1 := hid (show BB w1 w.heap.size ⟨ba, bn, bc⟩ num ⟨sa, sn, sc'⟩ from by rw [← hw1]; exact heap_alloc_new w _)
  clear hw1
  generalize w.heap.size = bx at *
  refine (make_any ⟨ta, 16, tc⟩ tz w1 (HT.out.q Q1.out)).mono ?_
  rintro e w2 ⟨⟨ka, kn, kc⟩, ⟨ia, n, ic⟩, ⟨ha, hn, hc⟩, rfl, q2, k2⟩
  rw [E16.out]
  have K2 := hid (show KI w2 ⟨ka, kn, kc⟩ ⟨ia, n, ic⟩ ⟨ha, hn, hc⟩ (kyL tz) (ivL tz) (hpL tz) from by
    have h := k2
    unfold if16 at h
    rw [if_pos LT.out, if_pos LT.out, if_pos LT.out] at h
    exact h)
  have Q2 := hid (Q1.out.trans q2)
  have B2 := hid (B1.out.q q2)
  clear q2 k2 B1 Q1
  go_wp2_with (refine wpList_store_row rfl 30 _ _ rfl w2.heap.size (kcells ⟨ka, kn, kc⟩ ⟨ia, n, ic⟩ ⟨ha, hn, hc⟩) rfl rfl 30 _ (heap_alloc_new w2 _) (kinfo30 _ _ _) rfl (kc_one _ _ _) ?_; refine Hid.out ?_)
  refine hid ?_
  generalize hw3 : World.setRow _ _ _ = w3
  have Q23 := hid (show Q w2 w3 from by
    have k3 : Keep (fun i => i = w2.heap.size) w2 w3 := by rw [← hw3]; exact ((Keep.refl (fun i => i = w2.heap.size) w2).alloc _).setRow _ _ (.inl rfl)
    exact k3.below (Q.refl _) (Nat.le_refl _) (fun i e => by omega))
  have KB3 := hid (show KB w3 w2.heap.size 30 ⟨ka, kn, kc⟩ ⟨ia, n, ic⟩ ⟨ha, hn, hc⟩ from by rw [← hw3]; exact setRow_heap _ _ _ _ 30 _ (heap_alloc_new w2 _))
  clear hw3
  generalize w2.heap.size = gx at *
  have Q3 := hid (Q2.out.trans Q23.out)
  have B3 := hid (B2.out.q Q23.out)
  have K3 := hid (K2.out.q Q23.out)
  have hkn : kn = 16 := by have := K3.out.k.l; rw [show (kyL tz).length = 16 from exL_len _ _ _] at this; exact this.symm
  have hnn : n = 12 := by have := K3.out.i.l; rw [show (ivL tz).length = 12 from exL_len _ _ _] at this; exact this.symm
  subst hkn hnn
  have c0 := B3.out.c0
  have c1 := B3.out.c1
  have c2 := B3.out.c2
  have d0 := KB3.out.c0
  have d1 := KB3.out.c1
  have d2 := KB3.out.c2
  dsimp only at c0 c2 d0 d1 d2
  go_wp2_with fail
  refine (bopen_any ⟨ba, bn, bc⟩ ⟨sa, sn, sc'⟩ ⟨ka, 16, kc⟩ ⟨ia, 12, ic⟩ ⟨ha, hn, hc⟩ num bz sz (kyL tz) (ivL tz) w3 (HB.out.q Q3.out) (HS.out.q Q3.out) K3.out.k K3.out.i rfl rfl B0.out B1_.out S0.out S1.out SC.out N0.out N1.out).mono ?_
  rintro e w4 ⟨⟨xa, xn, xc⟩, rfl, q4, r4⟩
  have Q4 := hid (Q3.out.trans q4)
  have R4 := hid r4
  clear q4 r4 c0 c1 c2 d0 d1 d2
  go_wp2
  go_ret2
  exact ⟨⟨xa, xn, xc⟩, rfl, Q4.out, R4.out⟩
end Go.Proofs.Ytihmlfpfpadfpaa

/-
  What guard's NewOpener does: a contract that the statements' walks use.
-/
namespace Go.Proofs.Ytihmlfpfpadfpaa
open Go.RowKit
set_option linter.unusedVariables false
set_option maxRecDepth 20000

set_option maxHeartbeats 8000000 in
theorem newOpener_no (t : Sv) (tz : List Int) (w : World) (ht : In w t tz) (hn : t.n ≠ 16) :
    Calls Try.prog 25 #[.slice t.a t.n t.c] w fun e w' => e = .returned (.tuple #[.pointer none, .int .i64 70]) ∧ Q w w' := by
  have HT := hid ht
  have E16 := hid (show e16 t.n = 70 from by unfold e16; rw [if_neg hn])
  clear ht
  obtain ⟨ta, tn, tc⟩ := t
  dsimp only at *
  go_enter Try.func25, Try.ntmps25
  go_wp2_with fail
  refine (make_any ⟨ta, tn, tc⟩ tz w HT.out).mono ?_
  rintro e w2 ⟨⟨ka, kn, kc⟩, ⟨ia, n, ic⟩, ⟨ha, hn, hc⟩, rfl, q2, k2⟩
  dsimp only
  rw [E16.out]
  have Q2 := hid q2
  clear q2 k2
  go_wp2_with (refine wpList_store_row rfl 30 _ _ rfl w2.heap.size (kcells ⟨ka, kn, kc⟩ ⟨ia, n, ic⟩ ⟨ha, hn, hc⟩) rfl rfl 30 _ (heap_alloc_new w2 _) (kinfo30 _ _ _) rfl (kc_one _ _ _) ?_; refine Hid.out ?_)
  refine hid ?_
  generalize hw3 : World.setRow _ _ _ = w3
  have Q23 := hid (show Q w2 w3 from by
    have k3 : Keep (fun i => i = w2.heap.size) w2 w3 := by rw [← hw3]; exact ((Keep.refl (fun i => i = w2.heap.size) w2).alloc _).setRow _ _ (.inl rfl)
    exact k3.below (Q.refl _) (Nat.le_refl _) (fun i e => by omega))
  clear hw3
  go_wp2
  go_ret2
  exact ⟨rfl, Q2.out.trans Q23.out⟩
set_option maxHeartbeats 8000000 in
theorem newOpener_ok (t : Sv) (tz : List Int) (w : World) (ht : In w t tz) (hn : t.n = 16) :
    Calls Try.prog 25 #[.slice t.a t.n t.c] w fun e w' => ∃ (g : Nat) (h p : Sv), e = .returned (.tuple #[.pointer (some ⟨g, 0, none⟩), .int .i64 0]) ∧ Q w w' ∧ OB w' g h p nilS 0 ∧ In w' h (hpL tz) ∧ In w' p tz ∧ w.heap.size ≤ g := by
  have HT := hid ht
  have LT := hid (show tz.length = 16 from by rw [ht.l, hn])
  clear ht
  obtain ⟨ta, tn, tc⟩ := t
  dsimp only at *
  subst hn
  go_enter Try.func25, Try.ntmps25
  go_wp2_with fail
  refine (make_any ⟨ta, 16, tc⟩ tz w HT.out).mono ?_
  rintro e w2 ⟨⟨ka, kn, kc⟩, ⟨ia, n, ic⟩, ⟨ha, hn, hc⟩, rfl, q2, k2⟩
  dsimp only
  rw [show e16 16 = 0 from rfl]
  have K2 := hid (show KI w2 ⟨ka, kn, kc⟩ ⟨ia, n, ic⟩ ⟨ha, hn, hc⟩ (kyL tz) (ivL tz) (hpL tz) from by
    have h := k2
    unfold if16 at h
    rw [if_pos LT.out, if_pos LT.out, if_pos LT.out] at h
    exact h)
  have Q2 := hid q2
  clear q2 k2
  go_wp2_with (refine wpList_store_row rfl 30 _ _ rfl w2.heap.size (kcells ⟨ka, kn, kc⟩ ⟨ia, n, ic⟩ ⟨ha, hn, hc⟩) rfl rfl 30 _ (heap_alloc_new w2 _) (kinfo30 _ _ _) rfl (kc_one _ _ _) ?_; refine Hid.out ?_)
  refine hid ?_
  generalize hw3 : World.setRow _ _ _ = w3
  have Q23 := hid (show Q w2 w3 from by
    have k3 : Keep (fun i => i = w2.heap.size) w2 w3 := by rw [← hw3]; exact ((Keep.refl (fun i => i = w2.heap.size) w2).alloc _).setRow _ _ (.inl rfl)
    exact k3.below (Q.refl _) (Nat.le_refl _) (fun i e => by omega))
  have KB3 := hid (show KB w3 w2.heap.size 30 ⟨ka, kn, kc⟩ ⟨ia, n, ic⟩ ⟨ha, hn, hc⟩ from by rw [← hw3]; exact setRow_heap _ _ _ _ 30 _ (heap_alloc_new w2 _))
  clear hw3
  generalize w2.heap.size = gx at *
  have Q3 := hid (Q2.out.trans Q23.out)
  have K3 := hid (K2.out.q Q23.out)
  have c2 := KB3.out.c2
  dsimp only at c2
  have CL := hid (fun u (hu : Q w3 u) => clone_any ⟨ta, 16, tc⟩ tz u ((HT.out.q Q3.out).q hu) (by show 16 ≤ _; omega))
  have s1 : Q w3 w3 := Q.refl _
  go_wp2
  go_region_held3 (fun u => Q w3 u ∧ u.cell? ⟨gx, 2, none⟩ = some (.slice ha hn hc)) (repeat (first | (with_reducible assumption) | (with_reducible apply Q.drew) | (with_reducible apply Q.drewN) | (with_reducible apply Q.alloc) | (with_reducible refine dcel ?_) | (with_reducible refine dcelN ?_) | (with_reducible refine acel ?_) | (with_reducible apply And.intro)))
    (first
      | (go_at_call 57; refine (CL.out _ (by repeat (first | (with_reducible assumption) | (with_reducible exact Q.refl _) | (with_reducible apply Q.drew) | (with_reducible apply Q.drewN) | (with_reducible apply Q.alloc)))).mono ?_; rintro e w4 ⟨⟨ya, yn, yc⟩, rfl, q4, r4, n4⟩; have j4 : Q w3 w4 := Q.trans (by repeat (first | (with_reducible assumption) | (with_reducible exact Q.refl _) | (with_reducible apply Q.drew) | (with_reducible apply Q.drewN) | (with_reducible apply Q.alloc))) q4; have e2 := (KB3.out.q j4).c2; dsimp only at e2))
  have R4 := hid (row_in r4 HT.out.z)
  have J4 := hid j4
  have I4 := hid (K3.out.h.q j4)
  clear r4 n4 q4 j4 e2 c2 s1
  go_wp2
  go_ret2
  exact ⟨w4.heap.size, ⟨ha, hn, hc⟩, ⟨ya, yn, yc⟩, rfl, (Q3.out.trans J4.out).alloc _, heap_alloc_new w4 _, I4.out.q ((Q.refl _).alloc _), R4.out.q ((Q.refl _).alloc _), (Q3.out.trans J4.out).size⟩
end Go.Proofs.Ytihmlfpfpadfpaa

/-
  What an opener does with a packet of the other phase: a contract that the statements' walks use.
-/
namespace Go.Proofs.Ytihmlfpfpadfpaa
open Go.RowKit
set_option linter.unusedVariables false
set_option maxRecDepth 20000

theorem ne_nil (n c : Nat) (w : World) : (binOp .neq 22 (.slice none n c) (.slice none 0 0)).run Try.prog w = .ok (.bool false) w := by kernel_rfl
theorem ne_some (ad : Addr) (n c : Nat) (w : World) : (binOp .neq 22 (.slice (some ad) n c) (.slice none 0 0)).run Try.prog w = .ok (.bool true) w := by kernel_rfl
attribute [local go_sem] ne_nil ne_some
theorem OB.sets {w : World} {g : Nat} {h p f : Sv} {ph : Int} (x : OB w g h p f ph) (p' f' : Sv) (ph' : Int) : OB (((w.setCell ⟨g, 1, none⟩ (.slice p'.a p'.n p'.c)).setCell ⟨g, 2, none⟩ (.slice f'.a f'.n f'.c)).setCell ⟨g, 3, none⟩ (.int .i64 ph')) g h p' f' ph' := by
  have h1 : OB (w.setCell ⟨g, 1, none⟩ (.slice p'.a p'.n p'.c)) g h p' f ph := by
    have := heap_setCell_same w g 1 _ 107 (.slice p'.a p'.n p'.c) x
    simpa [OB] using this
  have h2 : OB ((w.setCell ⟨g, 1, none⟩ (.slice p'.a p'.n p'.c)).setCell ⟨g, 2, none⟩ (.slice f'.a f'.n f'.c)) g h p' f' ph := by
    have := heap_setCell_same _ g 2 _ 107 (.slice f'.a f'.n f'.c) h1
    simpa [OB] using this
  have := heap_setCell_same _ g 3 _ 107 (.int .i64 ph') h2
  simpa [OB] using this
theorem oscel {u : World} {b0 i b j : Nat} {v y : Value} (h : u.cell? ⟨b0, i, none⟩ = some v) (hne : b0 ≠ b) : (u.setCell ⟨b, j, none⟩ y).cell? ⟨b0, i, none⟩ = some v := by
  have k : Keep (fun i => i = b) u (u.setCell ⟨b, j, none⟩ y) := (Keep.refl (fun i => i = b) u).setCell _ _ _ (.inl rfl)
  exact k.cell h hne
/-- Bytes lie in no opener's block. -/
theorem in_keepO {u v : World} {g : Nat} {h p f x : Sv} {ph : Int} {zs : List Int} (hx : In u x zs) (ho : OB u g h p f ph) (k : Keep (fun i => i = g) u v) : In v x zs := by
  by_cases hz : zs = []
  · subst hz; exact ⟨seg_nil _ _, hx.l, hx.z⟩
  · refine ⟨hx.s.keep k ?_, hx.l, hx.z⟩
    rintro b e rfl
    obtain ⟨b2, o2, e2, hc⟩ := hx.s hz
    rw [e2] at e
    simp [blk] at e
    subst e
    have h0 := hc 0 (List.length_pos_iff.2 hz)
    rw [Nat.add_zero, cell_of_row u b2 o2 _ 107 (0, 0) ho] at h0
    rcases (show o2 = 0 ∨ o2 = 1 ∨ o2 = 2 ∨ o2 = 3 ∨ 4 ≤ o2 by omega) with rfl | rfl | rfl | rfl | h4
    · simp at h0
    · simp at h0
    · simp at h0
    · simp at h0
    · rw [Array.getElem?_eq_none (by show 4 ≤ o2; exact h4)] at h0
      cases h0
/-- An opener in memory: its first Hp, the present secret, the former one. -/
structure OpI (w : World) (g : Nat) (h p f : Sv) (ph : Int) (hz tz : List Int) (fz : Option (List Int)) : Prop where
  o : OB w g h p f ph
  ih : In w h hz
  ip : In w p tz
  pn : p.n = 16
  fo : match fz with | none => f = nilS | some z => In w f z ∧ f.n = 16
theorem OpI.q {w w' : World} {g : Nat} {h p f : Sv} {ph : Int} {hz tz : List Int} {fz : Option (List Int)} (x : OpI w g h p f ph hz tz fz) (q : Q w w') : OpI w' g h p f ph hz tz fz :=
  ⟨x.o.q q, x.ih.q q, x.ip.q q, x.pn, by cases fz with | none => exact x.fo | some z => exact ⟨x.fo.1.q q, x.fo.2⟩⟩
set_option maxHeartbeats 8000000 in
/-- The next secret opens the packet: it becomes the present one. -/
theorem other_turn (g : Nat) (h p f b s : Sv) (ph num : Int) (hz tz : List Int) (fz : Option (List Int)) (bz sz : List Int) (w : World) (ho : OpI w g h p f ph hz tz fz) (hb : In w b bz) (hs : In w s sz) (b0 : 0 < b.n) (b1 : b.n ≤ 16384) (s0 : 16 ≤ s.n) (s1 : s.n ≤ 16400) (sc : s.n ≤ s.c) (n0 : 0 ≤ num) (n1 : num ≤ 4611686018427387903)
    (hE : usE (kyL (kuL tz)) (ivL (kuL tz)) bz num sz = 0) :
    Calls Try.prog 60 #[.pointer (some ⟨g, 0, none⟩), .agg (bcells b num s)] w fun e w' => ∃ x p' : Sv, e = .returned (.tuple #[.slice x.a x.n x.c, .int .i64 0]) ∧ Keep (fun i => i = g) w w' ∧ Row w' x (usR (kyL (kuL tz)) (ivL (kuL tz)) bz num sz) ∧ OpI w' g h p' p (phs (bz.getD 0 0)) hz (kuL tz) (some tz) := by
  have HO := hid ho
  have HB := hid hb
  have HS := hid hs
  have HE := hid hE
  have PN := hid ho.pn
  have B0 := hid b0
  have B1_ := hid b1
  have S0 := hid s0
  have S1 := hid s1
  have SC := hid sc
  have N0 := hid n0
  have N1 := hid n1
  have LT := hid (show tz.length = 16 from by rw [ho.ip.l, ho.pn])
  clear ho hb hs hE b0 b1 s0 s1 sc n0 n1
  obtain ⟨ba, bn, bc⟩ := b
  obtain ⟨sa, sn, sc'⟩ := s
  obtain ⟨ha, hn, hc⟩ := h
  obtain ⟨pa, pn, pc⟩ := p
  obtain ⟨fa, fn, fc⟩ := f
  dsimp only at *
  obtain rfl := PN.out
  have c1a := acel (o := .cells (bcells ⟨ba, bn, bc⟩ num ⟨sa, sn, sc'⟩) 97) HO.out.o.c1
  dsimp only at c1a
  go_enter Try.func60, Try.ntmps60
  go_wp2_with fail
  generalize hw1 : World.alloc w _ = w1 at *
  have Q1 := hid (show Q w w1 from by rw [← hw1]; exact (Q.refl w).alloc _)
  have B1 := hid (show BB w1 w.heap.size ⟨ba, bn, bc⟩ num ⟨sa, sn, sc'⟩ from by rw [← hw1]; exact heap_alloc_new w _)
  clear hw1 c1a
  have GL := hid (show g < w.heap.size from lt_of_block HO.out.o)
  generalize hbx : w.heap.size = bx at *
  have HBX := hid hbx
  clear hbx
  refine (next_any ⟨pa, 16, pc⟩ tz w1 (HO.out.ip.q Q1.out) (by show 16 ≤ _; omega)).mono ?_
  rintro e w2 ⟨⟨na, nn, nc⟩, rfl, q2, r2⟩
  dsimp only
  rw [if_pos rfl]
  have R2 := hid (show Row w2 ⟨na, nn, nc⟩ (kuL tz) from by have h := r2; rw [if_pos rfl] at h; exact h)
  have I2 := hid (row_in R2.out (exL_lt _ _ _))
  have NN := hid (show nn = 16 from by have h := Row.len R2.out; rw [show (kuL tz).length = 16 from exL_len _ _ _] at h; exact h.symm)
  obtain rfl := NN.out
  have Q2 := hid (Q1.out.trans q2)
  have B2 := hid (B1.out.q q2)
  clear q2 r2 B1 Q1 NN
  have d0 := B2.out.c0
  have d1 := B2.out.c1
  have d2 := B2.out.c2
  dsimp only at d0 d2
  go_wp2_with fail
  refine (openBy_any ⟨ba, bn, bc⟩ ⟨sa, sn, sc'⟩ ⟨na, 16, nc⟩ num bz sz (kuL tz) w2 (HB.out.q Q2.out) (HS.out.q Q2.out) I2.out rfl B0.out B1_.out S0.out S1.out SC.out N0.out N1.out).mono ?_
  rw [HE.out]
  rintro e w3 ⟨⟨xa, xn, xc⟩, rfl, q3, r3⟩
  have Q3 := hid (Q2.out.trans q3)
  have B3 := hid (B2.out.q q3)
  have O3 := hid (HO.out.q Q3.out)
  have I3 := hid (I2.out.q q3)
  have RN3 := hid (R2.out.q q3)
  have R3 := hid r3
  clear q3 r3 d0 d1 d2 B2 Q2 I2 R2
  have d0 := B3.out.c0
  have d1 := B3.out.c1
  have d2 := B3.out.c2
  dsimp only at d0 d2
  have c1 := O3.out.o.c1
  have c2 := O3.out.o.c2
  have c3 := O3.out.o.c3
  dsimp only at c1 c2
  have f1' : w3.frozen? ⟨g, 1, none⟩ = false := frozen_of_row w3 g 1 _ 107 O3.out.o
  have f2' : w3.frozen? ⟨g, 2, none⟩ = false := frozen_of_row w3 g 2 _ 107 O3.out.o
  have f3' : w3.frozen? ⟨g, 3, none⟩ = false := frozen_of_row w3 g 3 _ 107 O3.out.o
  have PA := hid (fun u (hu : Q w3 u) => phase_any ⟨ba, bn, bc⟩ num ⟨sa, sn, sc'⟩ bz u ((HB.out.q Q3.out).q hu) B0.out)
  generalize hpp : phs (bz.getD 0 0) = pp at *
  have HPP := hid hpp
  clear hpp
  have hgb : bx ≠ g := by have := GL.out; omega
  have k0 : Keep (fun i => i = g) w3 w3 := Keep.refl _ _
  have s1 : Q w3 w3 := Q.refl _
  go_wp2
  go_region_with (go_at_call 58; refine (PA.out _ (by repeat (first | (with_reducible assumption) | (with_reducible exact Q.refl _) | (with_reducible apply Q.drew) | (with_reducible apply Q.drewN) | (with_reducible apply Q.alloc)))).mono ?_; rintro e w4 ⟨rfl, q4⟩; have j4 : Q w3 w4 := Q.trans (by repeat (first | (with_reducible assumption) | (with_reducible exact Q.refl _) | (with_reducible apply Q.drew) | (with_reducible apply Q.drewN) | (with_reducible apply Q.alloc))) q4; have k4 : Keep (fun i => i = g) w3 w4 := Keep.ofQ j4; have b4 := B3.out.q j4; have g0 := b4.c0; have g1 := b4.c1; have g2 := b4.c2; have o4 := O3.out.o.q j4; have e1 := o4.c1; have e2 := o4.c2; have e3 := o4.c3; have y1 : w4.frozen? ⟨g, 1, none⟩ = false := frozen_of_row w4 g 1 _ 107 o4; have y2 : w4.frozen? ⟨g, 2, none⟩ = false := frozen_of_row w4 g 2 _ 107 o4; have y3 : w4.frozen? ⟨g, 3, none⟩ = false := frozen_of_row w4 g 3 _ 107 o4; dsimp only at g0 g2 e1 e2)
  all_goals (
    have BF0 := hid (OB.sets o4 ⟨na, 16, nc⟩ ⟨pa, 16, pc⟩ pp)
    have KF0 := hid ((((Keep.refl (fun i => i = g) w4).setCell g 1 (.slice na 16 nc) (.inl rfl)).setCell g 2 (.slice pa 16 pc) (.inl rfl)).setCell g 3 (.int .i64 pp) (.inl rfl))
    have O4 := hid o4
    have J4 := hid j4
    dsimp only at BF0
    clear q4 j4 k4 b4 g0 g1 g2 o4 e1 e2 e3 y1 y2 y3 d0 d1 d2 c1 c2 c3 f1' f2' f3' k0 s1 PA
    go_wp2
    generalize World.setCell (World.setCell (World.setCell w4 _ _) _ _) _ _ = wf at *
    go_ret2
    refine ⟨⟨xa, xn, xc⟩, ⟨na, 16, nc⟩, rfl, ?_, ?_, ?_, ?_, ?_, rfl, ?_, rfl⟩
    · first
        | exact ((Keep.ofQ (Q3.out.trans J4.out)).trans KF0.out)
        | exact ((Keep.ofQ (Q3.out.trans J4.out)).trans KF0.out).drew
    · first
        | exact row_keep (R3.out.q J4.out) O4.out (by decide) KF0.out
        | exact (row_keep (R3.out.q J4.out) O4.out (by decide) KF0.out).q ((Q.refl _).drew)
    · rw [HPP.out]
      first
        | exact BF0.out
        | exact BF0.out.q ((Q.refl _).drew)
    · first
        | exact in_keepO (O3.out.ih.q J4.out) O4.out KF0.out
        | exact (in_keepO (O3.out.ih.q J4.out) O4.out KF0.out).q ((Q.refl _).drew)
    · first
        | exact in_keepO (I3.out.q J4.out) O4.out KF0.out
        | exact (in_keepO (I3.out.q J4.out) O4.out KF0.out).q ((Q.refl _).drew)
    · first
        | exact in_keepO (O3.out.ip.q J4.out) O4.out KF0.out
        | exact (in_keepO (O3.out.ip.q J4.out) O4.out KF0.out).q ((Q.refl _).drew))
end Go.Proofs.Ytihmlfpfpadfpaa

/-
  What an opener does with a packet of the other phase that the next secret does not open: contracts that the statements' walks use.
-/
namespace Go.Proofs.Ytihmlfpfpadfpaa
open Go.RowKit
set_option linter.unusedVariables false
set_option maxRecDepth 20000

attribute [local go_sem] ne_nil ne_some
set_option maxHeartbeats 8000000 in
theorem other_no (g : Nat) (h p f b s : Sv) (ph num : Int) (hz tz : List Int) (fz : Option (List Int)) (bz sz : List Int) (w : World) (ho : OpI w g h p f ph hz tz fz) (hb : In w b bz) (hs : In w s sz) (b0 : 0 < b.n) (b1 : b.n ≤ 16384) (s0 : 16 ≤ s.n) (s1 : s.n ≤ 16400) (sc : s.n ≤ s.c) (n0 : 0 ≤ num) (n1 : num ≤ 4611686018427387903)
    (hE : usE (kyL (kuL tz)) (ivL (kuL tz)) bz num sz ≠ 0) (hF : usE (kyL (kuL tz)) (ivL (kuL tz)) bz num sz ≠ 71 ∨ fz = none) :
    Calls Try.prog 60 #[.pointer (some ⟨g, 0, none⟩), .agg (bcells b num s)] w fun e w' => ∃ x : Sv, e = .returned (.tuple #[.slice x.a x.n x.c, .int .i64 (usE (kyL (kuL tz)) (ivL (kuL tz)) bz num sz)]) ∧ Q w w' ∧ Row w' x (usR (kyL (kuL tz)) (ivL (kuL tz)) bz num sz) := by
  have HNE := hid hE
  have HNF := hid hF
  clear hE hF
  have HO := hid ho
  have HB := hid hb
  have HS := hid hs
  have PN := hid ho.pn
  have B0 := hid b0
  have B1_ := hid b1
  have S0 := hid s0
  have S1 := hid s1
  have SC := hid sc
  have N0 := hid n0
  have N1 := hid n1
  have LT := hid (show tz.length = 16 from by rw [ho.ip.l, ho.pn])
  clear ho hb hs b0 b1 s0 s1 sc n0 n1
  obtain ⟨ba, bn, bc⟩ := b
  obtain ⟨sa, sn, sc'⟩ := s
  obtain ⟨ha, hn, hc⟩ := h
  obtain ⟨pa, pn, pc⟩ := p
  obtain ⟨fa, fn, fc⟩ := f
  dsimp only at *
  obtain rfl := PN.out
  have c1a := acel (o := .cells (bcells ⟨ba, bn, bc⟩ num ⟨sa, sn, sc'⟩) 97) HO.out.o.c1
  dsimp only at c1a
  go_enter Try.func60, Try.ntmps60
  go_wp2_with fail
  generalize hw1 : World.alloc w _ = w1 at *
  have Q1 := hid (show Q w w1 from by rw [← hw1]; exact (Q.refl w).alloc _)
  have B1 := hid (show BB w1 w.heap.size ⟨ba, bn, bc⟩ num ⟨sa, sn, sc'⟩ from by rw [← hw1]; exact heap_alloc_new w _)
  clear hw1 c1a
  have GL := hid (show g < w.heap.size from lt_of_block HO.out.o)
  generalize hbx : w.heap.size = bx at *
  have HBX := hid hbx
  clear hbx
  refine (next_any ⟨pa, 16, pc⟩ tz w1 (HO.out.ip.q Q1.out) (by show 16 ≤ _; omega)).mono ?_
  rintro e w2 ⟨⟨na, nn, nc⟩, rfl, q2, r2⟩
  dsimp only
  rw [if_pos rfl]
  have R2 := hid (show Row w2 ⟨na, nn, nc⟩ (kuL tz) from by have h := r2; rw [if_pos rfl] at h; exact h)
  have I2 := hid (row_in R2.out (exL_lt _ _ _))
  have NN := hid (show nn = 16 from by have h := Row.len R2.out; rw [show (kuL tz).length = 16 from exL_len _ _ _] at h; exact h.symm)
  obtain rfl := NN.out
  have Q2 := hid (Q1.out.trans q2)
  have B2 := hid (B1.out.q q2)
  clear q2 r2 B1 Q1 NN
  have d0 := B2.out.c0
  have d1 := B2.out.c1
  have d2 := B2.out.c2
  dsimp only at d0 d2
  go_wp2_with fail
  refine (openBy_any ⟨ba, bn, bc⟩ ⟨sa, sn, sc'⟩ ⟨na, 16, nc⟩ num bz sz (kuL tz) w2 (HB.out.q Q2.out) (HS.out.q Q2.out) I2.out rfl B0.out B1_.out S0.out S1.out SC.out N0.out N1.out).mono ?_
  rintro e w3 ⟨⟨xa, xn, xc⟩, rfl, q3, r3⟩
  have Q3 := hid (Q2.out.trans q3)
  have B3 := hid (B2.out.q q3)
  have O3 := hid (HO.out.q Q3.out)
  have I3 := hid (I2.out.q q3)
  have RN3 := hid (R2.out.q q3)
  have R3 := hid r3
  clear q3 r3 d0 d1 d2 B2 Q2 I2 R2
  have c2 := O3.out.o.c2
  dsimp only at c2
  have FO := hid HO.out.fo
  generalize hEg : usE (kyL (kuL tz)) (ivL (kuL tz)) bz num sz = E at *
  have HEG := hid hEg
  clear hEg
  have hE0 : (E == 0) = false := by have := HNE.out; simp [this]
  have hE0' : ¬ E = 0 := HNE.out
  by_cases h71 : E = 71
  · have hfz : fz = none := by rcases HNF.out with h | h; exact absurd h71 h; exact h
    subst hfz
    have hf := FO.out
    simp only [nilS, Sv.mk.injEq] at hf
    obtain ⟨rfl, rfl, rfl⟩ := hf
    subst h71
    go_wp2
    go_ret2
    exact ⟨⟨xa, xn, xc⟩, by rw [HEG.out]; rfl, Q3.out, R3.out⟩
  · have h71b : (E == 71) = false := by simp [h71]
    go_wp2
    go_ret2
    exact ⟨⟨xa, xn, xc⟩, by rw [HEG.out]; rfl, Q3.out, R3.out⟩
set_option maxHeartbeats 8000000 in
theorem other_former (g : Nat) (h p f b s : Sv) (ph num : Int) (hz tz : List Int) (fl : List Int) (bz sz : List Int) (w : World) (ho : OpI w g h p f ph hz tz (some fl)) (hb : In w b bz) (hs : In w s sz) (b0 : 0 < b.n) (b1 : b.n ≤ 16384) (s0 : 16 ≤ s.n) (s1 : s.n ≤ 16400) (sc : s.n ≤ s.c) (n0 : 0 ≤ num) (n1 : num ≤ 4611686018427387903)
    (hE : usE (kyL (kuL tz)) (ivL (kuL tz)) bz num sz = 71) :
    Calls Try.prog 60 #[.pointer (some ⟨g, 0, none⟩), .agg (bcells b num s)] w fun e w' => ∃ x : Sv, e = .returned (.tuple #[.slice x.a x.n x.c, .int .i64 (usE (kyL fl) (ivL fl) bz num sz)]) ∧ Q w w' ∧ Row w' x (usR (kyL fl) (ivL fl) bz num sz) := by
  have HE := hid hE
  clear hE
  have HO := hid ho
  have HB := hid hb
  have HS := hid hs
  have PN := hid ho.pn
  have B0 := hid b0
  have B1_ := hid b1
  have S0 := hid s0
  have S1 := hid s1
  have SC := hid sc
  have N0 := hid n0
  have N1 := hid n1
  have LT := hid (show tz.length = 16 from by rw [ho.ip.l, ho.pn])
  clear ho hb hs b0 b1 s0 s1 sc n0 n1
  obtain ⟨ba, bn, bc⟩ := b
  obtain ⟨sa, sn, sc'⟩ := s
  obtain ⟨ha, hn, hc⟩ := h
  obtain ⟨pa, pn, pc⟩ := p
  obtain ⟨fa, fn, fc⟩ := f
  dsimp only at *
  obtain rfl := PN.out
  have c1a := acel (o := .cells (bcells ⟨ba, bn, bc⟩ num ⟨sa, sn, sc'⟩) 97) HO.out.o.c1
  dsimp only at c1a
  go_enter Try.func60, Try.ntmps60
  go_wp2_with fail
  generalize hw1 : World.alloc w _ = w1 at *
  have Q1 := hid (show Q w w1 from by rw [← hw1]; exact (Q.refl w).alloc _)
  have B1 := hid (show BB w1 w.heap.size ⟨ba, bn, bc⟩ num ⟨sa, sn, sc'⟩ from by rw [← hw1]; exact heap_alloc_new w _)
  clear hw1 c1a
  have GL := hid (show g < w.heap.size from lt_of_block HO.out.o)
  generalize hbx : w.heap.size = bx at *
  have HBX := hid hbx
  clear hbx
  refine (next_any ⟨pa, 16, pc⟩ tz w1 (HO.out.ip.q Q1.out) (by show 16 ≤ _; omega)).mono ?_
  rintro e w2 ⟨⟨na, nn, nc⟩, rfl, q2, r2⟩
  dsimp only
  rw [if_pos rfl]
  have R2 := hid (show Row w2 ⟨na, nn, nc⟩ (kuL tz) from by have h := r2; rw [if_pos rfl] at h; exact h)
  have I2 := hid (row_in R2.out (exL_lt _ _ _))
  have NN := hid (show nn = 16 from by have h := Row.len R2.out; rw [show (kuL tz).length = 16 from exL_len _ _ _] at h; exact h.symm)
  obtain rfl := NN.out
  have Q2 := hid (Q1.out.trans q2)
  have B2 := hid (B1.out.q q2)
  clear q2 r2 B1 Q1 NN
  have d0 := B2.out.c0
  have d1 := B2.out.c1
  have d2 := B2.out.c2
  dsimp only at d0 d2
  go_wp2_with fail
  refine (openBy_any ⟨ba, bn, bc⟩ ⟨sa, sn, sc'⟩ ⟨na, 16, nc⟩ num bz sz (kuL tz) w2 (HB.out.q Q2.out) (HS.out.q Q2.out) I2.out rfl B0.out B1_.out S0.out S1.out SC.out N0.out N1.out).mono ?_
  rw [HE.out]
  rintro e w3 ⟨⟨xa, xn, xc⟩, rfl, q3, r3⟩
  have Q3 := hid (Q2.out.trans q3)
  have B3 := hid (B2.out.q q3)
  have O3 := hid (HO.out.q Q3.out)
  have I3 := hid (I2.out.q q3)
  have RN3 := hid (R2.out.q q3)
  have R3 := hid r3
  clear q3 r3 d0 d1 d2 B2 Q2 I2 R2
  have FO := hid O3.out.fo
  have FN := hid (show fn = 16 from O3.out.fo.2)
  obtain rfl := FN.out
  obtain ⟨fg, fo_, hfe, _⟩ := in_cell FO.out.1 (j := 0) (by show 0 < 16; omega)
  dsimp only at hfe
  subst hfe
  have d0 := B3.out.c0
  have d1 := B3.out.c1
  have d2 := B3.out.c2
  have c2 := O3.out.o.c2
  dsimp only at d0 d2 c2
  have CB := hid (fun u (hu : Q w3 u) => openBy_any ⟨ba, bn, bc⟩ ⟨sa, sn, sc'⟩ ⟨some ⟨fg, fo_, none⟩, 16, fc⟩ num bz sz fl u ((HB.out.q Q3.out).q hu) ((HS.out.q Q3.out).q hu) (FO.out.1.q hu) rfl B0.out B1_.out S0.out S1.out SC.out N0.out N1.out)
  have s1 : Q w3 w3 := Q.refl _
  go_wp2
  go_region_held3 (fun u => Q w3 u ∧ u.cell? ⟨bx, 0, none⟩ = some (.slice ba bn bc) ∧ u.cell? ⟨bx, 1, none⟩ = some (.int .i64 num) ∧ u.cell? ⟨bx, 2, none⟩ = some (.slice sa sn sc') ∧ u.cell? ⟨g, 2, none⟩ = some (.slice (some ⟨fg, fo_, none⟩) 16 fc)) (repeat (first | (with_reducible assumption) | (with_reducible apply Q.drew) | (with_reducible apply Q.drewN) | (with_reducible refine dcel ?_) | (with_reducible refine dcelN ?_) | (with_reducible apply And.intro)))
    (first
      | (go_at_call 59; refine (CB.out _ (by repeat (first | (with_reducible assumption) | (with_reducible exact Q.refl _) | (with_reducible apply Q.drew) | (with_reducible apply Q.drewN) | (with_reducible apply Q.alloc)))).mono ?_; rintro e w4 ⟨⟨za, zn, zc⟩, rfl, q4, r4⟩; have j4 : Q w3 w4 := Q.trans (by repeat (first | (with_reducible assumption) | (with_reducible exact Q.refl _) | (with_reducible apply Q.drew) | (with_reducible apply Q.drewN) | (with_reducible apply Q.alloc))) q4; have b4 := B3.out.q j4; have g0 := b4.c0; have g1 := b4.c1; have g2 := b4.c2; have e2 := (O3.out.o.q j4).c2; dsimp only at g0 g2 e2))
  all_goals (
    have J4 := hid j4
    have R4 := hid r4
    clear r4 q4 j4 b4 g0 g1 g2 e2 d0 d1 d2 c2 s1 CB
    go_wp2
    go_ret2
    exact ⟨⟨za, zn, zc⟩, rfl, Q3.out.trans J4.out, R4.out⟩)
end Go.Proofs.Ytihmlfpfpadfpaa

/-
  What an opener does with a packet of the other phase, in one contract that the statements' walks use.
-/
namespace Go.Proofs.Ytihmlfpfpadfpaa
open Go.RowKit
set_option linter.unusedVariables false
set_option maxRecDepth 20000

/-- What the next secret tells; the answer; the opener behind it. -/
def nxE (tz bz : List Int) (num : Int) (sz : List Int) : Int := usE (kyL (kuL tz)) (ivL (kuL tz)) bz num sz
def ooE (tz : List Int) (fz : Option (List Int)) (bz : List Int) (num : Int) (sz : List Int) : Int :=
  if nxE tz bz num sz = 71 then (match fz with | none => 71 | some z => usE (kyL z) (ivL z) bz num sz) else nxE tz bz num sz
def ooR (tz : List Int) (fz : Option (List Int)) (bz : List Int) (num : Int) (sz : List Int) : List Int :=
  if nxE tz bz num sz = 71 then (match fz with | none => [] | some z => usR (kyL z) (ivL z) bz num sz) else usR (kyL (kuL tz)) (ivL (kuL tz)) bz num sz
def ooT (tz bz : List Int) (num : Int) (sz : List Int) : List Int := if nxE tz bz num sz = 0 then kuL tz else tz
def ooF (tz : List Int) (fz : Option (List Int)) (bz : List Int) (num : Int) (sz : List Int) : Option (List Int) := if nxE tz bz num sz = 0 then some tz else fz
def ooP (ph : Int) (tz bz : List Int) (num : Int) (sz : List Int) : Int := if nxE tz bz num sz = 0 then phs (bz.getD 0 0) else ph
theorem other_any (g : Nat) (h p f b s : Sv) (ph num : Int) (hz tz : List Int) (fz : Option (List Int)) (bz sz : List Int) (w : World) (ho : OpI w g h p f ph hz tz fz) (hb : In w b bz) (hs : In w s sz) (b0 : 0 < b.n) (b1 : b.n ≤ 16384) (s0 : 16 ≤ s.n) (s1 : s.n ≤ 16400) (sc : s.n ≤ s.c) (n0 : 0 ≤ num) (n1 : num ≤ 4611686018427387903) :
    Calls Try.prog 60 #[.pointer (some ⟨g, 0, none⟩), .agg (bcells b num s)] w fun e w' => ∃ x p' f' : Sv, e = .returned (.tuple #[.slice x.a x.n x.c, .int .i64 (ooE tz fz bz num sz)]) ∧ Keep (fun i => i = g) w w' ∧ Row w' x (ooR tz fz bz num sz) ∧ OpI w' g h p' f' (ooP ph tz bz num sz) hz (ooT tz bz num sz) (ooF tz fz bz num sz) := by
  by_cases h0 : nxE tz bz num sz = 0
  · refine (other_turn g h p f b s ph num hz tz fz bz sz w ho hb hs b0 b1 s0 s1 sc n0 n1 h0).mono ?_
    rintro e w' ⟨x, p', rfl, k, r, o⟩
    have h71 : ¬ nxE tz bz num sz = 71 := by omega
    refine ⟨x, p', p, ?_, k, ?_, ?_⟩
    · unfold ooE; rw [if_neg h71, h0]
    · unfold ooR; rw [if_neg h71]; exact r
    · unfold ooP ooT ooF; rw [if_pos h0, if_pos h0, if_pos h0]; exact o
  · have hP : ooP ph tz bz num sz = ph := by unfold ooP; rw [if_neg h0]
    have hT : ooT tz bz num sz = tz := by unfold ooT; rw [if_neg h0]
    have hF : ooF tz fz bz num sz = fz := by unfold ooF; rw [if_neg h0]
    rw [hP, hT, hF]
    by_cases h71 : nxE tz bz num sz = 71
    · cases fz with
      | none =>
        refine (other_no g h p f b s ph num hz tz none bz sz w ho hb hs b0 b1 s0 s1 sc n0 n1 h0 (.inr rfl)).mono ?_
        rintro e w' ⟨x, rfl, q, r⟩
        refine ⟨x, p, f, ?_, Keep.ofQ q, ?_, ho.q q⟩
        · unfold ooE; rw [if_pos h71]; show _ = Ending.returned (.tuple #[_, .int .i64 71]); rw [← h71]; rfl
        · unfold ooR; rw [if_pos h71]
          have hr : usR (kyL (kuL tz)) (ivL (kuL tz)) bz num sz = [] := by unfold usR; exact if_neg (show ¬ usE (kyL (kuL tz)) (ivL (kuL tz)) bz num sz = 0 from h0)
          rw [hr] at r
          exact r
      | some z =>
        refine (other_former g h p f b s ph num hz tz z bz sz w ho hb hs b0 b1 s0 s1 sc n0 n1 h71).mono ?_
        rintro e w' ⟨x, rfl, q, r⟩
        refine ⟨x, p, f, ?_, Keep.ofQ q, ?_, ho.q q⟩
        · unfold ooE; rw [if_pos h71]
        · unfold ooR; rw [if_pos h71]; exact r
    · refine (other_no g h p f b s ph num hz tz fz bz sz w ho hb hs b0 b1 s0 s1 sc n0 n1 h0 (.inl h71)).mono ?_
      rintro e w' ⟨x, rfl, q, r⟩
      refine ⟨x, p, f, ?_, Keep.ofQ q, ?_, ho.q q⟩
      · unfold ooE; rw [if_neg h71]; rfl
      · unfold ooR; rw [if_neg h71]; exact r
end Go.Proofs.Ytihmlfpfpadfpaa

/-
  What an opener's Open does: a contract that the statements' walks use.
-/
namespace Go.Proofs.Ytihmlfpfpadfpaa
open Go.RowKit
set_option linter.unusedVariables false
set_option maxRecDepth 20000

/-- What Open tells of a packet without its mask; the opener behind it. -/
def oqE (ph : Int) (tz : List Int) (fz : Option (List Int)) (bz : List Int) (num : Int) (sz : List Int) : Int := if phs (bz.getD 0 0) = ph then usE (kyL tz) (ivL tz) bz num sz else ooE tz fz bz num sz
def oqR (ph : Int) (tz : List Int) (fz : Option (List Int)) (bz : List Int) (num : Int) (sz : List Int) : List Int := if phs (bz.getD 0 0) = ph then usR (kyL tz) (ivL tz) bz num sz else ooR tz fz bz num sz
def oqP (ph : Int) (tz bz : List Int) (num : Int) (sz : List Int) : Int := if phs (bz.getD 0 0) = ph then ph else ooP ph tz bz num sz
def oqT (ph : Int) (tz bz : List Int) (num : Int) (sz : List Int) : List Int := if phs (bz.getD 0 0) = ph then tz else ooT tz bz num sz
def oqF (ph : Int) (tz : List Int) (fz : Option (List Int)) (bz : List Int) (num : Int) (sz : List Int) : Option (List Int) := if phs (bz.getD 0 0) = ph then fz else ooF tz fz bz num sz
/-- What Open tells of a packet that is long enough. -/
def OAns (g : Nat) (h : Sv) (ph high : Int) (at_ : Nat) (hz tz : List Int) (fz : Option (List Int)) (ps : List Int) (w : World) (e : Ending) (w' : World) : Prop :=
  ∃ x p' f' : Sv, e = .returned (.tuple #[.int .i64 (if oqE ph tz fz (umB hz ps at_) (umN hz ps at_ high) (umS hz ps at_) = 0 then umN hz ps at_ high else 0), .slice x.a x.n x.c, .int .i64 (oqE ph tz fz (umB hz ps at_) (umN hz ps at_ high) (umS hz ps at_))]) ∧ Keep (fun i => i = g) w w' ∧
      Row w' x (if oqE ph tz fz (umB hz ps at_) (umN hz ps at_ high) (umS hz ps at_) = 0 then oqR ph tz fz (umB hz ps at_) (umN hz ps at_ high) (umS hz ps at_) else []) ∧ OpI w' g h p' f' (oqP ph tz (umB hz ps at_) (umN hz ps at_ high) (umS hz ps at_)) hz (oqT ph tz (umB hz ps at_) (umN hz ps at_ high) (umS hz ps at_)) (oqF ph tz fz (umB hz ps at_) (umN hz ps at_ high) (umS hz ps at_))
set_option maxHeartbeats 8000000 in
theorem oopen_no (g : Nat) (p : Sv) (at_ high : Int) (w : World) (bp : p.n ≤ 140737488355328) (a0 : -9223372036854775808 ≤ at_) (a1 : at_ ≤ 9223372036854775807) (hc : chP p.n at_ high ≠ 0) :
    Calls Try.prog 26 #[.pointer (some ⟨g, 0, none⟩), .slice p.a p.n p.c, .int .i64 at_, .int .i64 high] w fun e w' => e = .returned (.tuple #[.int .i64 0, .slice none 0 0, .int .i64 (chP p.n at_ high)]) ∧ w = w' := by
  have HP := hid (fun u => packet_any p at_ high u (by omega) a0 a1)
  obtain ⟨pa, pn, pc⟩ := p
  dsimp only at *
  generalize chP pn at_ high = E at *
  have hne : (E != 0) = true := by simp [hc]
  go_enter Try.func26, Try.ntmps26
  go_wp2_with (go_at_call 50; refine (HP.out _).mono ?_; rintro e w1 ⟨rfl, rfl⟩)
  go_ret3
  exact ⟨rfl, rfl⟩
set_option maxHeartbeats 8000000 in
theorem oopen_ok (g : Nat) (h p f pk : Sv) (ph high : Int) (at_ : Nat) (hz tz : List Int) (fz : Option (List Int)) (ps : List Int) (w : World) (ho : OpI w g h p f ph hz tz fz) (lh : h.n = 16) (hp : In w pk ps) (bp : pk.n ≤ 140737488355328) (bc : pk.n ≤ pk.c) (hc : chP pk.n at_ high = 0) :
    Calls Try.prog 26 #[.pointer (some ⟨g, 0, none⟩), .slice pk.a pk.n pk.c, .int .i64 at_, .int .i64 high] w fun e w' => OAns g h ph high at_ hz tz fz ps w e w' := by
  have HP := hid (fun u => packet_any pk at_ high u (by omega) (by omega) (by have := (chP_ok hc).2.2.2.2.1; omega))
  obtain ⟨o1, o2, o3, o4, o5, o6⟩ := chP_ok hc
  have HO := hid ho
  have HPK := hid hp
  have HBC := hid bc
  clear ho hp bc
  obtain ⟨pka, pkn, pkc⟩ := pk
  obtain ⟨ha, hn, hc_⟩ := h
  dsimp only at *
  subst lh
  rw [hc] at HP
  clear hc
  have hl : ps.length = pkn := HPK.out.l
  have LB := hid (umB_len hz ps at_ (by omega))
  have LS := hid (umS_len hz ps at_)
  have WR := hid (umW_range hz ps at_)
  have NR := hid (umN_range hz ps at_ high)
  have c0 := HO.out.o.c0
  dsimp only at c0
  go_enter Try.func26, Try.ntmps26
  go_wp2_with (go_at_call 50; refine (HP.out _).mono ?_; rintro e w1' ⟨rfl, rfl⟩)
  refine (unmask_any ⟨ha, 16, hc_⟩ ⟨pka, pkn, pkc⟩ hz ps at_ high w HO.out.ih HPK.out rfl (by omega) (by omega) (by show at_ + 20 ≤ pkn; omega) (by show pkn ≤ at_ + 16400; omega) HBC.out).mono ?_
  rintro e w2 ⟨⟨ba, bn, bc2⟩, ⟨sa, sn, sc⟩, rfl, q2, ib, is_, hsc⟩
  have Q2 := hid q2
  have IB := hid ib
  have IS := hid is_
  have HSC := hid (show sn ≤ sc from hsc)
  have GL := hid (show g < w.heap.size from lt_of_block HO.out.o)
  have GX := hid (q2.size)
  clear q2 ib is_ hsc c0 HP
  generalize hUN : umN hz ps at_ high = UN at *
  have HUN := hid hUN
  clear hUN
  go_wp2_with (refine wpList_store_row rfl 97 _ _ rfl w2.heap.size (bcells ⟨ba, bn, bc2⟩ UN ⟨sa, sn, sc⟩) rfl rfl 97 _ (heap_alloc_new w2 _) (binfo _ _ _) rfl (bc_one _ _ _) ?_; refine Hid.out ?_)
  refine hid ?_
  generalize hw3 : World.setRow _ _ _ = w3
  have Q23 := hid (show Q w2 w3 from by
    have k3 : Keep (fun i => i = w2.heap.size) w2 w3 := by rw [← hw3]; exact ((Keep.refl (fun i => i = w2.heap.size) w2).alloc _).setRow _ _ (.inl rfl)
    exact k3.below (Q.refl _) (Nat.le_refl _) (fun i e => by omega))
  have BB3 := hid (show BB w3 w2.heap.size ⟨ba, bn, bc2⟩ UN ⟨sa, sn, sc⟩ from by rw [← hw3]; exact setRow_heap _ _ _ _ 97 _ (heap_alloc_new w2 _))
  clear hw3
  have NGX := hid (show w2.heap.size ≠ g from by have := GL.out; have := GX.out; omega)
  generalize w2.heap.size = gx at *
  have Q3 := hid (Q2.out.trans Q23.out)
  have IB3 := hid (IB.out.q Q23.out)
  have IS3 := hid (IS.out.q Q23.out)
  have O3 := hid (HO.out.q Q3.out)
  have HBN := hid (show 0 < bn ∧ bn ≤ 16384 from by have h1 := IB.out.l; rw [LB.out] at h1; have := WR.out; dsimp only at h1; omega)
  have HSN := hid (show 16 ≤ sn ∧ sn ≤ 16400 from by have h1 := IS.out.l; rw [LS.out] at h1; have := WR.out; dsimp only at h1; omega)
  have d0 := BB3.out.c0
  have d1 := BB3.out.c1
  have d2 := BB3.out.c2
  have c3 := O3.out.o.c3
  dsimp only at d0 d2
  have PA := hid (fun u (hu : Q w3 u) => phase_any ⟨ba, bn, bc2⟩ UN ⟨sa, sn, sc⟩ (umB hz ps at_) u (IB3.out.q hu) HBN.out.1)
  generalize hpp : phs ((umB hz ps at_).getD 0 0) = pp at *
  have HPP := hid hpp
  clear hpp
  have s1 : Q w3 w3 := Q.refl _
  go_wp2
  go_region_held3 (fun u => Q w3 u ∧ u.cell? ⟨gx, 0, none⟩ = some (.slice ba bn bc2) ∧ u.cell? ⟨gx, 1, none⟩ = some (.int .i64 UN) ∧ u.cell? ⟨gx, 2, none⟩ = some (.slice sa sn sc) ∧ u.cell? ⟨g, 3, none⟩ = some (.int .i64 ph)) (repeat (first | (with_reducible assumption) | (with_reducible apply Q.drew) | (with_reducible apply Q.drewN) | (with_reducible refine dcel ?_) | (with_reducible refine dcelN ?_) | (with_reducible apply And.intro)))
    (first
      | (go_at_call 58; refine (PA.out _ (by repeat (first | (with_reducible assumption) | (with_reducible exact Q.refl _) | (with_reducible apply Q.drew) | (with_reducible apply Q.drewN) | (with_reducible apply Q.alloc)))).mono ?_; rintro e w4 ⟨rfl, q4⟩; have j4 : Q w3 w4 := Q.trans (by repeat (first | (with_reducible assumption) | (with_reducible exact Q.refl _) | (with_reducible apply Q.drew) | (with_reducible apply Q.drewN) | (with_reducible apply Q.alloc))) q4; have b4 := BB3.out.q j4; have g0 := b4.c0; have g1 := b4.c1; have g2 := b4.c2; have e3 := (O3.out.o.q j4).c3; dsimp only at g0 g2))
  have J4 := hid j4
  have O4 := hid (O3.out.q j4)
  have BB4 := hid (BB3.out.q j4)
  have IB4 := hid (IB3.out.q j4)
  have IS4 := hid (IS3.out.q j4)
  have Q4 := hid (Q3.out.trans j4)
  clear q4 j4 b4 g0 g1 g2 e3 d0 d1 d2 c3 s1 PA O3 BB3 IB3 IS3 Q3 Q23 Q2 IB IS
  have d0 := BB4.out.c0
  have d1 := BB4.out.c1
  have d2 := BB4.out.c2
  dsimp only at d0 d2
  by_cases hph : pp = ph
  · have hpe : (pp == ph) = true := by simp [hph]
    have hif : phs ((umB hz ps at_).getD 0 0) = ph := by rw [HPP.out]; exact hph
    have HEQ0 := hid (show oqE ph tz fz (umB hz ps at_) UN (umS hz ps at_) = usE (kyL tz) (ivL tz) (umB hz ps at_) UN (umS hz ps at_) from by unfold oqE; rw [if_pos hif])
    have HRQ0 := hid (show oqR ph tz fz (umB hz ps at_) UN (umS hz ps at_) = usR (kyL tz) (ivL tz) (umB hz ps at_) UN (umS hz ps at_) from by unfold oqR; rw [if_pos hif])
    have HPQ := hid (show oqP ph tz (umB hz ps at_) (umN hz ps at_ high) (umS hz ps at_) = ph from by unfold oqP; rw [if_pos hif])
    have HTQ := hid (show oqT ph tz (umB hz ps at_) (umN hz ps at_ high) (umS hz ps at_) = tz from by unfold oqT; rw [if_pos hif])
    have HFQ := hid (show oqF ph tz fz (umB hz ps at_) (umN hz ps at_ high) (umS hz ps at_) = fz from by unfold oqF; rw [if_pos hif])
    have c1 := O4.out.o.c1
    have CB := hid (fun u (hu : Q w4 u) => openBy_any ⟨ba, bn, bc2⟩ ⟨sa, sn, sc⟩ p UN (umB hz ps at_) (umS hz ps at_) tz u (IB4.out.q hu) (IS4.out.q hu) (O4.out.ip.q hu) O4.out.pn HBN.out.1 HBN.out.2 HSN.out.1 HSN.out.2 HSC.out NR.out.1 NR.out.2)
    have s1 : Q w4 w4 := Q.refl _
    clear hif hph
    go_wp2
    go_region_held3 (fun u => Q w4 u ∧ u.cell? ⟨gx, 0, none⟩ = some (.slice ba bn bc2) ∧ u.cell? ⟨gx, 1, none⟩ = some (.int .i64 UN) ∧ u.cell? ⟨gx, 2, none⟩ = some (.slice sa sn sc) ∧ u.cell? ⟨g, 1, none⟩ = some (.slice p.a p.n p.c)) (repeat (first | (with_reducible assumption) | (with_reducible apply Q.drew) | (with_reducible apply Q.drewN) | (with_reducible refine dcel ?_) | (with_reducible refine dcelN ?_) | (with_reducible apply And.intro)))
      (first
        | (go_at_call 59; refine (CB.out _ (by repeat (first | (with_reducible assumption) | (with_reducible exact Q.refl _) | (with_reducible apply Q.drew) | (with_reducible apply Q.drewN) | (with_reducible apply Q.alloc)))).mono ?_; rintro e w5 ⟨⟨xa, xn, xc⟩, rfl, q5, r5⟩; have j5 : Q w4 w5 := Q.trans (by repeat (first | (with_reducible assumption) | (with_reducible exact Q.refl _) | (with_reducible apply Q.drew) | (with_reducible apply Q.drewN) | (with_reducible apply Q.alloc))) q5; have b5 := BB4.out.q j5; have g0 := b5.c0; have g1 := b5.c1; have g2 := b5.c2; have e1 := (O4.out.o.q j5).c1; dsimp only at g0 g2))
    have BB5 := hid (BB4.out.q j5)
    have O5 := hid (O4.out.q j5)
    have K5 := hid (show Keep (fun i => i = g) w w5 from Keep.ofQ (Q4.out.trans j5))
    have R5 := hid r5
    obtain ⟨p', f', hpp', hff'⟩ : ∃ p' f' : Sv, p' = p ∧ f' = f := ⟨p, f, rfl, rfl⟩
    rw [← hpp', ← hff'] at O5
    have HEQ := hid (show oqE ph tz fz (umB hz ps at_) (umN hz ps at_ high) (umS hz ps at_) = usE (kyL tz) (ivL tz) (umB hz ps at_) UN (umS hz ps at_) from by rw [HUN.out]; exact HEQ0.out)
    have HRQ := hid (show oqR ph tz fz (umB hz ps at_) (umN hz ps at_ high) (umS hz ps at_) = usR (kyL tz) (ivL tz) (umB hz ps at_) UN (umS hz ps at_) from by rw [HUN.out]; exact HRQ0.out)
    clear r5 q5 j5 b5 g0 g1 g2 e1 d0 d1 d2 c1 s1 CB HEQ0 HRQ0 hpp' hff'
    generalize usE (kyL tz) (ivL tz) (umB hz ps at_) UN (umS hz ps at_) = E at *
    generalize usR (kyL tz) (ivL tz) (umB hz ps at_) UN (umS hz ps at_) = RR at *
    by_cases hE : E = 0
    · subst hE
      have RX := hid (show Row w5 ⟨xa, xn, xc⟩ (if (0 : Int) = 0 then RR else []) from by rw [if_pos rfl]; exact R5.out)
      have g1 := BB5.out.c1
      go_wp2
      go_ret3
      unfold OAns
      exact ⟨⟨xa, xn, xc⟩, p', f', by rw [HEQ.out, if_pos rfl, HUN.out]; rfl, K5.out, by rw [HEQ.out, HRQ.out]; exact RX.out, by rw [HPQ.out, HTQ.out, HFQ.out]; exact O5.out⟩
    · have hne : (E != 0) = true := by simp [hE]
      go_wp2
      go_ret3
      unfold OAns
      exact ⟨nilS, p', f', by rw [HEQ.out, if_neg hE]; rfl, K5.out, by rw [HEQ.out, if_neg hE]; exact sub_nil _ _ _, by rw [HPQ.out, HTQ.out, HFQ.out]; exact O5.out⟩
  · have hpe : (pp == ph) = false := by simp [hph]
    have hif : ¬ phs ((umB hz ps at_).getD 0 0) = ph := by rw [HPP.out]; exact hph
    have HEQ0 := hid (show oqE ph tz fz (umB hz ps at_) UN (umS hz ps at_) = ooE tz fz (umB hz ps at_) UN (umS hz ps at_) from by unfold oqE; rw [if_neg hif])
    have HRQ0 := hid (show oqR ph tz fz (umB hz ps at_) UN (umS hz ps at_) = ooR tz fz (umB hz ps at_) UN (umS hz ps at_) from by unfold oqR; rw [if_neg hif])
    have HPQ := hid (show oqP ph tz (umB hz ps at_) (umN hz ps at_ high) (umS hz ps at_) = ooP ph tz (umB hz ps at_) UN (umS hz ps at_) from by unfold oqP; rw [if_neg hif, HUN.out])
    have HTQ := hid (show oqT ph tz (umB hz ps at_) (umN hz ps at_ high) (umS hz ps at_) = ooT tz (umB hz ps at_) UN (umS hz ps at_) from by unfold oqT; rw [if_neg hif, HUN.out])
    have HFQ := hid (show oqF ph tz fz (umB hz ps at_) (umN hz ps at_ high) (umS hz ps at_) = ooF tz fz (umB hz ps at_) UN (umS hz ps at_) from by unfold oqF; rw [if_neg hif, HUN.out])
    clear hif hph
    go_wp2_with fail
    refine (other_any g ⟨ha, 16, hc_⟩ p f ⟨ba, bn, bc2⟩ ⟨sa, sn, sc⟩ ph UN hz tz fz (umB hz ps at_) (umS hz ps at_) w4 O4.out IB4.out IS4.out HBN.out.1 HBN.out.2 HSN.out.1 HSN.out.2 HSC.out NR.out.1 NR.out.2).mono ?_
    rintro e w5 ⟨⟨xa, xn, xc⟩, p', f', rfl, k5, r5, o5⟩
    have BB5 := hid (show BB w5 gx ⟨ba, bn, bc2⟩ UN ⟨sa, sn, sc⟩ from (k5.block gx (lt_of_block BB4.out) NGX.out).trans BB4.out)
    have O5 := hid o5
    have K5 := hid (show Keep (fun i => i = g) w w5 from (Keep.ofQ Q4.out).trans k5)
    have R5 := hid r5
    have HEQ := hid (show oqE ph tz fz (umB hz ps at_) (umN hz ps at_ high) (umS hz ps at_) = ooE tz fz (umB hz ps at_) UN (umS hz ps at_) from by rw [HUN.out]; exact HEQ0.out)
    have HRQ := hid (show oqR ph tz fz (umB hz ps at_) (umN hz ps at_ high) (umS hz ps at_) = ooR tz fz (umB hz ps at_) UN (umS hz ps at_) from by rw [HUN.out]; exact HRQ0.out)
    clear r5 k5 o5 d0 d1 d2 HEQ0 HRQ0
    generalize ooE tz fz (umB hz ps at_) UN (umS hz ps at_) = E at *
    generalize ooR tz fz (umB hz ps at_) UN (umS hz ps at_) = RR at *
    by_cases hE : E = 0
    · subst hE
      have RX := hid (show Row w5 ⟨xa, xn, xc⟩ (if (0 : Int) = 0 then RR else []) from by rw [if_pos rfl]; exact R5.out)
      have g1 := BB5.out.c1
      go_wp2
      go_ret3
      unfold OAns
      exact ⟨⟨xa, xn, xc⟩, p', f', by rw [HEQ.out, if_pos rfl, HUN.out]; rfl, K5.out, by rw [HEQ.out, HRQ.out]; exact RX.out, by rw [HPQ.out, HTQ.out, HFQ.out]; exact O5.out⟩
    · have hne : (E != 0) = true := by simp [hE]
      go_wp2
      go_ret3
      unfold OAns
      exact ⟨nilS, p', f', by rw [HEQ.out, if_neg hE]; rfl, K5.out, by rw [HEQ.out, if_neg hE]; exact sub_nil _ _ _, by rw [HPQ.out, HTQ.out, HFQ.out]; exact O5.out⟩
end Go.Proofs.Ytihmlfpfpadfpaa

/-
  What the law's own opened does: a contract that the statements' walks use.
-/
namespace Go.Proofs.Ytihmlfpfpadfpaa
open Go.RowKit
set_option linter.unusedVariables false
set_option maxRecDepth 20000

set_option maxHeartbeats 8000000 in
theorem opened_any (pk t h : Sv) (i : Int) (ps tz hz : List Int) (w : World) (hp : In w pk ps) (ht : In w t tz) (hh : In w h hz) (lt : t.n = 16) (lh : h.n = 16) (b3 : 22 ≤ pk.n) (b4 : pk.n ≤ 16402) (bc : pk.n ≤ pk.c) (i0 : 0 ≤ i) (i1 : i ≤ 1000) :
    Calls Try.prog 29 #[.slice pk.a pk.n pk.c, .slice t.a t.n t.c, .slice h.a h.n h.c, .int .i64 i] w fun e w' => e = .returned (.bool (nxE tz (umB hz ps 2) (umN hz ps 2 (i - 1)) (umS hz ps 2) != 71)) ∧ Q w w' := by
  have HP := hid hp
  have HT := hid ht
  have HH := hid hh
  have LT := hid (show tz.length = 16 from by rw [ht.l, lt])
  have HBC := hid bc
  clear hp ht hh bc
  obtain ⟨pa, pn, pc⟩ := pk
  obtain ⟨ta, tn, tc⟩ := t
  obtain ⟨ha, hn, hc⟩ := h
  dsimp only at *
  subst lt lh
  have hl : ps.length = pn := HP.out.l
  have LB := hid (umB_len hz ps 2 (by omega))
  have LS := hid (umS_len hz ps 2)
  have WR := hid (umW_range hz ps 2)
  have NR := hid (umN_range hz ps 2 (i - 1))
  have FB := hid (umB_fst hz ps 2 (by omega) (by omega))
  have FL := hid (umF_lt hz HP.out.z 2)
  go_enter Try.func29, Try.ntmps29
  go_wp2_with fail
  refine (rnext_any ⟨ta, 16, tc⟩ tz w HT.out).mono ?_
  rintro e w1 ⟨⟨na, nn, nc⟩, rfl, q1, r1⟩
  have R1 := hid (show Row w1 ⟨na, nn, nc⟩ (kuL tz) from by have h := r1; unfold if16 at h; rw [if_pos LT.out] at h; exact h)
  have I1 := hid (row_in R1.out (exL_lt _ _ _))
  have NN := hid (show nn = 16 from by have h := Row.len R1.out; rw [show (kuL tz).length = 16 from exL_len _ _ _] at h; exact h.symm)
  obtain rfl := NN.out
  have Q1 := hid q1
  clear q1 r1 NN R1
  dsimp only
  go_wp2_with fail
  refine (rmake_any ⟨na, 16, nc⟩ (kuL tz) w1 I1.out).mono ?_
  rintro e w2 ⟨⟨ka, kn, kc⟩, ⟨ia, n, ic⟩, ⟨xa, xn, xc⟩, rfl, q2, k2⟩
  have K2 := hid (show KI w2 ⟨ka, kn, kc⟩ ⟨ia, n, ic⟩ ⟨xa, xn, xc⟩ (kyL (kuL tz)) (ivL (kuL tz)) (hpL (kuL tz)) from by
    have h := k2
    have h16 : (kuL tz).length = 16 := exL_len _ _ _
    unfold if16 at h
    rw [if_pos h16, if_pos h16, if_pos h16] at h
    exact h)
  have Q2 := hid (Q1.out.trans q2)
  clear q2 k2 Q1 I1
  dsimp only
  go_wp2_with (refine wpList_store_row rfl 33 _ _ rfl w2.heap.size (kcells ⟨ka, kn, kc⟩ ⟨ia, n, ic⟩ ⟨xa, xn, xc⟩) rfl rfl 33 _ (heap_alloc_new w2 _) (kinfo33 _ _ _) rfl (kc_one _ _ _) ?_; refine Hid.out ?_)
  refine hid ?_
  generalize hw3 : World.setRow _ _ _ = w3
  have Q23 := hid (show Q w2 w3 from by
    have k3 : Keep (fun i => i = w2.heap.size) w2 w3 := by rw [← hw3]; exact ((Keep.refl (fun i => i = w2.heap.size) w2).alloc _).setRow _ _ (.inl rfl)
    exact k3.below (Q.refl _) (Nat.le_refl _) (fun i e => by omega))
  have KB3 := hid (show KB w3 w2.heap.size 33 ⟨ka, kn, kc⟩ ⟨ia, n, ic⟩ ⟨xa, xn, xc⟩ from by rw [← hw3]; exact setRow_heap _ _ _ _ 33 _ (heap_alloc_new w2 _))
  clear hw3
  generalize w2.heap.size = gx at *
  have Q3 := hid (Q2.out.trans Q23.out)
  have K3 := hid (K2.out.q Q23.out)
  have hkn : kn = 16 := by have := K3.out.k.l; rw [show (kyL (kuL tz)).length = 16 from exL_len _ _ _] at this; exact this.symm
  have hnn : n = 12 := by have := K3.out.i.l; rw [show (ivL (kuL tz)).length = 12 from exL_len _ _ _] at this; exact this.symm
  subst hkn hnn
  have c0 := KB3.out.c0
  have c1 := KB3.out.c1
  dsimp only at c0 c1
  obtain ⟨m1, hm1, KM⟩ : ∃ m1 : Int, i - 1 = m1 ∧ Hid (m1 = i - 1) := ⟨i - 1, rfl, hid rfl⟩
  have hwm : IntKind.i64.wrap m1 = m1 := by rw [wrap_i64]; omega
  rw [hm1] at NR
  have CM := hid (fun u (hu : Q w3 u) => show Calls Try.prog 55 #[.slice ha 16 hc, .slice pa pn pc, .int .i64 2, .int .i64 m1] u _ from runmask_any ⟨ha, 16, hc⟩ ⟨pa, pn, pc⟩ hz ps 2 m1 u ((HH.out.q Q3.out).q hu) ((HP.out.q Q3.out).q hu) rfl (by omega) (by omega) (by show 2 + 20 ≤ pn; omega) (by show pn ≤ 2 + 16400; omega) HBC.out)
  have CS := hid (fun (b s : Sv) u (hu : Q w3 u) (ib : In u b (umB hz ps 2)) (is_ : In u s (umS hz ps 2)) (hsc : s.n ≤ s.c) => runseal_any (umF hz ps 2) (umN hz ps 2 m1) b s ⟨ka, 16, kc⟩ ⟨ia, 12, ic⟩ (umB hz ps 2) (umS hz ps 2) (kyL (kuL tz)) (ivL (kuL tz)) u ib is_ (K3.out.k.q hu) (K3.out.i.q hu) FB.out FL.out rfl rfl (by have h1 := ib.l; rw [LB.out] at h1; have := WR.out; omega) (by have h1 := is_.l; rw [LS.out] at h1; have := WR.out; omega) (by have h1 := is_.l; rw [LS.out] at h1; have := WR.out; omega) hsc NR.out.1 NR.out.2)
  have s1 : Q w3 w3 := Q.refl _
  go_wp2
  go_region_held3 (fun u => Q w3 u ∧ u.cell? ⟨gx, 0, none⟩ = some (.slice ka 16 kc) ∧ u.cell? ⟨gx, 1, none⟩ = some (.slice ia 12 ic)) (repeat (first | (with_reducible assumption) | (with_reducible apply Q.drew) | (with_reducible apply Q.drewN) | (with_reducible refine dcel ?_) | (with_reducible refine dcelN ?_) | (with_reducible apply And.intro)))
    (first
      | (go_at_call 55; refine (CM.out _ (by repeat (first | (with_reducible assumption) | (with_reducible exact Q.refl _) | (with_reducible apply Q.drew) | (with_reducible apply Q.drewN) | (with_reducible apply Q.alloc)))).mono ?_; rintro e w4 ⟨⟨ba, bn, bc⟩, ⟨sa, sn, sc⟩, rfl, q4, ib, is_, hsc⟩; have j4 : Q w3 w4 := Q.trans (by repeat (first | (with_reducible assumption) | (with_reducible exact Q.refl _) | (with_reducible apply Q.drew) | (with_reducible apply Q.drewN) | (with_reducible apply Q.alloc))) q4; have k4 := KB3.out.q j4; have e0 := k4.c0; have e1 := k4.c1; dsimp only at e0 e1; have IB := hid ib; have IS := hid is_; have HSC := hid hsc; clear ib is_ hsc)
      | (go_at_call 56; refine (CS.out ⟨ba, bn, bc⟩ ⟨sa, sn, sc⟩ _ (by repeat (first | (with_reducible assumption) | (with_reducible exact Q.refl _) | (with_reducible apply Q.drew) | (with_reducible apply Q.drewN) | (with_reducible apply Q.alloc))) (IB.out.q (by repeat (first | (with_reducible assumption) | (with_reducible exact Q.refl _) | (with_reducible apply Q.drew) | (with_reducible apply Q.drewN) | (with_reducible apply Q.alloc)))) (IS.out.q (by repeat (first | (with_reducible assumption) | (with_reducible exact Q.refl _) | (with_reducible apply Q.drew) | (with_reducible apply Q.drewN) | (with_reducible apply Q.alloc)))) HSC.out).mono ?_; rintro e w5 ⟨⟨ya, yn, yc⟩, rfl, q5, r5⟩; have j5 : Q w3 w5 := Q.trans (by repeat (first | (with_reducible assumption) | (with_reducible exact Q.refl _) | (with_reducible apply Q.drew) | (with_reducible apply Q.drewN) | (with_reducible apply Q.alloc))) q5; have k5 := KB3.out.q j5; have g0 := k5.c0; have g1 := k5.c1; dsimp only at g0 g1))
  all_goals (
    have Q5 := hid (Q3.out.trans j5)
    have HNX := hid (show nxE tz (umB hz ps 2) (umN hz ps 2 (i - 1)) (umS hz ps 2) = usE (kyL (kuL tz)) (ivL (kuL tz)) (umB hz ps 2) (umN hz ps 2 m1) (umS hz ps 2) from by rw [hm1]; rfl)
    clear r5 q5 j5 k5 g0 g1 q4 j4 k4 e0 e1 c0 c1 s1 CM CS
    generalize usE (kyL (kuL tz)) (ivL (kuL tz)) (umB hz ps 2) (umN hz ps 2 m1) (umS hz ps 2) = E at *
    go_wp2
    go_ret
    exact ⟨by rw [HNX.out]; rfl, Q5.out⟩)
end Go.Proofs.Ytihmlfpfpadfpaa

/-
  The document's opener in memory: its row of secrets, and what it keeps. Nothing is proved of a statement here.
-/
namespace Go.Proofs.Ytihmlfpfpadfpaa
open Go.RowKit
set_option linter.unusedVariables false
set_option maxRecDepth 20000

theorem rmake_16 (t : Sv) (z : List Int) (w : World) (h : In w t z) (hn : t.n = 16) :
    Calls Try.prog 13 #[.slice t.a t.n t.c] w fun e w' => ∃ k i h : Sv, e = .returned (.tuple #[.agg (kcells k i h), .int .i64 0]) ∧ Q w w' ∧ KI w' k i h (kyL z) (ivL z) (hpL z) ∧ k.n = 16 ∧ i.n = 12 ∧ h.n = 16 := by
  have hz : z.length = 16 := by rw [h.l, hn]
  refine (rmake_any t z w h).mono ?_
  rw [hn]
  rintro e w' ⟨k, i, h, rfl, q, x⟩
  unfold if16 at x
  rw [if_pos hz, if_pos hz, if_pos hz] at x
  exact ⟨k, i, h, rfl, q, x, by rw [← x.k.l]; exact exL_len _ _ _, by rw [← x.i.l]; exact exL_len _ _ _, by rw [← x.h.l]; exact exL_len _ _ _⟩
theorem rnext_16 (t : Sv) (z : List Int) (w : World) (h : In w t z) (hn : t.n = 16) :
    Calls Try.prog 15 #[.slice t.a t.n t.c] w fun e w' => ∃ x : Sv, e = .returned (.tuple #[.slice x.a x.n x.c, .int .i64 0]) ∧ Q w w' ∧ Row w' x (kuL z) ∧ x.n = 16 := by
  have hz : z.length = 16 := by rw [h.l, hn]
  refine (rnext_any t z w h).mono ?_
  rw [hn]
  rintro e w' ⟨x, rfl, q, r⟩
  unfold if16 at r
  rw [if_pos hz] at r
  exact ⟨x, rfl, q, r, by rw [← Row.len r]; exact exL_len _ _ _⟩
/-- The opener's block. -/
abbrev dcells (f S : Sv) (ph : Int) : Array Value := #[.slice f.a f.n f.c, .slice S.a S.n S.c, .int .i64 ph]
def DB (w : World) (d : Nat) (f S : Sv) (ph : Int) : Prop := w.heap[d]? = some (.cells (dcells f S ph) 64 (0, 0))
section
variable {w w' : World} {d : Nat} {f S : Sv} {ph : Int}
theorem DB.keep {F : Nat → Prop} (x : DB w d f S ph) (k : Keep F w w') (hF : ¬ F d) : DB w' d f S ph := (k.block d (lt_of_block x) hF).trans x
theorem DB.q (x : DB w d f S ph) (q : Q w w') : DB w' d f S ph := (Below.block q _ (lt_of_block x)).trans x
theorem DB.c0 (x : DB w d f S ph) : w.cell? ⟨d, 0, none⟩ = some (.slice f.a f.n f.c) := by rw [cell_of_row w d 0 _ 64 (0, 0) x]; rfl
theorem DB.c1 (x : DB w d f S ph) : w.cell? ⟨d, 1, none⟩ = some (.slice S.a S.n S.c) := by rw [cell_of_row w d 1 _ 64 (0, 0) x]; rfl
theorem DB.c2 (x : DB w d f S ph) : w.cell? ⟨d, 2, none⟩ = some (.int .i64 ph) := by rw [cell_of_row w d 2 _ 64 (0, 0) x]; rfl
theorem DB.fr (x : DB w d f S ph) (j : Nat) : w.frozen? ⟨d, j, none⟩ = false := frozen_of_row w d j _ 64 x
theorem DB.s1 (x : DB w d f S ph) (y : Sv) : DB (w.setCell ⟨d, 1, none⟩ (.slice y.a y.n y.c)) d f y ph := by
  have := heap_setCell_same w d 1 _ 64 (.slice y.a y.n y.c) x
  simpa [DB] using this
theorem DB.s2 (x : DB w d f S ph) (y : Int) : DB (w.setCell ⟨d, 2, none⟩ (.int .i64 y)) d f S y := by
  have := heap_setCell_same w d 2 _ 64 (.int .i64 y) x
  simpa [DB] using this
end
/-- Its row of secrets. -/
def svs (xs : List Sv) : List Value := xs.map (fun x => .slice x.a x.n x.c)
def SR (w : World) (S : Sv) (xs : List Sv) : Prop := Sub w 22 1 S.a S.n S.c (svs xs)
theorem SR.len {w : World} {S : Sv} {xs : List Sv} (h : SR w S xs) : xs.length = S.n := by have := h.1; simpa [svs] using this
theorem SR.at_ {w : World} {S : Sv} {xs : List Sv} (h : SR w S xs) {j : Nat} {x : Sv} (hj : xs[j]? = some x) : ∃ g off, S.a = some ⟨g, off, none⟩ ∧ w.cell? ⟨g, off + j, none⟩ = some (.slice x.a x.n x.c) := by
  have hl := h.len
  have hlt : j < xs.length := by
    rcases Nat.lt_or_ge j xs.length with h1 | h1
    · exact h1
    · rw [List.getElem?_eq_none h1] at hj; cases hj
  rcases h.2 with ⟨_, h0, _⟩ | ⟨g, off, cur, ha, hg, h1, h2, h3, h4⟩
  · omega
  · refine ⟨g, off, ha, ?_⟩
    rw [cell_of_row w g (off + j) _ 22 (0, 0) hg, h4 j (by omega)]
    show (xs.map _)[j]? = _
    rw [List.getElem?_map, hj]; rfl
/-- A row of slices alone. -/
def AllS (cur : Array Value) : Prop := ∀ v ∈ cur.toList, ∃ (a : Option Addr) (n c : Nat), v = .slice a n c
def SA (w : World) (S : Sv) : Prop := ∀ g off, S.a = some ⟨g, off, none⟩ → ∃ cur, w.heap[g]? = some (.cells cur 22 (0, 0)) ∧ AllS cur
theorem SA.q {w w' : World} {S : Sv} (h : SA w S) (q : Q w w') : SA w' S := by
  intro g off e
  obtain ⟨cur, h1, h2⟩ := h g off e
  exact ⟨cur, (Below.block q _ (lt_of_block h1)).trans h1, h2⟩
/-- Bytes that are old, or in a row of bytes. -/
def Sf (w : World) (B : Nat) (x : Sv) : Prop := ∀ b, blk x.a = some b → b < B ∨ ∃ cur, w.heap[b]? = some (.cells cur 5 (0, 0))
theorem Row.sf {w : World} {x : Sv} {zs : List Int} (h : Row w x zs) (B : Nat) : Sf w B x := by
  intro b hb
  rcases h.2 with ⟨h0, _, _⟩ | ⟨g, off, cur, ha, hg, _⟩
  · rw [h0] at hb; simp [blk] at hb
  · rw [ha] at hb
    simp [blk] at hb
    subst hb
    exact .inr ⟨cur, hg⟩
/-- What the document's opener may turn. -/
def FD (B d : Nat) (w : World) (i : Nat) : Prop := i = d ∨ (B ≤ i ∧ ∃ cur, w.heap[i]? = some (.cells cur 22 (0, 0)) ∧ AllS cur)
theorem Sf.q {w w' : World} {B : Nat} {x : Sv} (h : Sf w B x) (q : Q w w') : Sf w' B x := by
  intro b hb
  rcases h b hb with h1 | ⟨cur, h1⟩
  · exact .inl h1
  · exact .inr ⟨cur, (Below.block q _ (lt_of_block h1)).trans h1⟩
theorem Sf.not {w : World} {B d : Nat} {x : Sv} {cs : Array Value} (h : Sf w B x) (hd : w.heap[d]? = some (.cells cs 64 (0, 0))) (hB : B ≤ d) : ∀ b, blk x.a = some b → ¬ FD B d w b := by
  intro b hb hF
  rcases h b hb with h1 | ⟨cur, h1⟩
  · rcases hF with e | ⟨e, _⟩
    · omega
    · omega
  · rcases hF with e | ⟨_, cur', h2, _⟩
    · subst e; rw [h1] at hd; simp at hd
    · rw [h1] at h2; simp at h2
theorem Sf.keep {w w' : World} {B d : Nat} {x : Sv} {cs : Array Value} (h : Sf w B x) (hd : w.heap[d]? = some (.cells cs 64 (0, 0))) (hB : B ≤ d) (k : Keep (FD B d w) w w') : Sf w' B x := by
  intro b hb
  have hn := h.not hd hB b hb
  rcases h b hb with h1 | ⟨cur, h1⟩
  · exact .inl h1
  · exact .inr ⟨cur, (k.block b (lt_of_block h1) hn).trans h1⟩
theorem in_keepD {w w' : World} {B d : Nat} {x : Sv} {zs : List Int} {cs : Array Value} (hx : In w x zs) (h : Sf w B x) (hd : w.heap[d]? = some (.cells cs 64 (0, 0))) (hB : B ≤ d) (k : Keep (FD B d w) w w') : In w' x zs :=
  ⟨hx.s.keep k (h.not hd hB), hx.l, hx.z⟩
/-- The document's opener: the present secret, and the former one. -/
structure DOp (w : World) (B d : Nat) (f : Sv) (ph : Int) (z0 tz : List Int) (fz : Option (List Int)) (N : Nat) : Prop where
  ex : ∃ (S : Sv) (ys : List Sv) (x : Sv), DB w d f S ph ∧ (SR w S (ys ++ [x]) ∧ SA w S) ∧ (∀ b, blk S.a = some b → B ≤ b) ∧ In w x tz ∧ Sf w B x ∧ x.n = 16 ∧ S.n ≤ N ∧
    (match fz with | none => ys = [] | some z => ∃ zs y, ys = zs ++ [y] ∧ In w y z ∧ Sf w B y ∧ y.n = 16)
  ff : In w f z0
  fn : f.n = 16
  fs : ∀ b, blk f.a = some b → b < B
  dB : B ≤ d
/-- A block of keys holds no bytes. -/
theorem in_keepK {u v : World} {g t : Nat} {k i h x : Sv} {zs : List Int} (hx : In u x zs) (ho : KB u g t k i h) (kk : Keep (fun i => i = g) u v) : In v x zs := by
  by_cases hz : zs = []
  · subst hz; exact ⟨seg_nil _ _, hx.l, hx.z⟩
  · refine ⟨hx.s.keep kk ?_, hx.l, hx.z⟩
    rintro b e rfl
    obtain ⟨b2, o2, e2, hc⟩ := hx.s hz
    rw [e2] at e
    simp [blk] at e
    subst e
    have h0 := hc 0 (List.length_pos_iff.2 hz)
    rw [Nat.add_zero, cell_of_row u b2 o2 _ t (0, 0) ho] at h0
    rcases (show o2 = 0 ∨ o2 = 1 ∨ o2 = 2 ∨ 3 ≤ o2 by omega) with rfl | rfl | rfl | h4
    · simp at h0
    · simp at h0
    · simp at h0
    · rw [Array.getElem?_eq_none (by show 3 ≤ o2; exact h4)] at h0
      cases h0
theorem row_keepK {u v : World} {g t : Nat} {k i h x : Sv} {zs : List Int} (hx : Row u x zs) (ho : KB u g t k i h) (ht : t ≠ 5) (kk : Keep (fun i => i = g) u v) : Row v x zs := by
  refine Sub.keep hx kk ?_
  rintro b e rfl
  rcases hx.2 with ⟨h0, _, _⟩ | ⟨g2, off, cur, ha, hg, _⟩
  · rw [h0] at e; simp [blk] at e
  · rw [ha] at e
    simp [blk] at e
    subst e
    have h2 : u.heap[g2]? = some (.cells (kcells k i h) t (0, 0)) := ho
    rw [hg] at h2
    simp at h2
    exact ht h2.2.symm
theorem info22 : ∃ i : TypeInfo, Try.prog.info? 22 = some i ∧ i.zero = some (.slice none 0 0) ∧ i.size = 1 ∧ i.bytes = 24 := by
  have h : (Try.prog.info? 22).map (fun i => (i.zero, i.size, i.bytes)) = some (some (.slice none 0 0), 1, 24) := by kernel_rfl
  cases hq : Try.prog.info? 22 with
  | none => rw [hq] at h; cases h
  | some i =>
    rw [hq] at h
    simp only [Option.map_some, Option.some.injEq, Prod.mk.injEq] at h
    exact ⟨i, rfl, h.1, h.2.1, h.2.2⟩
theorem zeros_all {m : Nat} : ∀ v ∈ (Builtin.zeroCells (Value.slice none 0 0).cells m).toList, v = .slice none 0 0 := by
  intro v hv
  simp only [Builtin.zeroCells, Array.toList_map, List.mem_map] at hv
  obtain ⟨j, _, rfl⟩ := hv
  have e : (Value.slice none 0 0).cells = #[Value.slice none 0 0] := rfl
  rw [e]
  have e2 : j % (#[Value.slice none 0 0] : Array Value).size = 0 := Nat.mod_one j
  rw [e2]
  rfl
/-- One more secret. -/
theorem sr_append {w : World} {S x : Sv} {xs : List Sv} (h : SR w S xs) (hA : SA w S) {gb : Nat} (hs : w.cell? ⟨gb, 0, none⟩ = some (.slice x.a x.n x.c)) (h0 : 0 < S.n) (hn : S.n ≤ 2000000000000) :
    ∃ (S' : Sv) (w' : World), (Builtin.append_ #[62, 62] 62 #[.slice S.a S.n S.c, .slice (some ⟨gb, 0, none⟩) 1 1]).run Try.prog w = .ok (.slice S'.a S'.n S'.c) w' ∧ SR w' S' (xs ++ [x]) ∧ S'.n = S.n + 1 ∧ Keep (fun b => blk S.a = some b) w w' ∧ (blk S'.a = blk S.a ∨ blk S'.a = some w.heap.size) ∧ SA w' S' := by
  obtain ⟨i0, hi, hz0, hz1, hz2⟩ := info22
  have hsrc : Src Try.prog 1 62 (.slice (some ⟨gb, 0, none⟩) 1 1) 1 [.slice x.a x.n x.c] w := by
    refine Src.ofSlice (size := 1) w Try.underlying62 ⟨gb, 0, none⟩ 1 1 [.slice x.a x.n x.c] (by simp) (fun j u hj => ?_) (by intro u hu; simp at hu; subst hu; rfl)
    match j, hj with
    | 0, hj =>
      simp at hj
      subst hj
      rw [addr_add]
      exact hs
    | j + 1, hj => simp at hj
  have esv : svs (xs ++ [x]) = svs xs ++ [.slice x.a x.n x.c] := by simp [svs]
  obtain ⟨Sa, n, cap⟩ := S
  dsimp only at *
  rcases h.2 with ⟨_, h1, _⟩ | ⟨g, off, cur, ha, hg, h1, h2, h3, h4⟩
  · have h1' : n = 0 := h1
    omega
  · dsimp only at ha h1 h2 h3 h4
    subst ha
    have hall : AllS cur := by
      obtain ⟨cur', c1, c2⟩ := hA g off rfl
      rw [hg] at c1
      have e : cur = cur' := by simpa using c1
      rw [e]; exact c2
    have hsrc' : Src Try.prog i0.size 62 (.slice (some ⟨gb, 0, none⟩) 1 1) 1 [.slice x.a x.n x.c] w := by rw [hz1]; exact hsrc
    have hl : (svs xs).length = n * i0.size := by rw [hz1]; exact h.1
    by_cases hroom : n + 1 ≤ cap
    · have hr := run_append_in (P := Try.prog) w 62 62 62 22 i0 Try.underlying62 hi g off n cap (.slice (some ⟨gb, 0, none⟩) 1 1) 1 [.slice x.a x.n x.c] hsrc' cur hg hroom (by rw [hz1]; show off + n * 1 + 1 ≤ _; omega)
      rw [hz1] at hr
      refine ⟨⟨some ⟨g, off, none⟩, n + 1, cap⟩, _, hr, ?_, rfl, (keep_row hg _).1.atRow, .inl rfl, ?_⟩
      · show Sub _ 22 1 (some ⟨g, off, none⟩) (n + 1) cap (svs (xs ++ [x]))
        rw [esv]
        exact sub_room h.1 (by simp) hg hroom h2 h3 h4
      · intro g' off' e
        cases e
        refine ⟨_, (keep_row hg _).2, ?_⟩
        intro v hv
        simp only [List.mem_append, List.mem_cons, List.not_mem_nil, or_false] at hv
        rcases hv with (hv | hv) | hv
        · exact hall v (List.mem_of_mem_take hv)
        · exact ⟨_, _, _, hv⟩
        · exact hall v (List.mem_of_mem_drop hv)
    · have hc : ∀ j v, (svs xs)[j]? = some v → w.drew.cell? ((⟨g, off, none⟩ : Addr).add j) = some v := by
        intro j v hj
        have hj' : j < n * 1 := by
          rcases Nat.lt_or_ge j (n * 1) with hh | hh
          · exact hh
          · rw [List.getElem?_eq_none (by rw [h.1]; exact hh)] at hj; cases hj
        rw [addr_add, cell_of_row w.drew g _ cur 22 (0, 0) hg, h4 j hj', hj]
      have hr := run_append_grow_src (P := Try.prog) w 62 62 62 22 i0 (.slice none 0 0) Try.underlying62 hi hz0 (some ⟨g, off, none⟩) n cap (svs xs) (run_firstCells_some w.drew i0.size n ⟨g, off, none⟩ n cap (svs xs) hl hc) (.slice (some ⟨gb, 0, none⟩) 1 1) 1 [.slice x.a x.n x.c] hsrc' (by omega) (by omega) (growslice_fits_wide (by omega) (by rw [hz2]; omega))
      refine ⟨⟨some ⟨w.heap.size, 0, none⟩, n + 1, _⟩, _, hr, ?_, rfl, ((Keep.refl _ w).drew).alloc _, .inr rfl, ?_⟩
      · show Sub _ 22 1 (some ⟨w.heap.size, 0, none⟩) (n + 1) _ (svs (xs ++ [x]))
        rw [esv]
        exact sub_grown (z := .slice none 0 0) rfl (by rw [List.length_append, show (svs xs).length = n * 1 from h.1]; show n * 1 + 1 = (n + 1) * 1; omega) (by unfold maxLen; omega) _ (by simp)
      · intro g' off' e
        cases e
        refine ⟨_, heap_alloc_new w.drew _, ?_⟩
        intro v hv
        simp only [Array.toList_append, List.mem_append] at hv
        rcases hv with hv | hv
        · have hv' : v ∈ svs xs ++ [.slice x.a x.n x.c] := by simpa using hv
          rw [← esv] at hv'
          unfold svs at hv'
          obtain ⟨q, _, rfl⟩ := List.mem_map.1 hv'
          exact ⟨_, _, _, rfl⟩
        · exact ⟨_, _, _, zeros_all v hv⟩
theorem phs_u8 {F : Int} (h : 0 ≤ F ∧ F < 256) : F / 4 % 2 = phs F := by
  unfold phs; split <;> omega
end Go.Proofs.Ytihmlfpfpadfpaa

/-
  Packets under secrets each of which is the next one of the last, as plain mathematics. Nothing is proved of a statement here.
-/
namespace Go.Proofs.Ytihmlfpfpadfpaa
open Go.RowKit
set_option linter.unusedVariables false
set_option maxRecDepth 20000

/-- The secret of a turn. -/
def sqL (z : List Int) : Nat → List Int
  | 0 => z
  | k + 1 => kuL (sqL z k)
/-- The header of a turn, and its packet. -/
def hdT (i : Nat) : List Int := [64 + 4 * ((i : Int) % 2), 9]
def pkT (z hz : List Int) (i : Nat) (ps : List Int) : List Int := proL (kyL (sqL z i)) (ivL (sqL z i)) hz (hdT i) (i : Int) 1 ps
theorem sq_len {z : List Int} (h : z.length = 16) : ∀ i, (sqL z i).length = 16
  | 0 => h
  | k + 1 => exL_len _ _ _
theorem hdT_by (i : Nat) : By (hdT i) := by
  intro y hy
  unfold hdT at hy
  simp only [List.mem_cons, List.not_mem_nil, or_false] at hy
  rcases hy with rfl | rfl
  · omega
  · omega
theorem exp_self {i : Nat} (hi : i ≤ 40) : expM (i : Int) ((i : Int) % 256 ^ (1 : Int).toNat) 1 = i := by
  have h : ∀ n : Fin 41, expM (n.1 : Int) ((n.1 : Int) % 256 ^ (1 : Int).toNat) 1 = n.1 := by decide
  exact h ⟨i, by omega⟩
theorem pkT_len (z hz : List Int) (i : Nat) (ps : List Int) : (pkT z hz i ps).length = 2 + 1 + ps.length + 16 := by
  unfold pkT
  rw [proL_len]
  show 2 + 1 + (ps.length + 16) = _
  omega
/-- The packet of a turn is opened by its own secret, whether its number or the one ahead is the greatest so far. -/
theorem tr_all {z hz ps : List Int} {i : Nat} {high : Int} (h : hz.length = 16) (zp : By ps) (p0 : 4 ≤ ps.length) (p1 : ps.length ≤ 100) (hi : i ≤ 40) (hh : high = (i : Int) - 1 ∨ high = i) :
    umN hz (pkT z hz i ps) 2 high = i ∧ phs ((umB hz (pkT z hz i ps) 2).getD 0 0) = (i : Int) % 2 ∧ usE (kyL (sqL z i)) (ivL (sqL z i)) (umB hz (pkT z hz i ps) 2) i (umS hz (pkT z hz i ps) 2) = 0 ∧
      usR (kyL (sqL z i)) (ivL (sqL z i)) (umB hz (pkT z hz i ps) 2) i (umS hz (pkT z hz i ps) 2) = ps ∧ chP (pkT z hz i ps).length 2 high = 0 := by
  have hk : (kyL (sqL z i)).length = 16 := exL_len _ _ _
  have hv : (ivL (sqL z i)).length = 12 := exL_len _ _ _
  have he : ptE (kyL (sqL z i)).length (ivL (sqL z i)).length hz.length (hdT i).length (i : Int) 1 ps.length = 0 := by
    rw [hk, hv, h]
    show ptE 16 12 16 2 (i : Int) 1 ps.length = 0
    unfold ptE kyE
    rw [if_neg (by simp), if_neg (by omega), if_neg (by omega), if_neg (by omega)]
  have hf : (hdT i).getD 0 0 = 64 + 4 * ((i : Int) % 2) := rfl
  have hx : expM high ((i : Int) % 256 ^ (1 : Int).toNat) 1 = i := by
    rcases hh with rfl | rfl
    · exact exp_back (by omega) (by omega) (by omega) (by omega)
    · exact exp_self hi
  obtain ⟨u1, u2, u3, u4, u5⟩ := un_pro (hz := hz) (high := high) he (hdT_by i) zp (by rw [hf]; omega) (by omega) (by omega) hx
  have us := us_seal he zp (by
    rw [hf]
    unfold rsv
    rw [if_neg (by omega)]
    simp
    omega)
  have e1 : pkT z hz i ps = proL (kyL (sqL z i)) (ivL (sqL z i)) hz (hdT i) (i : Int) (1 : Int).toNat ps := rfl
  have e2 : (hdT i).length = 2 := rfl
  rw [e2, ← e1] at u2 u3 u4 u5
  rw [u3, u4]
  refine ⟨u2, ?_, us.1, us.2, u5⟩
  show phs ((hdT i ++ _).getD 0 0) = _
  show phs (64 + 4 * ((i : Int) % 2)) = _
  unfold phs
  split <;> omega
/-- Turning to the next secret, by its packet. -/
theorem tr_turn {z hz ps : List Int} {i : Nat} {fz : Option (List Int)} (h : hz.length = 16) (zp : By ps) (p0 : 4 ≤ ps.length) (p1 : ps.length ≤ 100) (hi : i + 1 ≤ 40) :
    let b := umB hz (pkT z hz (i + 1) ps) 2
    let n := umN hz (pkT z hz (i + 1) ps) 2 (i : Int)
    let s := umS hz (pkT z hz (i + 1) ps) 2
    n = (i : Int) + 1 ∧ oqE ((i : Int) % 2) (sqL z i) fz b n s = 0 ∧ oqR ((i : Int) % 2) (sqL z i) fz b n s = ps ∧ oqP ((i : Int) % 2) (sqL z i) b n s = ((i : Int) + 1) % 2 ∧ oqT ((i : Int) % 2) (sqL z i) b n s = sqL z (i + 1) ∧ oqF ((i : Int) % 2) (sqL z i) fz b n s = some (sqL z i) := by
  obtain ⟨a1, a2, a3, a4, a5⟩ := tr_all (z := z) (ps := ps) (i := i + 1) (high := (i : Int)) h zp p0 p1 hi (.inl (by omega))
  have e : ((i + 1 : Nat) : Int) = (i : Int) + 1 := by omega
  rw [e] at a1 a2 a3 a4
  have hne : ¬ phs ((umB hz (pkT z hz (i + 1) ps) 2).getD 0 0) = (i : Int) % 2 := by rw [a2]; omega
  have hx : nxE (sqL z i) (umB hz (pkT z hz (i + 1) ps) 2) ((i : Int) + 1) (umS hz (pkT z hz (i + 1) ps) 2) = 0 := a3
  have h71 : ¬ nxE (sqL z i) (umB hz (pkT z hz (i + 1) ps) 2) ((i : Int) + 1) (umS hz (pkT z hz (i + 1) ps) 2) = 71 := by rw [hx]; omega
  dsimp only
  rw [a1]
  refine ⟨rfl, ?_, ?_, ?_, ?_, ?_⟩
  · unfold oqE ooE; rw [if_neg hne, if_neg h71]; exact hx
  · unfold oqR ooR; rw [if_neg hne, if_neg h71]; exact a4
  · unfold oqP ooP; rw [if_neg hne, if_pos hx]; exact a2
  · unfold oqT ooT; rw [if_neg hne, if_pos hx]; rfl
  · unfold oqF ooF; rw [if_neg hne, if_pos hx]
/-- The late packet of the turn ahead, where the next secret does not open it. -/
theorem tr_late {z hz ps : List Int} {i : Nat} (h : hz.length = 16) (zp : By ps) (p0 : 4 ≤ ps.length) (p1 : ps.length ≤ 100) (hi : i ≤ 40)
    (hn : nxE (sqL z (i + 1)) (umB hz (pkT z hz i ps) 2) (umN hz (pkT z hz i ps) 2 (i : Int)) (umS hz (pkT z hz i ps) 2) = 71) :
    let b := umB hz (pkT z hz i ps) 2
    let n := umN hz (pkT z hz i ps) 2 (i : Int)
    let s := umS hz (pkT z hz i ps) 2
    let ph := ((i : Int) + 1) % 2
    n = (i : Int) ∧ oqE ph (sqL z (i + 1)) (some (sqL z i)) b n s = 0 ∧ oqP ph (sqL z (i + 1)) b n s = ph ∧ oqT ph (sqL z (i + 1)) b n s = sqL z (i + 1) ∧ oqF ph (sqL z (i + 1)) (some (sqL z i)) b n s = some (sqL z i) := by
  obtain ⟨a1, a2, a3, a4, a5⟩ := tr_all (z := z) (ps := ps) (i := i) (high := (i : Int)) h zp p0 p1 hi (.inr rfl)
  have hne : ¬ phs ((umB hz (pkT z hz i ps) 2).getD 0 0) = ((i : Int) + 1) % 2 := by rw [a2]; omega
  rw [a1] at hn
  dsimp only
  rw [a1]
  refine ⟨rfl, ?_, ?_, ?_, ?_⟩
  · unfold oqE ooE; rw [if_neg hne, if_pos hn]; exact a3
  · unfold oqP ooP; rw [if_neg hne, if_neg (by rw [hn]; omega)]
  · unfold oqT ooT; rw [if_neg hne, if_neg (by rw [hn]; omega)]
  · unfold oqF ooF; rw [if_neg hne, if_neg (by rw [hn]; omega)]
/-- The first packet. -/
theorem tr_first {z hz ps : List Int} (h : hz.length = 16) (zp : By ps) (p0 : 4 ≤ ps.length) (p1 : ps.length ≤ 100) :
    let b := umB hz (pkT z hz 0 ps) 2
    let n := umN hz (pkT z hz 0 ps) 2 (-1)
    let s := umS hz (pkT z hz 0 ps) 2
    n = 0 ∧ oqE 0 z none b n s = 0 ∧ oqR 0 z none b n s = ps ∧ oqP 0 z b n s = 0 ∧ oqT 0 z b n s = z ∧ oqF 0 z none b n s = none := by
  obtain ⟨a1, a2, a3, a4, a5⟩ := tr_all (z := z) (ps := ps) (i := 0) (high := -1) h zp p0 p1 (by omega) (.inl (by omega))
  have hne : phs ((umB hz (pkT z hz 0 ps) 2).getD 0 0) = 0 := a2
  have b1 : umN hz (pkT z hz 0 ps) 2 (-1) = 0 := a1
  dsimp only
  rw [b1]
  refine ⟨rfl, ?_, ?_, ?_, ?_, ?_⟩
  · unfold oqE; rw [if_pos hne]; exact a3
  · unfold oqR; rw [if_pos hne]; exact a4
  · unfold oqP; rw [if_pos hne]
  · unfold oqT; rw [if_pos hne]
  · unfold oqF; rw [if_pos hne]
end Go.Proofs.Ytihmlfpfpadfpaa

/-
  What the document's own Open does: a contract that the statement's walk uses.
-/
namespace Go.Proofs.Ytihmlfpfpadfpaa
open Go.RowKit
set_option linter.unusedVariables false
set_option maxRecDepth 20000

/-- What the document's Open tells of a packet that is long enough. -/
def RAns (B d : Nat) (f : Sv) (ph : Int) (z0 tz : List Int) (fz : Option (List Int)) (bz : List Int) (num : Int) (sz : List Int) (N : Nat) (w : World) (e : Ending) (w' : World) : Prop :=
  ∃ x : Sv, e = .returned (.tuple #[.int .i64 (if oqE ph tz fz bz num sz = 0 then num else 0), .slice x.a x.n x.c, .int .i64 (oqE ph tz fz bz num sz)]) ∧ Keep (FD B d w) w w' ∧
    Row w' x (if oqE ph tz fz bz num sz = 0 then oqR ph tz fz bz num sz else []) ∧ DOp w' B d f (oqP ph tz bz num sz) z0 (oqT ph tz bz num sz) (oqF ph tz fz bz num sz) (N + 1)
theorem row_nil (w : World) : Row w nilS [] := sub_nil w 5 1
theorem DOp.q {w w' : World} {B d N : Nat} {f : Sv} {ph : Int} {z0 tz : List Int} {fz : Option (List Int)} (h : DOp w B d f ph z0 tz fz N) (q : Q w w') : DOp w' B d f ph z0 tz fz (N + 1) := by
  obtain ⟨S, ys, x, h1, h2, h3, h4, h5, h6, h7, h8⟩ := h.ex
  refine ⟨⟨S, ys, x, h1.q q, ⟨Sub.q h2.1 q, h2.2.q q⟩, h3, h4.q q, h5.q q, h6, by omega, ?_⟩, h.ff.q q, h.fn, h.fs, h.dB⟩
  cases fz with
  | none => exact h8
  | some z =>
    obtain ⟨zs, y, a1, a2, a3, a4⟩ := h8
    exact ⟨zs, y, a1, a2.q q, a3.q q, a4⟩
/-- The end of a call that told an error, or opened without a turn. -/
theorem rans_q {B d : Nat} {f : Sv} {ph : Int} {z0 tz : List Int} {fz : Option (List Int)} {bz : List Int} {num : Int} {sz : List Int} {N : Nat} {w w' : World} {e : Ending} (ho : DOp w B d f ph z0 tz fz N) (q : Q w w') (E : Int) (hE : oqE ph tz fz bz num sz = E)
    (hP : oqP ph tz bz num sz = ph) (hT : oqT ph tz bz num sz = tz) (hF : oqF ph tz fz bz num sz = fz) (x : Sv) (he : e = .returned (.tuple #[.int .i64 (if E = 0 then num else 0), .slice x.a x.n x.c, .int .i64 E])) (hr : Row w' x (if E = 0 then oqR ph tz fz bz num sz else [])) : RAns B d f ph z0 tz fz bz num sz N w e w' := by
  unfold RAns
  rw [hE, hP, hT, hF]
  exact ⟨x, he, Keep.ofQ q, hr, ho.q q⟩
theorem row_turn {u v z : World} {sg so d : Nat} {x : Sv} {zs : List Int} {c2 c6 : Array Value} (hr : Row u x zs) (h22 : u.heap[sg]? = some (.cells c2 22 (0, 0))) (k : Keep (fun b => blk (some (⟨sg, so, none⟩ : Addr)) = some b) u v) (hd : v.heap[d]? = some (.cells c6 64 (0, 0))) (k2 : Keep (fun i => i = d) v z) : Row z x zs := by
  have hs := Row.sf hr 0
  have r1 : Row v x zs := Sub.keep hr k (by
    intro b hb e
    simp [blk] at e
    subst e
    rcases hs _ hb with h0 | ⟨cur, h1⟩
    · omega
    · rw [h22] at h1; simp at h1)
  have hs1 := Row.sf r1 0
  exact Sub.keep r1 k2 (by
    rintro b hb rfl
    rcases hs1 _ hb with h0 | ⟨cur, h1⟩
    · omega
    · rw [hd] at h1; simp at h1)
theorem usE_cases {kz iz bz : List Int} {num : Int} {sz : List Int} : usE kz iz bz num sz = 0 ∨ usE kz iz bz num sz = 71 ∨ usE kz iz bz num sz = 81 := by
  unfold usE
  split
  · exact .inr (.inl rfl)
  · split
    · exact .inr (.inr rfl)
    · exact .inl rfl
set_option maxHeartbeats 8000000 in
theorem ro_same (B d : Nat) (f pk : Sv) (ph high : Int) (at_ : Nat) (z0 tz : List Int) (fz : Option (List Int)) (ps : List Int) (N : Nat) (w : World) (ho : DOp w B d f ph z0 tz fz N) (hp : In w pk ps) (bp : pk.n ≤ 140737488355328) (bc : pk.n ≤ pk.c) (hc : chP pk.n at_ high = 0) (hB : B ≤ w.heap.size) (hN : N ≤ 1900000000000) (hA : phs ((umB (hpL z0) ps at_).getD 0 0) = ph) :
    Calls Try.prog 27 #[.pointer (some ⟨d, 0, none⟩), .slice pk.a pk.n pk.c, .int .i64 (at_ : Int), .int .i64 high] w fun e w' => RAns B d f ph z0 tz fz (umB (hpL z0) ps at_) (umN (hpL z0) ps at_ high) (umS (hpL z0) ps at_) N w e w' := by
  obtain ⟨fa, fn, fc⟩ := f
  have hfn0' : fn = 16 := ho.fn
  subst hfn0'
  obtain ⟨o1, o2, o3, o4, o5, o6⟩ := chP_ok hc
  have hpl : ps.length = pk.n := hp.l
  have LB := hid (umB_len (hpL z0) ps at_ (by omega))
  have LS := hid (umS_len (hpL z0) ps at_)
  have WR := hid (umW_range (hpL z0) ps at_)
  have NR := hid (umN_range (hpL z0) ps at_ high)
  have FB := hid (umB_fst (hpL z0) ps at_ (by omega) (by omega))
  have FL := hid (umF_lt (hpL z0) hp.z at_)
  have HCK := hid (fun (u : World) => rpacket_any pk (at_ : Int) high u (by omega) (by omega) (by omega))
  rw [hc] at HCK
  have HUM := hid (fun (u : World) (h : Sv) (q : Q w u) (hh : In u h (hpL z0)) (lh : h.n = 16) => runmask_any h pk (hpL z0) ps at_ high u hh (hp.q q) lh (by omega) (by omega) (by omega) (by omega) bc)
  have HUS := hid (fun (u : World) (b s k i : Sv) (kz iz : List Int) (ib : In u b (umB (hpL z0) ps at_)) (is_ : In u s (umS (hpL z0) ps at_)) (hsc : s.n ≤ s.c) (ik : In u k kz) (ii : In u i iz) (lk : k.n = 16) (li : i.n = 12) => runseal_any (umF (hpL z0) ps at_) (umN (hpL z0) ps at_ high) b s k i (umB (hpL z0) ps at_) (umS (hpL z0) ps at_) kz iz u ib is_ ik ii FB.out FL.out lk li (by have h1 := ib.l; rw [LB.out] at h1; have := WR.out; omega) (by have h1 := is_.l; rw [LS.out] at h1; have := WR.out; omega) (by have h1 := is_.l; rw [LS.out] at h1; have := WR.out; omega) hsc NR.out.1 NR.out.2)
  have hph := phs_u8 FL.out
  rw [← FB.out] at hph
  have hF0 := FL.out.1
  have hFt : (umF (hpL z0) ps at_).tdiv 4 = umF (hpL z0) ps at_ / 4 := Int.tdiv_eq_ediv_of_nonneg hF0
  have hFm : (umF (hpL z0) ps at_ / 4).tmod 2 = umF (hpL z0) ps at_ / 4 % 2 := Int.tmod_eq_emod_of_nonneg (by omega)
  rw [FB.out] at hph
  have HO := hid ho
  obtain ⟨S, ys, ⟨xa, xn, xc⟩, hDB, ⟨hSR, hSA⟩, hSB, hx, hxs, hxn, hSN, hfz⟩ := ho.ex
  have hxn' : xn = 16 := hxn
  subst hxn'
  have hSl := hSR.len
  rw [List.length_append] at hSl
  have hSl2 : S.n = ys.length + 1 := by simpa using hSl.symm
  obtain ⟨sg, so, hSa, hcx⟩ := hSR.at_ (j := ys.length) (x := ⟨xa, 16, xc⟩) (by simp)
  obtain ⟨Sa, Sn, Sc⟩ := S
  dsimp only at hSa hSl2 hSB hSN
  subst hSa hSl2
  have c0 := hDB.c0
  have c1 := hDB.c1
  have c2 := hDB.c2
  dsimp only at c0 c1 c2 hcx
  have hld := lt_of_cell c0
  have hls := lt_of_cell hcx
  have HX := hid hx
  have HFF := hid ho.ff
  have hm12 : ys.length ≤ 1900000000000 := by omega
  have HALL := hid (And.intro hDB (And.intro (And.intro hSR hSA) (And.intro hSB (And.intro hxs (And.intro hfz hSN)))))
  have HPH := hid (And.intro hph (And.intro hFt (And.intro hFm hF0)))
  clear hDB hSR hSA hSB hx hxs hfz hSl hpl hp ho hph hFt hFm hF0 o1 o2 o3 o4 o5 o6 bp bc hc hSN
  have hsm : (phs (umF (hpL z0) ps at_) == ph) = true := by rw [← FB.out, hA]; simp
  have hA' := hA
  rw [FB.out] at hA'
  have HA := hid hA
  clear hA
  generalize umB (hpL z0) ps at_ = bz at *
  generalize umN (hpL z0) ps at_ high = num at *
  generalize umS (hpL z0) ps at_ = sz at *
  generalize umF (hpL z0) ps at_ = FF at *
  go_enter Try.func27, Try.ntmps27
  go_wp2_with (first
    | (go_at_call 54; refine (HCK.out _).mono ?_; rintro e w0 ⟨rfl, rfl⟩)
    | (go_at_call 13; refine (rmake_16 ⟨fa, 16, fc⟩ z0 _ HFF.out rfl).mono ?_; rintro e w1 ⟨k0, i0, h0, rfl, q1, k1, kn0, in0, hn0⟩; have Q1 := hid q1; have K1 := hid k1; have HN0 := hid hn0; clear q1 k1 kn0 in0 hn0)
    | (refine wpList_store_row rfl 33 _ _ rfl w1.heap.size (kcells k0 i0 h0) rfl rfl 33 _ (heap_alloc_new w1 _) (kinfo33 _ _ _) rfl (kc_one _ _ _) ?_; refine Hid.out ?_))
  refine hid ?_
  generalize hw2 : World.setRow _ _ _ = w2
  have q2 : Q w1 w2 := by rw [← hw2]; exact (((Keep.refl (fun _ => False) w1).alloc _).setRow _ _ (.inr (Nat.le_refl _))).toQ (fun _ _ h => h)
  have B2 := hid (show KB w2 w1.heap.size 33 k0 i0 h0 from by rw [← hw2]; exact setRow_heap _ _ _ _ 33 _ (heap_alloc_new w1 _))
  clear hw2
  have Q2 := hid (Q1.out.trans q2)
  have H2 := hid (K1.out.h.q q2)
  have GE := hid (show w.heap.size ≤ w1.heap.size from Q1.out.size)
  clear q2 Q1 K1
  generalize w1.heap.size = kb at *
  clear w1
  have ck2 := B2.out.c2
  go_wp2_with (first
    | (go_at_call 55; refine (HUM.out _ h0 Q2.out H2.out HN0.out).mono ?_; rintro e w3 ⟨b, s, rfl, q3, ib3, is3, sc3⟩; have Q3 := hid (Q2.out.trans q3); have B3 := hid (B2.out.q q3); have IB3 := hid ib3; have IS3 := hid is3; have SC := hid sc3; clear q3 ib3 is3 sc3)
    | (refine wpList_store_row rfl 103 _ _ rfl w3.heap.size (rcells FF num b s) rfl rfl 103 _ (heap_alloc_new w3 _) (rinfo _ _ _ _) rfl (rc_one _ _ _ _) ?_; refine Hid.out ?_))
  refine hid ?_
  generalize hw4 : World.setRow _ _ _ = w4
  have q4 : Q w3 w4 := by rw [← hw4]; exact (((Keep.refl (fun _ => False) w3).alloc _).setRow _ _ (.inr (Nat.le_refl _))).toQ (fun _ _ h => h)
  have R4 := hid (show RB w4 w3.heap.size FF num b s from by rw [← hw4]; exact setRow_heap _ _ _ _ 103 _ (heap_alloc_new w3 _))
  clear hw4
  have HGU := hid (show w.heap.size ≤ w3.heap.size from Q3.out.size)
  have NE := hid (show w3.heap.size ≠ kb from by have h5 := lt_of_block B3.out; omega)
  have Q4 := hid (Q3.out.trans q4)
  have B4 := hid (B3.out.q q4)
  have IB4 := hid (IB3.out.q q4)
  have IS4 := hid (IS3.out.q q4)
  clear q4 Q3 B3 IB3 IS3 Q2 B2 H2 ck2 HN0 HUM HCK
  generalize w3.heap.size = ub at *
  clear w2 w3
  have cF := R4.out.c0
  obtain ⟨hph, hFt, hFm, hF0⟩ := HPH.out
  have d1 := (Q4.out.cell (p := ⟨d, 1, none⟩) hld).trans c1
  have d2 := (Q4.out.cell (p := ⟨d, 2, none⟩) hld).trans c2
  have dx := (Q4.out.cell (p := ⟨sg, so + ys.length, none⟩) hls).trans hcx
  have hP1 : phs FF = 0 ∨ phs FF = 1 := by unfold phs; split <;> omega
  clear FB FL LB LS WR NR
  rw [hA'] at hph hsm
  clear hA' hP1
  have HE := hid (show oqE ph tz fz bz num sz = usE (kyL tz) (ivL tz) bz num sz from by unfold oqE; rw [if_pos HA.out])
  have HR := hid (show oqR ph tz fz bz num sz = usR (kyL tz) (ivL tz) bz num sz from by unfold oqR; rw [if_pos HA.out])
  have HP := hid (show oqP ph tz bz num sz = ph from by unfold oqP; rw [if_pos HA.out])
  have HT := hid (show oqT ph tz bz num sz = tz from by unfold oqT; rw [if_pos HA.out])
  have HF := hid (show oqF ph tz fz bz num sz = fz from by unfold oqF; rw [if_pos HA.out])
  go_wp2_with (first
    | (go_at_call 13; refine (rmake_16 ⟨xa, 16, xc⟩ tz _ (HX.out.q Q4.out) rfl).mono ?_; rintro e w5 ⟨k5, i5, h5, rfl, q5, kk5, kn5, in5, -⟩; have HKN := hid kn5; have HIN := hid in5; clear kn5 in5; have Q5 := hid (Q4.out.trans q5); have B5 := hid (B4.out.q q5); have R5 := hid (R4.out.q q5); have IB5 := hid (IB4.out.q q5); have IS5 := hid (IS4.out.q q5); have K5 := hid kk5; clear q5 kk5)
    | (refine wpList_store_row rfl 33 _ _ rfl kb (kcells k5 i5 h5) rfl rfl 33 _ B5.out (kinfo33 _ _ _) rfl (kc_one _ _ _) ?_; refine Hid.out ?_))
  refine hid ?_
  generalize hw6 : World.setRow _ _ _ = w6
  have k6 : Keep (fun i => i = kb) w5 w6 := by rw [← hw6]; exact (Keep.refl _ w5).setRow _ _ (.inl rfl)
  have B6 := hid (show KB w6 kb 33 k5 i5 h5 from by rw [← hw6]; exact setRow_heap _ _ _ _ 33 _ B5.out)
  clear hw6
  have Q6 := hid (show Q w w6 from k6.below Q5.out Q5.out.size (fun i e => by have := GE.out; omega))
  have R6 := hid (show RB w6 ub FF num b s from (k6.block ub (lt_of_block R5.out) NE.out).trans R5.out)
  have IB6 := hid (in_keepK IB5.out B5.out k6)
  have IS6 := hid (in_keepK IS5.out B5.out k6)
  have IK6 := hid (in_keepK K5.out.k B5.out k6)
  have II6 := hid (in_keepK K5.out.i B5.out k6)
  clear k6 Q5 B5 R5 IB5 IS5 K5 Q4 B4 R4 IB4 IS4 d1 d2 dx cF
  have ck0 := B6.out.c0
  have ck1 := B6.out.c1
  have cu1 := R6.out.c1
  have hlu := lt_of_cell cu1
  have HC := hid (HUS.out w6 b s k5 i5 (kyL tz) (ivL tz) IB6.out IS6.out SC.out IK6.out II6.out HKN.out HIN.out)
  rcases usE_cases (kz := kyL tz) (iz := ivL tz) (bz := bz) (num := num) (sz := sz) with hu | hu
  · rw [hu] at HC HE
    go_wp2_with (first
      | (refine wpList_load_row rfl 103 _ rfl ub rfl 103 (rcells FF num b s) (0, 0) _ R6.out Try.underlying103 rfl (rinfo _ _ _ _) ?_)
      | (go_at_call 56; refine HC.out.mono ?_; rintro e w7 ⟨xr, rfl, q7, r7⟩; have Q7 := hid (Q6.out.trans q7); have X7 := hid r7; have cu7 := (q7.cell (p := ⟨ub, 1, none⟩) hlu).trans cu1; clear q7 r7))
    go_ret3
    exact rans_q HO.out Q7.out 0 HE.out HP.out HT.out HF.out xr rfl (by rw [if_pos rfl, HR.out]; exact X7.out)
  · obtain ⟨E, hE⟩ : ∃ E, usE (kyL tz) (ivL tz) bz num sz = E := ⟨_, rfl⟩
    rw [hE] at HC HE hu
    have hne : (E != 0) = true := by simp; omega
    have hne0 : ¬ E = 0 := by omega
    have HNE := hid hne0
    clear hu hE hne0
    go_wp2_with (first
      | (refine wpList_load_row rfl 103 _ rfl ub rfl 103 (rcells FF num b s) (0, 0) _ R6.out Try.underlying103 rfl (rinfo _ _ _ _) ?_)
      | (go_at_call 56; refine HC.out.mono ?_; rintro e w7 ⟨xr, rfl, q7, r7⟩; have Q7 := hid (Q6.out.trans q7); clear q7 r7))
    go_ret3
    exact rans_q HO.out Q7.out E HE.out HP.out HT.out HF.out nilS (by rw [if_neg HNE.out]; rfl) (by rw [if_neg HNE.out]; exact row_nil _)

set_option maxHeartbeats 8000000 in
theorem ro_81 (B d : Nat) (f pk : Sv) (ph high : Int) (at_ : Nat) (z0 tz : List Int) (fz : Option (List Int)) (ps : List Int) (N : Nat) (w : World) (ho : DOp w B d f ph z0 tz fz N) (hp : In w pk ps) (bp : pk.n ≤ 140737488355328) (bc : pk.n ≤ pk.c) (hc : chP pk.n at_ high = 0) (hB : B ≤ w.heap.size) (hN : N ≤ 1900000000000) (hA : ¬ phs ((umB (hpL z0) ps at_).getD 0 0) = ph) (hNX : nxE tz (umB (hpL z0) ps at_) (umN (hpL z0) ps at_ high) (umS (hpL z0) ps at_) = 81) :
    Calls Try.prog 27 #[.pointer (some ⟨d, 0, none⟩), .slice pk.a pk.n pk.c, .int .i64 (at_ : Int), .int .i64 high] w fun e w' => RAns B d f ph z0 tz fz (umB (hpL z0) ps at_) (umN (hpL z0) ps at_ high) (umS (hpL z0) ps at_) N w e w' := by
  obtain ⟨fa, fn, fc⟩ := f
  have hfn0' : fn = 16 := ho.fn
  subst hfn0'
  obtain ⟨o1, o2, o3, o4, o5, o6⟩ := chP_ok hc
  have hpl : ps.length = pk.n := hp.l
  have LB := hid (umB_len (hpL z0) ps at_ (by omega))
  have LS := hid (umS_len (hpL z0) ps at_)
  have WR := hid (umW_range (hpL z0) ps at_)
  have NR := hid (umN_range (hpL z0) ps at_ high)
  have FB := hid (umB_fst (hpL z0) ps at_ (by omega) (by omega))
  have FL := hid (umF_lt (hpL z0) hp.z at_)
  have HCK := hid (fun (u : World) => rpacket_any pk (at_ : Int) high u (by omega) (by omega) (by omega))
  rw [hc] at HCK
  have HUM := hid (fun (u : World) (h : Sv) (q : Q w u) (hh : In u h (hpL z0)) (lh : h.n = 16) => runmask_any h pk (hpL z0) ps at_ high u hh (hp.q q) lh (by omega) (by omega) (by omega) (by omega) bc)
  have HUS := hid (fun (u : World) (b s k i : Sv) (kz iz : List Int) (ib : In u b (umB (hpL z0) ps at_)) (is_ : In u s (umS (hpL z0) ps at_)) (hsc : s.n ≤ s.c) (ik : In u k kz) (ii : In u i iz) (lk : k.n = 16) (li : i.n = 12) => runseal_any (umF (hpL z0) ps at_) (umN (hpL z0) ps at_ high) b s k i (umB (hpL z0) ps at_) (umS (hpL z0) ps at_) kz iz u ib is_ ik ii FB.out FL.out lk li (by have h1 := ib.l; rw [LB.out] at h1; have := WR.out; omega) (by have h1 := is_.l; rw [LS.out] at h1; have := WR.out; omega) (by have h1 := is_.l; rw [LS.out] at h1; have := WR.out; omega) hsc NR.out.1 NR.out.2)
  have hph := phs_u8 FL.out
  rw [← FB.out] at hph
  have hF0 := FL.out.1
  have hFt : (umF (hpL z0) ps at_).tdiv 4 = umF (hpL z0) ps at_ / 4 := Int.tdiv_eq_ediv_of_nonneg hF0
  have hFm : (umF (hpL z0) ps at_ / 4).tmod 2 = umF (hpL z0) ps at_ / 4 % 2 := Int.tmod_eq_emod_of_nonneg (by omega)
  rw [FB.out] at hph
  have HO := hid ho
  obtain ⟨S, ys, ⟨xa, xn, xc⟩, hDB, ⟨hSR, hSA⟩, hSB, hx, hxs, hxn, hSN, hfz⟩ := ho.ex
  have hxn' : xn = 16 := hxn
  subst hxn'
  have hSl := hSR.len
  rw [List.length_append] at hSl
  have hSl2 : S.n = ys.length + 1 := by simpa using hSl.symm
  obtain ⟨sg, so, hSa, hcx⟩ := hSR.at_ (j := ys.length) (x := ⟨xa, 16, xc⟩) (by simp)
  obtain ⟨Sa, Sn, Sc⟩ := S
  dsimp only at hSa hSl2 hSB hSN
  subst hSa hSl2
  have c0 := hDB.c0
  have c1 := hDB.c1
  have c2 := hDB.c2
  dsimp only at c0 c1 c2 hcx
  have hld := lt_of_cell c0
  have hls := lt_of_cell hcx
  have HX := hid hx
  have HFF := hid ho.ff
  have hm12 : ys.length ≤ 1900000000000 := by omega
  have HALL := hid (And.intro hDB (And.intro (And.intro hSR hSA) (And.intro hSB (And.intro hxs (And.intro hfz hSN)))))
  have HPH := hid (And.intro hph (And.intro hFt (And.intro hFm hF0)))
  clear hDB hSR hSA hSB hx hxs hfz hSl hpl hp ho hph hFt hFm hF0 o1 o2 o3 o4 o5 o6 bp bc hc hSN
  have hsm : (phs (umF (hpL z0) ps at_) == ph) = false := by have h9 := hA; rw [FB.out] at h9; simp [h9]
  have HA := hid hA
  have HFB := hid FB.out
  clear hA
  generalize umB (hpL z0) ps at_ = bz at *
  generalize umN (hpL z0) ps at_ high = num at *
  generalize umS (hpL z0) ps at_ = sz at *
  generalize umF (hpL z0) ps at_ = FF at *
  go_enter Try.func27, Try.ntmps27
  go_wp2_with (first
    | (go_at_call 54; refine (HCK.out _).mono ?_; rintro e w0 ⟨rfl, rfl⟩)
    | (go_at_call 13; refine (rmake_16 ⟨fa, 16, fc⟩ z0 _ HFF.out rfl).mono ?_; rintro e w1 ⟨k0, i0, h0, rfl, q1, k1, kn0, in0, hn0⟩; have Q1 := hid q1; have K1 := hid k1; have HN0 := hid hn0; clear q1 k1 kn0 in0 hn0)
    | (refine wpList_store_row rfl 33 _ _ rfl w1.heap.size (kcells k0 i0 h0) rfl rfl 33 _ (heap_alloc_new w1 _) (kinfo33 _ _ _) rfl (kc_one _ _ _) ?_; refine Hid.out ?_))
  refine hid ?_
  generalize hw2 : World.setRow _ _ _ = w2
  have q2 : Q w1 w2 := by rw [← hw2]; exact (((Keep.refl (fun _ => False) w1).alloc _).setRow _ _ (.inr (Nat.le_refl _))).toQ (fun _ _ h => h)
  have B2 := hid (show KB w2 w1.heap.size 33 k0 i0 h0 from by rw [← hw2]; exact setRow_heap _ _ _ _ 33 _ (heap_alloc_new w1 _))
  clear hw2
  have Q2 := hid (Q1.out.trans q2)
  have H2 := hid (K1.out.h.q q2)
  have GE := hid (show w.heap.size ≤ w1.heap.size from Q1.out.size)
  clear q2 Q1 K1
  generalize w1.heap.size = kb at *
  clear w1
  have ck2 := B2.out.c2
  go_wp2_with (first
    | (go_at_call 55; refine (HUM.out _ h0 Q2.out H2.out HN0.out).mono ?_; rintro e w3 ⟨b, s, rfl, q3, ib3, is3, sc3⟩; have Q3 := hid (Q2.out.trans q3); have B3 := hid (B2.out.q q3); have IB3 := hid ib3; have IS3 := hid is3; have SC := hid sc3; clear q3 ib3 is3 sc3)
    | (refine wpList_store_row rfl 103 _ _ rfl w3.heap.size (rcells FF num b s) rfl rfl 103 _ (heap_alloc_new w3 _) (rinfo _ _ _ _) rfl (rc_one _ _ _ _) ?_; refine Hid.out ?_))
  refine hid ?_
  generalize hw4 : World.setRow _ _ _ = w4
  have q4 : Q w3 w4 := by rw [← hw4]; exact (((Keep.refl (fun _ => False) w3).alloc _).setRow _ _ (.inr (Nat.le_refl _))).toQ (fun _ _ h => h)
  have R4 := hid (show RB w4 w3.heap.size FF num b s from by rw [← hw4]; exact setRow_heap _ _ _ _ 103 _ (heap_alloc_new w3 _))
  clear hw4
  have HGU := hid (show w.heap.size ≤ w3.heap.size from Q3.out.size)
  have NE := hid (show w3.heap.size ≠ kb from by have h5 := lt_of_block B3.out; omega)
  have Q4 := hid (Q3.out.trans q4)
  have B4 := hid (B3.out.q q4)
  have IB4 := hid (IB3.out.q q4)
  have IS4 := hid (IS3.out.q q4)
  clear q4 Q3 B3 IB3 IS3 Q2 B2 H2 ck2 HN0 HUM HCK
  generalize w3.heap.size = ub at *
  clear w2 w3
  have cF := R4.out.c0
  obtain ⟨hph, hFt, hFm, hF0⟩ := HPH.out
  have d1 := (Q4.out.cell (p := ⟨d, 1, none⟩) hld).trans c1
  have d2 := (Q4.out.cell (p := ⟨d, 2, none⟩) hld).trans c2
  have dx := (Q4.out.cell (p := ⟨sg, so + ys.length, none⟩) hls).trans hcx
  have hP1 : phs FF = 0 ∨ phs FF = 1 := by unfold phs; split <;> omega
  clear FB FL LB LS WR NR
  obtain ⟨PP, hPP⟩ : ∃ PP, phs FF = PP := ⟨_, rfl⟩
  rw [hPP] at hph hsm hP1
  have HPP := hid (show phs (bz.getD 0 0) = PP from by rw [HFB.out]; exact hPP)
  clear hPP
  go_wp2_with (first
    | (go_at_call 15; refine (rnext_16 ⟨xa, 16, xc⟩ tz _ (HX.out.q Q4.out) rfl).mono ?_; rintro e w5 ⟨nx, rfl, q5, r5, nn5⟩; have HNN := hid nn5; clear nn5; have Q5 := hid (Q4.out.trans q5); have B5 := hid (B4.out.q q5); have R5 := hid (R4.out.q q5); have IB5 := hid (IB4.out.q q5); have IS5 := hid (IS4.out.q q5); have X5 := hid r5; clear q5 r5)
    | (go_at_call 13; refine (rmake_16 nx (kuL tz) _ (row_in X5.out (exL_lt _ _ _)) HNN.out).mono ?_; rintro e w6 ⟨k5, i5, h5, rfl, q6, kk5, kn5, in5, -⟩; have HKN := hid kn5; have HIN := hid in5; clear kn5 in5; have Q6 := hid (Q5.out.trans q6); have B6 := hid (B5.out.q q6); have R6 := hid (R5.out.q q6); have IB6 := hid (IB5.out.q q6); have IS6 := hid (IS5.out.q q6); have X6 := hid (Sub.q X5.out q6); have K6 := hid kk5; clear q6 kk5)
    | (refine wpList_store_row rfl 33 _ _ rfl kb (kcells k5 i5 h5) rfl rfl 33 _ B6.out (kinfo33 _ _ _) rfl (kc_one _ _ _) ?_; refine Hid.out ?_))
  refine hid ?_
  generalize hw7 : World.setRow _ _ _ = w7
  have k7 : Keep (fun i => i = kb) w6 w7 := by rw [← hw7]; exact (Keep.refl _ w6).setRow _ _ (.inl rfl)
  have B7 := hid (show KB w7 kb 33 k5 i5 h5 from by rw [← hw7]; exact setRow_heap _ _ _ _ 33 _ B6.out)
  clear hw7
  have Q7 := hid (show Q w w7 from k7.below Q6.out Q6.out.size (fun i e => by have := GE.out; omega))
  have R7 := hid (show RB w7 ub FF num b s from (k7.block ub (lt_of_block R6.out) NE.out).trans R6.out)
  have IB7 := hid (in_keepK IB6.out B6.out k7)
  have IS7 := hid (in_keepK IS6.out B6.out k7)
  have IK7 := hid (in_keepK K6.out.k B6.out k7)
  have II7 := hid (in_keepK K6.out.i B6.out k7)
  have X7 := hid (row_keepK (show Row w6 nx (kuL tz) from X6.out) B6.out (by omega) k7)
  clear k7 Q5 B5 R5 IB5 IS5 X5 Q6 B6 R6 IB6 IS6 K6 X6 Q4 B4 R4 IB4 IS4 d1 d2 dx cF
  have ck0 := B7.out.c0
  have ck1 := B7.out.c1
  have cu1 := R7.out.c1
  have hlu := lt_of_cell cu1
  have HC := hid (HUS.out w7 b s k5 i5 (kyL (kuL tz)) (ivL (kuL tz)) IB7.out IS7.out SC.out IK7.out II7.out HKN.out HIN.out)
  have HE := hid (show oqE ph tz fz bz num sz = 81 from by unfold oqE ooE; rw [if_neg HA.out]; rw [if_neg (by rw [hNX]; omega)]; exact hNX)
  have HP := hid (show oqP ph tz bz num sz = ph from by unfold oqP ooP; rw [if_neg HA.out, if_neg (by rw [hNX]; omega)])
  have HT := hid (show oqT ph tz bz num sz = tz from by unfold oqT ooT; rw [if_neg HA.out, if_neg (by rw [hNX]; omega)])
  have HF := hid (show oqF ph tz fz bz num sz = fz from by unfold oqF ooF; rw [if_neg HA.out, if_neg (by rw [hNX]; omega)])
  have HC2 := hid (show Calls Try.prog 56 _ w7 _ from HC.out)
  have hus : usE (kyL (kuL tz)) (ivL (kuL tz)) bz num sz = 81 := hNX
  rw [hus] at HC
  clear HC2 hNX hus
  go_wp2_with (first
    | (refine wpList_load_row rfl 103 _ rfl ub rfl 103 (rcells FF num b s) (0, 0) _ R7.out Try.underlying103 rfl (rinfo _ _ _ _) ?_)
    | (go_at_call 56; refine HC.out.mono ?_; rintro e w8 ⟨xr, rfl, q8, r8⟩; have Q8 := hid (Q7.out.trans q8); clear q8 r8))
  go_ret3
  exact rans_q HO.out Q8.out 81 HE.out HP.out HT.out HF.out nilS (by rw [if_neg (by omega)]; rfl) (by rw [if_neg (by omega)]; exact row_nil _)

set_option maxHeartbeats 8000000 in
theorem ro_none (B d : Nat) (f pk : Sv) (ph high : Int) (at_ : Nat) (z0 tz : List Int) (fz : Option (List Int)) (ps : List Int) (N : Nat) (w : World) (ho : DOp w B d f ph z0 tz fz N) (hp : In w pk ps) (bp : pk.n ≤ 140737488355328) (bc : pk.n ≤ pk.c) (hc : chP pk.n at_ high = 0) (hB : B ≤ w.heap.size) (hN : N ≤ 1900000000000) (hA : ¬ phs ((umB (hpL z0) ps at_).getD 0 0) = ph) (hNX : nxE tz (umB (hpL z0) ps at_) (umN (hpL z0) ps at_ high) (umS (hpL z0) ps at_) = 71) (hfn0 : fz = none) :
    Calls Try.prog 27 #[.pointer (some ⟨d, 0, none⟩), .slice pk.a pk.n pk.c, .int .i64 (at_ : Int), .int .i64 high] w fun e w' => RAns B d f ph z0 tz fz (umB (hpL z0) ps at_) (umN (hpL z0) ps at_ high) (umS (hpL z0) ps at_) N w e w' := by
  obtain ⟨fa, fn, fc⟩ := f
  have hfn0' : fn = 16 := ho.fn
  subst hfn0'
  obtain ⟨o1, o2, o3, o4, o5, o6⟩ := chP_ok hc
  have hpl : ps.length = pk.n := hp.l
  have LB := hid (umB_len (hpL z0) ps at_ (by omega))
  have LS := hid (umS_len (hpL z0) ps at_)
  have WR := hid (umW_range (hpL z0) ps at_)
  have NR := hid (umN_range (hpL z0) ps at_ high)
  have FB := hid (umB_fst (hpL z0) ps at_ (by omega) (by omega))
  have FL := hid (umF_lt (hpL z0) hp.z at_)
  have HCK := hid (fun (u : World) => rpacket_any pk (at_ : Int) high u (by omega) (by omega) (by omega))
  rw [hc] at HCK
  have HUM := hid (fun (u : World) (h : Sv) (q : Q w u) (hh : In u h (hpL z0)) (lh : h.n = 16) => runmask_any h pk (hpL z0) ps at_ high u hh (hp.q q) lh (by omega) (by omega) (by omega) (by omega) bc)
  have HUS := hid (fun (u : World) (b s k i : Sv) (kz iz : List Int) (ib : In u b (umB (hpL z0) ps at_)) (is_ : In u s (umS (hpL z0) ps at_)) (hsc : s.n ≤ s.c) (ik : In u k kz) (ii : In u i iz) (lk : k.n = 16) (li : i.n = 12) => runseal_any (umF (hpL z0) ps at_) (umN (hpL z0) ps at_ high) b s k i (umB (hpL z0) ps at_) (umS (hpL z0) ps at_) kz iz u ib is_ ik ii FB.out FL.out lk li (by have h1 := ib.l; rw [LB.out] at h1; have := WR.out; omega) (by have h1 := is_.l; rw [LS.out] at h1; have := WR.out; omega) (by have h1 := is_.l; rw [LS.out] at h1; have := WR.out; omega) hsc NR.out.1 NR.out.2)
  have hph := phs_u8 FL.out
  rw [← FB.out] at hph
  have hF0 := FL.out.1
  have hFt : (umF (hpL z0) ps at_).tdiv 4 = umF (hpL z0) ps at_ / 4 := Int.tdiv_eq_ediv_of_nonneg hF0
  have hFm : (umF (hpL z0) ps at_ / 4).tmod 2 = umF (hpL z0) ps at_ / 4 % 2 := Int.tmod_eq_emod_of_nonneg (by omega)
  rw [FB.out] at hph
  have HO := hid ho
  obtain ⟨S, ys, ⟨xa, xn, xc⟩, hDB, ⟨hSR, hSA⟩, hSB, hx, hxs, hxn, hSN, hfz⟩ := ho.ex
  have hxn' : xn = 16 := hxn
  subst hxn'
  have hys0 : ys.length = 0 := by rw [hfn0] at hfz; rw [show ys = [] from hfz]; rfl
  have hgt1 : decide ((ys.length : Int) + 1 > 1) = false := by rw [hys0]; rfl
  have hgt2 : decide ((1 : Int) < (ys.length : Int) + 1) = false := by rw [hys0]; rfl
  have hgt3 : decide (0 < ys.length) = false := by rw [hys0]; rfl
  have hgt4 : decide ((0 : Int) < (ys.length : Int)) = false := by rw [hys0]; rfl
  clear hys0
  have hSl := hSR.len
  rw [List.length_append] at hSl
  have hSl2 : S.n = ys.length + 1 := by simpa using hSl.symm
  obtain ⟨sg, so, hSa, hcx⟩ := hSR.at_ (j := ys.length) (x := ⟨xa, 16, xc⟩) (by simp)
  obtain ⟨Sa, Sn, Sc⟩ := S
  dsimp only at hSa hSl2 hSB hSN
  subst hSa hSl2
  have c0 := hDB.c0
  have c1 := hDB.c1
  have c2 := hDB.c2
  dsimp only at c0 c1 c2 hcx
  have hld := lt_of_cell c0
  have hls := lt_of_cell hcx
  have HX := hid hx
  have HFF := hid ho.ff
  have hm12 : ys.length ≤ 1900000000000 := by omega
  have HALL := hid (And.intro hDB (And.intro (And.intro hSR hSA) (And.intro hSB (And.intro hxs (And.intro hfz hSN)))))
  have HPH := hid (And.intro hph (And.intro hFt (And.intro hFm hF0)))
  clear hDB hSR hSA hSB hx hxs hfz hSl hpl hp ho hph hFt hFm hF0 o1 o2 o3 o4 o5 o6 bp bc hc hSN
  have hsm : (phs (umF (hpL z0) ps at_) == ph) = false := by have h9 := hA; rw [FB.out] at h9; simp [h9]
  have HA := hid hA
  have HFB := hid FB.out
  clear hA
  generalize umB (hpL z0) ps at_ = bz at *
  generalize umN (hpL z0) ps at_ high = num at *
  generalize umS (hpL z0) ps at_ = sz at *
  generalize umF (hpL z0) ps at_ = FF at *
  go_enter Try.func27, Try.ntmps27
  go_wp2_with (first
    | (go_at_call 54; refine (HCK.out _).mono ?_; rintro e w0 ⟨rfl, rfl⟩)
    | (go_at_call 13; refine (rmake_16 ⟨fa, 16, fc⟩ z0 _ HFF.out rfl).mono ?_; rintro e w1 ⟨k0, i0, h0, rfl, q1, k1, kn0, in0, hn0⟩; have Q1 := hid q1; have K1 := hid k1; have HN0 := hid hn0; clear q1 k1 kn0 in0 hn0)
    | (refine wpList_store_row rfl 33 _ _ rfl w1.heap.size (kcells k0 i0 h0) rfl rfl 33 _ (heap_alloc_new w1 _) (kinfo33 _ _ _) rfl (kc_one _ _ _) ?_; refine Hid.out ?_))
  refine hid ?_
  generalize hw2 : World.setRow _ _ _ = w2
  have q2 : Q w1 w2 := by rw [← hw2]; exact (((Keep.refl (fun _ => False) w1).alloc _).setRow _ _ (.inr (Nat.le_refl _))).toQ (fun _ _ h => h)
  have B2 := hid (show KB w2 w1.heap.size 33 k0 i0 h0 from by rw [← hw2]; exact setRow_heap _ _ _ _ 33 _ (heap_alloc_new w1 _))
  clear hw2
  have Q2 := hid (Q1.out.trans q2)
  have H2 := hid (K1.out.h.q q2)
  have GE := hid (show w.heap.size ≤ w1.heap.size from Q1.out.size)
  clear q2 Q1 K1
  generalize w1.heap.size = kb at *
  clear w1
  have ck2 := B2.out.c2
  go_wp2_with (first
    | (go_at_call 55; refine (HUM.out _ h0 Q2.out H2.out HN0.out).mono ?_; rintro e w3 ⟨b, s, rfl, q3, ib3, is3, sc3⟩; have Q3 := hid (Q2.out.trans q3); have B3 := hid (B2.out.q q3); have IB3 := hid ib3; have IS3 := hid is3; have SC := hid sc3; clear q3 ib3 is3 sc3)
    | (refine wpList_store_row rfl 103 _ _ rfl w3.heap.size (rcells FF num b s) rfl rfl 103 _ (heap_alloc_new w3 _) (rinfo _ _ _ _) rfl (rc_one _ _ _ _) ?_; refine Hid.out ?_))
  refine hid ?_
  generalize hw4 : World.setRow _ _ _ = w4
  have q4 : Q w3 w4 := by rw [← hw4]; exact (((Keep.refl (fun _ => False) w3).alloc _).setRow _ _ (.inr (Nat.le_refl _))).toQ (fun _ _ h => h)
  have R4 := hid (show RB w4 w3.heap.size FF num b s from by rw [← hw4]; exact setRow_heap _ _ _ _ 103 _ (heap_alloc_new w3 _))
  clear hw4
  have HGU := hid (show w.heap.size ≤ w3.heap.size from Q3.out.size)
  have NE := hid (show w3.heap.size ≠ kb from by have h5 := lt_of_block B3.out; omega)
  have Q4 := hid (Q3.out.trans q4)
  have B4 := hid (B3.out.q q4)
  have IB4 := hid (IB3.out.q q4)
  have IS4 := hid (IS3.out.q q4)
  clear q4 Q3 B3 IB3 IS3 Q2 B2 H2 ck2 HN0 HUM HCK
  generalize w3.heap.size = ub at *
  clear w2 w3
  have cF := R4.out.c0
  obtain ⟨hph, hFt, hFm, hF0⟩ := HPH.out
  have d1 := (Q4.out.cell (p := ⟨d, 1, none⟩) hld).trans c1
  have d2 := (Q4.out.cell (p := ⟨d, 2, none⟩) hld).trans c2
  have dx := (Q4.out.cell (p := ⟨sg, so + ys.length, none⟩) hls).trans hcx
  have hP1 : phs FF = 0 ∨ phs FF = 1 := by unfold phs; split <;> omega
  clear FB FL LB LS WR NR
  obtain ⟨PP, hPP⟩ : ∃ PP, phs FF = PP := ⟨_, rfl⟩
  rw [hPP] at hph hsm hP1
  have HPP := hid (show phs (bz.getD 0 0) = PP from by rw [HFB.out]; exact hPP)
  clear hPP
  go_wp2_with (first
    | (go_at_call 15; refine (rnext_16 ⟨xa, 16, xc⟩ tz _ (HX.out.q Q4.out) rfl).mono ?_; rintro e w5 ⟨nx, rfl, q5, r5, nn5⟩; have HNN := hid nn5; clear nn5; have Q5 := hid (Q4.out.trans q5); have B5 := hid (B4.out.q q5); have R5 := hid (R4.out.q q5); have IB5 := hid (IB4.out.q q5); have IS5 := hid (IS4.out.q q5); have X5 := hid r5; clear q5 r5)
    | (go_at_call 13; refine (rmake_16 nx (kuL tz) _ (row_in X5.out (exL_lt _ _ _)) HNN.out).mono ?_; rintro e w6 ⟨k5, i5, h5, rfl, q6, kk5, kn5, in5, -⟩; have HKN := hid kn5; have HIN := hid in5; clear kn5 in5; have Q6 := hid (Q5.out.trans q6); have B6 := hid (B5.out.q q6); have R6 := hid (R5.out.q q6); have IB6 := hid (IB5.out.q q6); have IS6 := hid (IS5.out.q q6); have X6 := hid (Sub.q X5.out q6); have K6 := hid kk5; clear q6 kk5)
    | (refine wpList_store_row rfl 33 _ _ rfl kb (kcells k5 i5 h5) rfl rfl 33 _ B6.out (kinfo33 _ _ _) rfl (kc_one _ _ _) ?_; refine Hid.out ?_))
  refine hid ?_
  generalize hw7 : World.setRow _ _ _ = w7
  have k7 : Keep (fun i => i = kb) w6 w7 := by rw [← hw7]; exact (Keep.refl _ w6).setRow _ _ (.inl rfl)
  have B7 := hid (show KB w7 kb 33 k5 i5 h5 from by rw [← hw7]; exact setRow_heap _ _ _ _ 33 _ B6.out)
  clear hw7
  have Q7 := hid (show Q w w7 from k7.below Q6.out Q6.out.size (fun i e => by have := GE.out; omega))
  have R7 := hid (show RB w7 ub FF num b s from (k7.block ub (lt_of_block R6.out) NE.out).trans R6.out)
  have IB7 := hid (in_keepK IB6.out B6.out k7)
  have IS7 := hid (in_keepK IS6.out B6.out k7)
  have IK7 := hid (in_keepK K6.out.k B6.out k7)
  have II7 := hid (in_keepK K6.out.i B6.out k7)
  have X7 := hid (row_keepK (show Row w6 nx (kuL tz) from X6.out) B6.out (by omega) k7)
  clear k7 Q5 B5 R5 IB5 IS5 X5 Q6 B6 R6 IB6 IS6 K6 X6 Q4 B4 R4 IB4 IS4 d1 d2 dx cF
  have ck0 := B7.out.c0
  have ck1 := B7.out.c1
  have cu1 := R7.out.c1
  have hlu := lt_of_cell cu1
  have HC := hid (HUS.out w7 b s k5 i5 (kyL (kuL tz)) (ivL (kuL tz)) IB7.out IS7.out SC.out IK7.out II7.out HKN.out HIN.out)
  have HE := hid (show oqE ph tz fz bz num sz = 71 from by unfold oqE ooE; rw [if_neg HA.out]; rw [if_pos hNX, hfn0])
  have HP := hid (show oqP ph tz bz num sz = ph from by unfold oqP ooP; rw [if_neg HA.out, if_neg (by rw [hNX]; omega)])
  have HT := hid (show oqT ph tz bz num sz = tz from by unfold oqT ooT; rw [if_neg HA.out, if_neg (by rw [hNX]; omega)])
  have HF := hid (show oqF ph tz fz bz num sz = fz from by unfold oqF ooF; rw [if_neg HA.out, if_neg (by rw [hNX]; omega)])
  have HC2 := hid (show Calls Try.prog 56 _ w7 _ from HC.out)
  have hus : usE (kyL (kuL tz)) (ivL (kuL tz)) bz num sz = 71 := hNX
  rw [hus] at HC
  clear HC2 hNX hus
  go_wp2_with (first
    | (refine wpList_load_row rfl 103 _ rfl ub rfl 103 (rcells FF num b s) (0, 0) _ R7.out Try.underlying103 rfl (rinfo _ _ _ _) ?_)
    | (go_at_call 56; refine HC.out.mono ?_; rintro e w8 ⟨xr, rfl, q8, r8⟩; have Q8 := hid (Q7.out.trans q8); clear q8 r8))
  go_ret3
  exact rans_q HO.out Q8.out 71 HE.out HP.out HT.out HF.out nilS (by rw [if_neg (by omega)]; rfl) (by rw [if_neg (by omega)]; exact row_nil _)

set_option maxHeartbeats 8000000 in
theorem ro_turn (B d : Nat) (f pk : Sv) (ph high : Int) (at_ : Nat) (z0 tz : List Int) (fz : Option (List Int)) (ps : List Int) (N : Nat) (w : World) (ho : DOp w B d f ph z0 tz fz N) (hp : In w pk ps) (bp : pk.n ≤ 140737488355328) (bc : pk.n ≤ pk.c) (hc : chP pk.n at_ high = 0) (hB : B ≤ w.heap.size) (hN : N ≤ 1900000000000) (hA : ¬ phs ((umB (hpL z0) ps at_).getD 0 0) = ph) (hNX : nxE tz (umB (hpL z0) ps at_) (umN (hpL z0) ps at_ high) (umS (hpL z0) ps at_) = 0) :
    Calls Try.prog 27 #[.pointer (some ⟨d, 0, none⟩), .slice pk.a pk.n pk.c, .int .i64 (at_ : Int), .int .i64 high] w fun e w' => RAns B d f ph z0 tz fz (umB (hpL z0) ps at_) (umN (hpL z0) ps at_ high) (umS (hpL z0) ps at_) N w e w' := by
  obtain ⟨fa, fn, fc⟩ := f
  have hfn0' : fn = 16 := ho.fn
  subst hfn0'
  obtain ⟨o1, o2, o3, o4, o5, o6⟩ := chP_ok hc
  have hpl : ps.length = pk.n := hp.l
  have LB := hid (umB_len (hpL z0) ps at_ (by omega))
  have LS := hid (umS_len (hpL z0) ps at_)
  have WR := hid (umW_range (hpL z0) ps at_)
  have NR := hid (umN_range (hpL z0) ps at_ high)
  have FB := hid (umB_fst (hpL z0) ps at_ (by omega) (by omega))
  have FL := hid (umF_lt (hpL z0) hp.z at_)
  have HCK := hid (fun (u : World) => rpacket_any pk (at_ : Int) high u (by omega) (by omega) (by omega))
  rw [hc] at HCK
  have HUM := hid (fun (u : World) (h : Sv) (q : Q w u) (hh : In u h (hpL z0)) (lh : h.n = 16) => runmask_any h pk (hpL z0) ps at_ high u hh (hp.q q) lh (by omega) (by omega) (by omega) (by omega) bc)
  have HUS := hid (fun (u : World) (b s k i : Sv) (kz iz : List Int) (ib : In u b (umB (hpL z0) ps at_)) (is_ : In u s (umS (hpL z0) ps at_)) (hsc : s.n ≤ s.c) (ik : In u k kz) (ii : In u i iz) (lk : k.n = 16) (li : i.n = 12) => runseal_any (umF (hpL z0) ps at_) (umN (hpL z0) ps at_ high) b s k i (umB (hpL z0) ps at_) (umS (hpL z0) ps at_) kz iz u ib is_ ik ii FB.out FL.out lk li (by have h1 := ib.l; rw [LB.out] at h1; have := WR.out; omega) (by have h1 := is_.l; rw [LS.out] at h1; have := WR.out; omega) (by have h1 := is_.l; rw [LS.out] at h1; have := WR.out; omega) hsc NR.out.1 NR.out.2)
  have hph := phs_u8 FL.out
  rw [← FB.out] at hph
  have hF0 := FL.out.1
  have hFt : (umF (hpL z0) ps at_).tdiv 4 = umF (hpL z0) ps at_ / 4 := Int.tdiv_eq_ediv_of_nonneg hF0
  have hFm : (umF (hpL z0) ps at_ / 4).tmod 2 = umF (hpL z0) ps at_ / 4 % 2 := Int.tmod_eq_emod_of_nonneg (by omega)
  rw [FB.out] at hph
  have HO := hid ho
  obtain ⟨S, ys, ⟨xa, xn, xc⟩, hDB, ⟨hSR, hSA⟩, hSB, hx, hxs, hxn, hSN, hfz⟩ := ho.ex
  have hxn' : xn = 16 := hxn
  subst hxn'
  have hSl := hSR.len
  rw [List.length_append] at hSl
  have hSl2 : S.n = ys.length + 1 := by simpa using hSl.symm
  obtain ⟨sg, so, hSa, hcx⟩ := hSR.at_ (j := ys.length) (x := ⟨xa, 16, xc⟩) (by simp)
  obtain ⟨Sa, Sn, Sc⟩ := S
  dsimp only at hSa hSl2 hSB hSN
  subst hSa hSl2
  have c0 := hDB.c0
  have c1 := hDB.c1
  have c2 := hDB.c2
  dsimp only at c0 c1 c2 hcx
  have hld := lt_of_cell c0
  have hls := lt_of_cell hcx
  have HX := hid hx
  have HFF := hid ho.ff
  have hm12 : ys.length ≤ 1900000000000 := by omega
  have HALL := hid (And.intro hDB (And.intro (And.intro hSR hSA) (And.intro hSB (And.intro hxs (And.intro hfz hSN)))))
  have HPH := hid (And.intro hph (And.intro hFt (And.intro hFm hF0)))
  clear hDB hSR hSA hSB hx hxs hfz hSl hpl hp ho hph hFt hFm hF0 o1 o2 o3 o4 o5 o6 bp bc hc hSN
  have hsm : (phs (umF (hpL z0) ps at_) == ph) = false := by have h9 := hA; rw [FB.out] at h9; simp [h9]
  have HA := hid hA
  have HFB := hid FB.out
  clear hA
  generalize umB (hpL z0) ps at_ = bz at *
  generalize umN (hpL z0) ps at_ high = num at *
  generalize umS (hpL z0) ps at_ = sz at *
  generalize umF (hpL z0) ps at_ = FF at *
  go_enter Try.func27, Try.ntmps27
  go_wp2_with (first
    | (go_at_call 54; refine (HCK.out _).mono ?_; rintro e w0 ⟨rfl, rfl⟩)
    | (go_at_call 13; refine (rmake_16 ⟨fa, 16, fc⟩ z0 _ HFF.out rfl).mono ?_; rintro e w1 ⟨k0, i0, h0, rfl, q1, k1, kn0, in0, hn0⟩; have Q1 := hid q1; have K1 := hid k1; have HN0 := hid hn0; clear q1 k1 kn0 in0 hn0)
    | (refine wpList_store_row rfl 33 _ _ rfl w1.heap.size (kcells k0 i0 h0) rfl rfl 33 _ (heap_alloc_new w1 _) (kinfo33 _ _ _) rfl (kc_one _ _ _) ?_; refine Hid.out ?_))
  refine hid ?_
  generalize hw2 : World.setRow _ _ _ = w2
  have q2 : Q w1 w2 := by rw [← hw2]; exact (((Keep.refl (fun _ => False) w1).alloc _).setRow _ _ (.inr (Nat.le_refl _))).toQ (fun _ _ h => h)
  have B2 := hid (show KB w2 w1.heap.size 33 k0 i0 h0 from by rw [← hw2]; exact setRow_heap _ _ _ _ 33 _ (heap_alloc_new w1 _))
  clear hw2
  have Q2 := hid (Q1.out.trans q2)
  have H2 := hid (K1.out.h.q q2)
  have GE := hid (show w.heap.size ≤ w1.heap.size from Q1.out.size)
  clear q2 Q1 K1
  generalize w1.heap.size = kb at *
  clear w1
  have ck2 := B2.out.c2
  go_wp2_with (first
    | (go_at_call 55; refine (HUM.out _ h0 Q2.out H2.out HN0.out).mono ?_; rintro e w3 ⟨b, s, rfl, q3, ib3, is3, sc3⟩; have Q3 := hid (Q2.out.trans q3); have B3 := hid (B2.out.q q3); have IB3 := hid ib3; have IS3 := hid is3; have SC := hid sc3; clear q3 ib3 is3 sc3)
    | (refine wpList_store_row rfl 103 _ _ rfl w3.heap.size (rcells FF num b s) rfl rfl 103 _ (heap_alloc_new w3 _) (rinfo _ _ _ _) rfl (rc_one _ _ _ _) ?_; refine Hid.out ?_))
  refine hid ?_
  generalize hw4 : World.setRow _ _ _ = w4
  have q4 : Q w3 w4 := by rw [← hw4]; exact (((Keep.refl (fun _ => False) w3).alloc _).setRow _ _ (.inr (Nat.le_refl _))).toQ (fun _ _ h => h)
  have R4 := hid (show RB w4 w3.heap.size FF num b s from by rw [← hw4]; exact setRow_heap _ _ _ _ 103 _ (heap_alloc_new w3 _))
  clear hw4
  have HGU := hid (show w.heap.size ≤ w3.heap.size from Q3.out.size)
  have NE := hid (show w3.heap.size ≠ kb from by have h5 := lt_of_block B3.out; omega)
  have Q4 := hid (Q3.out.trans q4)
  have B4 := hid (B3.out.q q4)
  have IB4 := hid (IB3.out.q q4)
  have IS4 := hid (IS3.out.q q4)
  clear q4 Q3 B3 IB3 IS3 Q2 B2 H2 ck2 HN0 HUM HCK
  generalize w3.heap.size = ub at *
  clear w2 w3
  have cF := R4.out.c0
  obtain ⟨hph, hFt, hFm, hF0⟩ := HPH.out
  have d1 := (Q4.out.cell (p := ⟨d, 1, none⟩) hld).trans c1
  have d2 := (Q4.out.cell (p := ⟨d, 2, none⟩) hld).trans c2
  have dx := (Q4.out.cell (p := ⟨sg, so + ys.length, none⟩) hls).trans hcx
  have hP1 : phs FF = 0 ∨ phs FF = 1 := by unfold phs; split <;> omega
  clear FB FL LB LS WR NR
  obtain ⟨PP, hPP⟩ : ∃ PP, phs FF = PP := ⟨_, rfl⟩
  rw [hPP] at hph hsm hP1
  have HPP := hid (show phs (bz.getD 0 0) = PP from by rw [HFB.out]; exact hPP)
  clear hPP
  go_wp2_with (first
    | (go_at_call 15; refine (rnext_16 ⟨xa, 16, xc⟩ tz _ (HX.out.q Q4.out) rfl).mono ?_; rintro e w5 ⟨nx, rfl, q5, r5, nn5⟩; have HNN := hid nn5; clear nn5; have Q5 := hid (Q4.out.trans q5); have B5 := hid (B4.out.q q5); have R5 := hid (R4.out.q q5); have IB5 := hid (IB4.out.q q5); have IS5 := hid (IS4.out.q q5); have X5 := hid r5; clear q5 r5)
    | (go_at_call 13; refine (rmake_16 nx (kuL tz) _ (row_in X5.out (exL_lt _ _ _)) HNN.out).mono ?_; rintro e w6 ⟨k5, i5, h5, rfl, q6, kk5, kn5, in5, -⟩; have HKN := hid kn5; have HIN := hid in5; clear kn5 in5; have Q6 := hid (Q5.out.trans q6); have B6 := hid (B5.out.q q6); have R6 := hid (R5.out.q q6); have IB6 := hid (IB5.out.q q6); have IS6 := hid (IS5.out.q q6); have X6 := hid (Sub.q X5.out q6); have K6 := hid kk5; clear q6 kk5)
    | (refine wpList_store_row rfl 33 _ _ rfl kb (kcells k5 i5 h5) rfl rfl 33 _ B6.out (kinfo33 _ _ _) rfl (kc_one _ _ _) ?_; refine Hid.out ?_))
  refine hid ?_
  generalize hw7 : World.setRow _ _ _ = w7
  have k7 : Keep (fun i => i = kb) w6 w7 := by rw [← hw7]; exact (Keep.refl _ w6).setRow _ _ (.inl rfl)
  have B7 := hid (show KB w7 kb 33 k5 i5 h5 from by rw [← hw7]; exact setRow_heap _ _ _ _ 33 _ B6.out)
  clear hw7
  have Q7 := hid (show Q w w7 from k7.below Q6.out Q6.out.size (fun i e => by have := GE.out; omega))
  have R7 := hid (show RB w7 ub FF num b s from (k7.block ub (lt_of_block R6.out) NE.out).trans R6.out)
  have IB7 := hid (in_keepK IB6.out B6.out k7)
  have IS7 := hid (in_keepK IS6.out B6.out k7)
  have IK7 := hid (in_keepK K6.out.k B6.out k7)
  have II7 := hid (in_keepK K6.out.i B6.out k7)
  have X7 := hid (row_keepK (show Row w6 nx (kuL tz) from X6.out) B6.out (by omega) k7)
  clear k7 Q5 B5 R5 IB5 IS5 X5 Q6 B6 R6 IB6 IS6 K6 X6 Q4 B4 R4 IB4 IS4 d1 d2 dx cF
  have ck0 := B7.out.c0
  have ck1 := B7.out.c1
  have cu1 := R7.out.c1
  have hlu := lt_of_cell cu1
  have HC := hid (HUS.out w7 b s k5 i5 (kyL (kuL tz)) (ivL (kuL tz)) IB7.out IS7.out SC.out IK7.out II7.out HKN.out HIN.out)
  have hus : usE (kyL (kuL tz)) (ivL (kuL tz)) bz num sz = 0 := hNX
  rw [hus] at HC
  have HE := hid (show oqE ph tz fz bz num sz = 0 from by unfold oqE ooE; rw [if_neg HA.out, if_neg (by rw [hNX]; omega)]; exact hNX)
  have HR := hid (show oqR ph tz fz bz num sz = usR (kyL (kuL tz)) (ivL (kuL tz)) bz num sz from by unfold oqR ooR; rw [if_neg HA.out, if_neg (by rw [hNX]; omega)])
  have HP := hid (show oqP ph tz bz num sz = PP from by unfold oqP ooP; rw [if_neg HA.out, if_pos hNX]; exact HPP.out)
  have HT := hid (show oqT ph tz bz num sz = kuL tz from by unfold oqT ooT; rw [if_neg HA.out, if_pos hNX])
  have HF := hid (show oqF ph tz fz bz num sz = some tz from by unfold oqF ooF; rw [if_neg HA.out, if_pos hNX])
  clear hNX hus
  obtain ⟨hDB, ⟨hSR, hSA⟩, hSB, hxs, hfz, hSN⟩ := HALL.out
  have HDB := hid hDB
  have HSR := hid hSR
  go_upto_region 18 with (first
    | (refine wpList_load_row rfl 103 _ rfl ub rfl 103 (rcells FF num b s) (0, 0) _ R7.out Try.underlying103 rfl (rinfo _ _ _ _) ?_)
    | (go_at_call 56; refine HC.out.mono ?_; rintro e w8 ⟨xr, rfl, q8, r8⟩; have Q8 := hid (Q7.out.trans q8); have R8 := hid (R7.out.q q8); have Y8 := hid r8; have X8 := hid (Sub.q X7.out q8); clear q8 r8))
  have e1 := (Q8.out.cell (p := ⟨d, 1, none⟩) hld).trans c1
  have qA : Q w8 (w8.alloc (.cells #[.slice nx.a nx.n nx.c] 22)) := (Q.refl w8).alloc _
  have hgb : (w8.alloc (.cells #[.slice nx.a nx.n nx.c] 22)).cell? ⟨w8.heap.size, 0, none⟩ = some (.slice nx.a nx.n nx.c) := by rw [cell_of_row _ w8.heap.size 0 _ 22 (0, 0) (heap_alloc_new w8 _)]; rfl
  obtain ⟨S', w9, hrun, hSR9, hSn9, hk9, hb9, hSA9⟩ := sr_append (show SR (w8.alloc (.cells #[.slice nx.a nx.n nx.c] 22)) ⟨some ⟨sg, so, none⟩, ys.length + 1, Sc⟩ (ys ++ [⟨xa, 16, xc⟩]) from Sub.q (Sub.q HSR.out Q8.out) qA) ((hSA.q Q8.out).q qA) hgb (by show 0 < ys.length + 1; omega) (by show ys.length + 1 ≤ _; omega)
  dsimp only at hrun hSn9 hk9 hb9
  obtain ⟨Ta, Tn, Tc⟩ := S'
  dsimp only at hrun hSn9 hb9
  subst hSn9
  have DB9 := hid (show DB w9 d ⟨fa, 16, fc⟩ ⟨some ⟨sg, so, none⟩, ys.length + 1, Sc⟩ ph from ((HDB.out.q Q8.out).q qA).keep hk9 (by
    intro e
    simp [blk] at e
    subst e
    rcases hSR.2 with ⟨h0, _, _⟩ | ⟨g2, off2, cur2, ha2, hg2, _⟩
    · cases h0
    · cases ha2
      have h3 : w.heap[sg]? = some (.cells _ 64 (0, 0)) := hDB
      rw [hg2] at h3
      simp at h3))
  have f1 := DB9.out.c1
  have f2 := DB9.out.c2
  have g1 := DB9.out.fr 1
  have g2 := DB9.out.fr 2
  have HK9 := hid hk9
  have HB9 := hid hb9
  have HS9 := hid hSR9
  have HA9 := hid hSA9
  have cu9 : w9.cell? ⟨ub, 1, none⟩ = some (.int .i64 num) := hk9.cell (((qA.cell (p := ⟨ub, 1, none⟩) (lt_of_cell R8.out.c1)).trans R8.out.c1)) (by
    intro e
    simp [blk] at e
    have h3 := HGU.out
    omega)
  have hub : ub ≠ d := by have h3 := HGU.out; omega
  have hub2 : d ≠ ub := by have h3 := HGU.out; omega
  have cu10 : ((w9.setCell ⟨d, 1, none⟩ (.slice Ta (ys.length + 1 + 1) Tc)).setCell ⟨d, 2, none⟩ (.int .i64 PP)).cell? ⟨ub, 1, none⟩ = some (.int .i64 num) := (((Keep.refl (fun i => i = d) w9).setCell _ _ _ (.inl rfl)).setCell _ _ _ (.inl rfl)).cell cu9 hub
  clear hk9 hb9 hSR9 hSA9
  go_wp2_with (at_builtin; refine Lib.wpList_append_run _ rfl _ _ _ _ rfl _ _ rfl rfl _ _ hrun ?_)
  go_ret3
  unfold RAns
  rw [HE.out, HR.out, HP.out, HT.out, HF.out]
  have kA : Keep (FD B d w) w (w8.alloc (.cells #[.slice nx.a nx.n nx.c] 22)) := Keep.ofQ (Q8.out.trans qA)
  have hsgB : B ≤ sg := hSB sg rfl
  have hsg22 : ∃ cur, w.heap[sg]? = some (.cells cur 22 (0, 0)) ∧ AllS cur := hSA sg so rfl
  have kB : Keep (FD B d w) w w9 := kA.trans (HK9.out.mono (fun i _ e => by
    have e' : sg = i := by simpa [blk] using e
    rw [← e']
    exact .inr ⟨hsgB, hsg22⟩))
  have kC1 : Keep (fun i => i = d) w9 ((w9.setCell ⟨d, 1, none⟩ (.slice Ta (ys.length + 1 + 1) Tc)).setCell ⟨d, 2, none⟩ (.int .i64 PP)) := ((Keep.refl (fun i => i = d) w9).setCell _ _ _ (.inl rfl)).setCell _ _ _ (.inl rfl)
  have kD := kB.trans (kC1.mono (fun i _ e => .inl e))
  obtain ⟨cur22, h22, -⟩ := hsg22
  have h22a : (w8.alloc (.cells #[.slice nx.a nx.n nx.c] 22)).heap[sg]? = some (.cells cur22 22 (0, 0)) := (Below.block (Q8.out.trans qA) _ (lt_of_block h22)).trans h22
  have DBF : DB ((w9.setCell ⟨d, 1, none⟩ (.slice Ta (ys.length + 1 + 1) Tc)).setCell ⟨d, 2, none⟩ (.int .i64 PP)) d ⟨fa, 16, fc⟩ ⟨Ta, ys.length + 1 + 1, Tc⟩ PP := (DB9.out.s1 ⟨Ta, ys.length + 1 + 1, Tc⟩).s2 PP
  have RX := row_turn (Sub.q Y8.out qA : Row _ xr _) h22a HK9.out DB9.out kC1
  have RN := row_turn (Sub.q X8.out qA : Row _ nx _) h22a HK9.out DB9.out kC1
  have hdB := HO.out.dB
  have HSF : SR ((w9.setCell ⟨d, 1, none⟩ (.slice Ta (ys.length + 1 + 1) Tc)).setCell ⟨d, 2, none⟩ (.int .i64 PP)) ⟨Ta, ys.length + 1 + 1, Tc⟩ ((ys ++ [⟨xa, 16, xc⟩]) ++ [nx]) := by
    have h9 : Sub w9 22 1 Ta (ys.length + 1 + 1) Tc (svs ((ys ++ [⟨xa, 16, xc⟩]) ++ [nx])) := HS9.out
    refine Sub.keep h9 kC1 ?_
    rintro b hb rfl
    rcases h9.2 with ⟨h0, _, _⟩ | ⟨gq, offq, curq, haq, hgq, _⟩
    · rw [h0] at hb; simp [blk] at hb
    · rw [haq] at hb
      have e8 : gq = b := by simpa [blk] using hb
      subst e8
      have h3 : w9.heap[gq]? = some (Obj.cells _ 64 (0, 0)) := DB9.out
      rw [hgq] at h3
      simp at h3
  have SAF : SA ((w9.setCell ⟨d, 1, none⟩ (.slice Ta (ys.length + 1 + 1) Tc)).setCell ⟨d, 2, none⟩ (.int .i64 PP)) ⟨Ta, ys.length + 1 + 1, Tc⟩ := by
    intro gq oq e
    obtain ⟨cur, c1', c2'⟩ := HA9.out gq oq e
    refine ⟨cur, (kC1.block gq (lt_of_block c1') ?_).trans c1', c2'⟩
    rintro rfl
    have h3 : w9.heap[gq]? = some (Obj.cells _ 64 (0, 0)) := DB9.out
    rw [c1'] at h3
    simp at h3
  refine ⟨xr, by rw [if_pos rfl]; rfl, kD, by rw [if_pos rfl]; exact RX, ⟨⟨⟨Ta, ys.length + 1 + 1, Tc⟩, ys ++ [⟨xa, 16, xc⟩], nx, DBF, ⟨HSF, SAF⟩, ?_, row_in RN (exL_lt _ _ _), Row.sf RN B, HNN.out, ?_, ys, ⟨xa, 16, xc⟩, rfl, in_keepD HX.out hxs HDB.out hdB kD, hxs.keep HDB.out hdB kD, rfl⟩, in_keepD HFF.out (fun b hb => .inl (HO.out.fs b hb)) HDB.out hdB kD, rfl, HO.out.fs, hdB⟩⟩
  · intro b hb
    rcases HB9.out with h0 | h0
    · rw [h0] at hb; exact hSB b hb
    · rw [h0] at hb
      have h5 : b = (w8.alloc (.cells #[.slice nx.a nx.n nx.c] 22)).heap.size := by simpa using hb.symm
      have h6 := (Q8.out.trans qA).size
      omega
  · show ys.length + 1 + 1 ≤ N + 1
    have h7 : ys.length + 1 ≤ N := hSN
    omega


set_option maxHeartbeats 8000000 in
theorem ro_former (B d : Nat) (f pk : Sv) (ph high : Int) (at_ : Nat) (z0 tz : List Int) (fz : Option (List Int)) (ps : List Int) (N : Nat) (w : World) (ho : DOp w B d f ph z0 tz fz N) (hp : In w pk ps) (bp : pk.n ≤ 140737488355328) (bc : pk.n ≤ pk.c) (hc : chP pk.n at_ high = 0) (hB : B ≤ w.heap.size) (hN : N ≤ 1900000000000) (hA : ¬ phs ((umB (hpL z0) ps at_).getD 0 0) = ph) (hNX : nxE tz (umB (hpL z0) ps at_) (umN (hpL z0) ps at_ high) (umS (hpL z0) ps at_) = 71) (z : List Int) (hfs : fz = some z) :
    Calls Try.prog 27 #[.pointer (some ⟨d, 0, none⟩), .slice pk.a pk.n pk.c, .int .i64 (at_ : Int), .int .i64 high] w fun e w' => RAns B d f ph z0 tz fz (umB (hpL z0) ps at_) (umN (hpL z0) ps at_ high) (umS (hpL z0) ps at_) N w e w' := by
  obtain ⟨fa, fn, fc⟩ := f
  have hfn0' : fn = 16 := ho.fn
  subst hfn0'
  obtain ⟨o1, o2, o3, o4, o5, o6⟩ := chP_ok hc
  have hpl : ps.length = pk.n := hp.l
  have LB := hid (umB_len (hpL z0) ps at_ (by omega))
  have LS := hid (umS_len (hpL z0) ps at_)
  have WR := hid (umW_range (hpL z0) ps at_)
  have NR := hid (umN_range (hpL z0) ps at_ high)
  have FB := hid (umB_fst (hpL z0) ps at_ (by omega) (by omega))
  have FL := hid (umF_lt (hpL z0) hp.z at_)
  have HCK := hid (fun (u : World) => rpacket_any pk (at_ : Int) high u (by omega) (by omega) (by omega))
  rw [hc] at HCK
  have HUM := hid (fun (u : World) (h : Sv) (q : Q w u) (hh : In u h (hpL z0)) (lh : h.n = 16) => runmask_any h pk (hpL z0) ps at_ high u hh (hp.q q) lh (by omega) (by omega) (by omega) (by omega) bc)
  have HUS := hid (fun (u : World) (b s k i : Sv) (kz iz : List Int) (ib : In u b (umB (hpL z0) ps at_)) (is_ : In u s (umS (hpL z0) ps at_)) (hsc : s.n ≤ s.c) (ik : In u k kz) (ii : In u i iz) (lk : k.n = 16) (li : i.n = 12) => runseal_any (umF (hpL z0) ps at_) (umN (hpL z0) ps at_ high) b s k i (umB (hpL z0) ps at_) (umS (hpL z0) ps at_) kz iz u ib is_ ik ii FB.out FL.out lk li (by have h1 := ib.l; rw [LB.out] at h1; have := WR.out; omega) (by have h1 := is_.l; rw [LS.out] at h1; have := WR.out; omega) (by have h1 := is_.l; rw [LS.out] at h1; have := WR.out; omega) hsc NR.out.1 NR.out.2)
  have hph := phs_u8 FL.out
  rw [← FB.out] at hph
  have hF0 := FL.out.1
  have hFt : (umF (hpL z0) ps at_).tdiv 4 = umF (hpL z0) ps at_ / 4 := Int.tdiv_eq_ediv_of_nonneg hF0
  have hFm : (umF (hpL z0) ps at_ / 4).tmod 2 = umF (hpL z0) ps at_ / 4 % 2 := Int.tmod_eq_emod_of_nonneg (by omega)
  rw [FB.out] at hph
  have HO := hid ho
  obtain ⟨S, ys, ⟨xa, xn, xc⟩, hDB, ⟨hSR, hSA⟩, hSB, hx, hxs, hxn, hSN, hfz⟩ := ho.ex
  have hxn' : xn = 16 := hxn
  subst hxn'
  rw [hfs] at hfz
  obtain ⟨zs, ⟨ya, yn, yc⟩, hys, hy, hysf, hyn⟩ := hfz
  have hyn' : yn = 16 := hyn
  subst hyn'
  have hml : ys.length = zs.length + 1 := by rw [hys]; simp
  obtain ⟨sg2, so2, hSa2, hcy⟩ := hSR.at_ (j := zs.length) (x := ⟨ya, 16, yc⟩) (by rw [hys]; simp)
  have HY := hid hy
  have hSl := hSR.len
  rw [List.length_append] at hSl
  have hSl2 : S.n = ys.length + 1 := by simpa using hSl.symm
  obtain ⟨sg, so, hSa, hcx⟩ := hSR.at_ (j := ys.length) (x := ⟨xa, 16, xc⟩) (by simp)
  obtain ⟨Sa, Sn, Sc⟩ := S
  dsimp only at hSa hSl2 hSB hSN
  rw [hSa] at hSa2
  obtain ⟨e9a, e9b⟩ : sg = sg2 ∧ so = so2 := by simpa using hSa2
  subst e9a e9b
  subst hSa hSl2
  have c0 := hDB.c0
  have c1 := hDB.c1
  have c2 := hDB.c2
  dsimp only at c0 c1 c2 hcx
  have hld := lt_of_cell c0
  dsimp only at hcy
  have hls := lt_of_cell hcx
  have HX := hid hx
  have HFF := hid ho.ff
  have hm12 : ys.length ≤ 1900000000000 := by omega
  have HALL := hid (And.intro hDB (And.intro (And.intro hSR hSA) (And.intro hSB (And.intro hxs hSN))))
  have HPH := hid (And.intro hph (And.intro hFt (And.intro hFm hF0)))
  clear hDB hSR hSA hSB hx hxs hy hysf hyn hSl hSa2 hpl hp ho hph hFt hFm hF0 o1 o2 o3 o4 o5 o6 bp bc hc hSN
  rw [hml] at c1 hcx hm12
  clear hml hys
  generalize zs.length = m2 at *

  have hsm : (phs (umF (hpL z0) ps at_) == ph) = false := by have h9 := hA; rw [FB.out] at h9; simp [h9]
  have HA := hid hA
  have HFB := hid FB.out
  clear hA
  generalize umB (hpL z0) ps at_ = bz at *
  generalize umN (hpL z0) ps at_ high = num at *
  generalize umS (hpL z0) ps at_ = sz at *
  generalize umF (hpL z0) ps at_ = FF at *
  go_enter Try.func27, Try.ntmps27
  go_wp2_with (first
    | (go_at_call 54; refine (HCK.out _).mono ?_; rintro e w0 ⟨rfl, rfl⟩)
    | (go_at_call 13; refine (rmake_16 ⟨fa, 16, fc⟩ z0 _ HFF.out rfl).mono ?_; rintro e w1 ⟨k0, i0, h0, rfl, q1, k1, kn0, in0, hn0⟩; have Q1 := hid q1; have K1 := hid k1; have HN0 := hid hn0; clear q1 k1 kn0 in0 hn0)
    | (refine wpList_store_row rfl 33 _ _ rfl w1.heap.size (kcells k0 i0 h0) rfl rfl 33 _ (heap_alloc_new w1 _) (kinfo33 _ _ _) rfl (kc_one _ _ _) ?_; refine Hid.out ?_))
  refine hid ?_
  generalize hw2 : World.setRow _ _ _ = w2
  have q2 : Q w1 w2 := by rw [← hw2]; exact (((Keep.refl (fun _ => False) w1).alloc _).setRow _ _ (.inr (Nat.le_refl _))).toQ (fun _ _ h => h)
  have B2 := hid (show KB w2 w1.heap.size 33 k0 i0 h0 from by rw [← hw2]; exact setRow_heap _ _ _ _ 33 _ (heap_alloc_new w1 _))
  clear hw2
  have Q2 := hid (Q1.out.trans q2)
  have H2 := hid (K1.out.h.q q2)
  have GE := hid (show w.heap.size ≤ w1.heap.size from Q1.out.size)
  clear q2 Q1 K1
  generalize w1.heap.size = kb at *
  clear w1
  have ck2 := B2.out.c2
  go_wp2_with (first
    | (go_at_call 55; refine (HUM.out _ h0 Q2.out H2.out HN0.out).mono ?_; rintro e w3 ⟨b, s, rfl, q3, ib3, is3, sc3⟩; have Q3 := hid (Q2.out.trans q3); have B3 := hid (B2.out.q q3); have IB3 := hid ib3; have IS3 := hid is3; have SC := hid sc3; clear q3 ib3 is3 sc3)
    | (refine wpList_store_row rfl 103 _ _ rfl w3.heap.size (rcells FF num b s) rfl rfl 103 _ (heap_alloc_new w3 _) (rinfo _ _ _ _) rfl (rc_one _ _ _ _) ?_; refine Hid.out ?_))
  refine hid ?_
  generalize hw4 : World.setRow _ _ _ = w4
  have q4 : Q w3 w4 := by rw [← hw4]; exact (((Keep.refl (fun _ => False) w3).alloc _).setRow _ _ (.inr (Nat.le_refl _))).toQ (fun _ _ h => h)
  have R4 := hid (show RB w4 w3.heap.size FF num b s from by rw [← hw4]; exact setRow_heap _ _ _ _ 103 _ (heap_alloc_new w3 _))
  clear hw4
  have HGU := hid (show w.heap.size ≤ w3.heap.size from Q3.out.size)
  have NE := hid (show w3.heap.size ≠ kb from by have h5 := lt_of_block B3.out; omega)
  have Q4 := hid (Q3.out.trans q4)
  have B4 := hid (B3.out.q q4)
  have IB4 := hid (IB3.out.q q4)
  have IS4 := hid (IS3.out.q q4)
  clear q4 Q3 B3 IB3 IS3 Q2 B2 H2 ck2 HN0 HUM HCK
  generalize w3.heap.size = ub at *
  clear w2 w3
  have cF := R4.out.c0
  obtain ⟨hph, hFt, hFm, hF0⟩ := HPH.out
  have d1 := (Q4.out.cell (p := ⟨d, 1, none⟩) hld).trans c1
  have d2 := (Q4.out.cell (p := ⟨d, 2, none⟩) hld).trans c2
  have dx := (Q4.out.cell (p := ⟨sg, so + (m2 + 1), none⟩) hls).trans hcx
  have hP1 : phs FF = 0 ∨ phs FF = 1 := by unfold phs; split <;> omega
  clear FB FL LB LS WR NR
  obtain ⟨PP, hPP⟩ : ∃ PP, phs FF = PP := ⟨_, rfl⟩
  rw [hPP] at hph hsm hP1
  have HPP := hid (show phs (bz.getD 0 0) = PP from by rw [HFB.out]; exact hPP)
  clear hPP
  go_wp2_with (first
    | (go_at_call 15; refine (rnext_16 ⟨xa, 16, xc⟩ tz _ (HX.out.q Q4.out) rfl).mono ?_; rintro e w5 ⟨nx, rfl, q5, r5, nn5⟩; have HNN := hid nn5; clear nn5; have Q5 := hid (Q4.out.trans q5); have B5 := hid (B4.out.q q5); have R5 := hid (R4.out.q q5); have IB5 := hid (IB4.out.q q5); have IS5 := hid (IS4.out.q q5); have X5 := hid r5; clear q5 r5)
    | (go_at_call 13; refine (rmake_16 nx (kuL tz) _ (row_in X5.out (exL_lt _ _ _)) HNN.out).mono ?_; rintro e w6 ⟨k5, i5, h5, rfl, q6, kk5, kn5, in5, -⟩; have HKN := hid kn5; have HIN := hid in5; clear kn5 in5; have Q6 := hid (Q5.out.trans q6); have B6 := hid (B5.out.q q6); have R6 := hid (R5.out.q q6); have IB6 := hid (IB5.out.q q6); have IS6 := hid (IS5.out.q q6); have X6 := hid (Sub.q X5.out q6); have K6 := hid kk5; clear q6 kk5)
    | (refine wpList_store_row rfl 33 _ _ rfl kb (kcells k5 i5 h5) rfl rfl 33 _ B6.out (kinfo33 _ _ _) rfl (kc_one _ _ _) ?_; refine Hid.out ?_))
  refine hid ?_
  generalize hw7 : World.setRow _ _ _ = w7
  have k7 : Keep (fun i => i = kb) w6 w7 := by rw [← hw7]; exact (Keep.refl _ w6).setRow _ _ (.inl rfl)
  have B7 := hid (show KB w7 kb 33 k5 i5 h5 from by rw [← hw7]; exact setRow_heap _ _ _ _ 33 _ B6.out)
  clear hw7
  have Q7 := hid (show Q w w7 from k7.below Q6.out Q6.out.size (fun i e => by have := GE.out; omega))
  have R7 := hid (show RB w7 ub FF num b s from (k7.block ub (lt_of_block R6.out) NE.out).trans R6.out)
  have IB7 := hid (in_keepK IB6.out B6.out k7)
  have IS7 := hid (in_keepK IS6.out B6.out k7)
  have IK7 := hid (in_keepK K6.out.k B6.out k7)
  have II7 := hid (in_keepK K6.out.i B6.out k7)
  have X7 := hid (row_keepK (show Row w6 nx (kuL tz) from X6.out) B6.out (by omega) k7)
  clear k7 Q5 B5 R5 IB5 IS5 X5 Q6 B6 R6 IB6 IS6 K6 X6 Q4 B4 R4 IB4 IS4 d1 d2 dx cF
  have ck0 := B7.out.c0
  have ck1 := B7.out.c1
  have cu1 := R7.out.c1
  have hlu := lt_of_cell cu1
  have HC := hid (HUS.out w7 b s k5 i5 (kyL (kuL tz)) (ivL (kuL tz)) IB7.out IS7.out SC.out IK7.out II7.out HKN.out HIN.out)
  have hus : usE (kyL (kuL tz)) (ivL (kuL tz)) bz num sz = 71 := hNX
  rw [hus] at HC
  obtain ⟨EE, hEE⟩ : ∃ EE, usE (kyL z) (ivL z) bz num sz = EE := ⟨_, rfl⟩
  have HE := hid (show oqE ph tz fz bz num sz = EE from by unfold oqE ooE; rw [if_neg HA.out, if_pos hNX, hfs]; exact hEE)
  have HR := hid (show EE = 0 → oqR ph tz fz bz num sz = usR (kyL z) (ivL z) bz num sz from by intro _; unfold oqR ooR; rw [if_neg HA.out, if_pos hNX, hfs])
  have HP := hid (show oqP ph tz bz num sz = ph from by unfold oqP ooP; rw [if_neg HA.out, if_neg (by rw [hNX]; omega)])
  have HT := hid (show oqT ph tz bz num sz = tz from by unfold oqT ooT; rw [if_neg HA.out, if_neg (by rw [hNX]; omega)])
  have HF := hid (show oqF ph tz fz bz num sz = fz from by unfold oqF ooF; rw [if_neg HA.out, if_neg (by rw [hNX]; omega)])
  have HFS := hid hfs
  have hlsy := lt_of_cell hcy
  have hix : ((m2 : Int) + 1 + 1 - 2) = (m2 : Int) := by omega
  have hgt1 : decide ((m2 : Int) + 1 + 1 > 1) = true := by simp; omega
  have hgt2 : decide ((1 : Int) < (m2 : Int) + 1 + 1) = true := by simp; omega
  have hgt3 : decide (0 < m2 + 1) = true := by simp
  have HEQ := hid hEE
  clear hNX hus hfs hEE
  go_wp2_with (first
    | (refine wpList_load_row rfl 103 _ rfl ub rfl 103 (rcells FF num b s) (0, 0) _ R7.out Try.underlying103 rfl (rinfo _ _ _ _) ?_)
    | (go_at_call 56; refine HC.out.mono ?_; rintro e w8 ⟨xr, rfl, q8, r8⟩; have Q8 := hid (Q7.out.trans q8); have B8 := hid (B7.out.q q8); have R8 := hid (R7.out.q q8); have IB8 := hid (IB7.out.q q8); have IS8 := hid (IS7.out.q q8); have e1 := (Q8.out.cell (p := ⟨d, 1, none⟩) hld).trans c1; have ey := (Q8.out.cell (p := ⟨sg, so + m2, none⟩) hlsy).trans hcy; clear q8 r8)
    | (go_at_call 13; refine (rmake_16 ⟨ya, 16, yc⟩ z _ (HY.out.q Q8.out) rfl).mono ?_; rintro e w9 ⟨k9, i9, h9, rfl, q9, kk9, kn9, in9, -⟩; have HKN9 := hid kn9; have HIN9 := hid in9; have Q9 := hid (Q8.out.trans q9); have B9 := hid (B8.out.q q9); have R9 := hid (R8.out.q q9); have IB9 := hid (IB8.out.q q9); have IS9 := hid (IS8.out.q q9); have K9 := hid kk9; clear q9 kk9 kn9 in9)
    | (refine wpList_store_row rfl 33 _ _ rfl kb (kcells k9 i9 h9) rfl rfl 33 _ B9.out (kinfo33 _ _ _) rfl (kc_one _ _ _) ?_; refine Hid.out ?_))
  refine hid ?_
  generalize hw10 : World.setRow _ _ _ = w10
  have k10 : Keep (fun i => i = kb) w9 w10 := by rw [← hw10]; exact (Keep.refl _ w9).setRow _ _ (.inl rfl)
  have B10 := hid (show KB w10 kb 33 k9 i9 h9 from by rw [← hw10]; exact setRow_heap _ _ _ _ 33 _ B9.out)
  clear hw10
  have Q10 := hid (show Q w w10 from k10.below Q9.out Q9.out.size (fun i e => by have := GE.out; omega))
  have R10 := hid (show RB w10 ub FF num b s from (k10.block ub (lt_of_block R9.out) NE.out).trans R9.out)
  have IB10 := hid (in_keepK IB9.out B9.out k10)
  have IS10 := hid (in_keepK IS9.out B9.out k10)
  have IK10 := hid (in_keepK K9.out.k B9.out k10)
  have II10 := hid (in_keepK K9.out.i B9.out k10)
  clear k10 Q7 B7 R7 IB7 IS7 IK7 II7 X7 HC Q8 B8 R8 IB8 IS8 Q9 B9 R9 IB9 IS9 K9 e1 ey ck0 ck1 cu1 hlu
  have ck0 := B10.out.c0
  have ck1 := B10.out.c1
  have cu1 := R10.out.c1
  have hlu := lt_of_cell cu1
  have HC := hid (HUS.out w10 b s k9 i9 (kyL z) (ivL z) IB10.out IS10.out SC.out IK10.out II10.out HKN9.out HIN9.out)
  rw [HEQ.out] at HC
  by_cases h0 : EE = 0
  · subst h0
    go_wp2_with (first
      | (refine wpList_load_row rfl 103 _ rfl ub rfl 103 (rcells FF num b s) (0, 0) _ R10.out Try.underlying103 rfl (rinfo _ _ _ _) ?_)
      | (go_at_call 56; refine HC.out.mono ?_; rintro e w11 ⟨xr, rfl, q11, r11⟩; have Q11 := hid (Q10.out.trans q11); have X11 := hid r11; have cu7 := (q11.cell (p := ⟨ub, 1, none⟩) hlu).trans cu1; clear q11 r11))
    go_ret3
    exact rans_q HO.out Q11.out 0 HE.out HP.out HT.out HF.out xr rfl (by rw [if_pos rfl, HR.out (by trivial)]; exact X11.out)
  · have hne : (EE == 0) = false := by simp [h0]
    have HNE := hid h0
    clear h0
    go_wp2_with (first
      | (refine wpList_load_row rfl 103 _ rfl ub rfl 103 (rcells FF num b s) (0, 0) _ R10.out Try.underlying103 rfl (rinfo _ _ _ _) ?_)
      | (go_at_call 56; refine HC.out.mono ?_; rintro e w11 ⟨xr, rfl, q11, r11⟩; have Q11 := hid (Q10.out.trans q11); clear q11 r11))
    go_ret3
    exact rans_q HO.out Q11.out EE HE.out HP.out HT.out HF.out nilS (by rw [if_neg HNE.out]; rfl) (by rw [if_neg HNE.out]; exact row_nil _)

theorem roopen_ok (B d : Nat) (f pk : Sv) (ph high : Int) (at_ : Nat) (z0 tz : List Int) (fz : Option (List Int)) (ps : List Int) (N : Nat) (w : World) (ho : DOp w B d f ph z0 tz fz N) (hp : In w pk ps) (bp : pk.n ≤ 140737488355328) (bc : pk.n ≤ pk.c) (hc : chP pk.n at_ high = 0) (hB : B ≤ w.heap.size) (hN : N ≤ 1900000000000) :
    Calls Try.prog 27 #[.pointer (some ⟨d, 0, none⟩), .slice pk.a pk.n pk.c, .int .i64 (at_ : Int), .int .i64 high] w fun e w' => RAns B d f ph z0 tz fz (umB (hpL z0) ps at_) (umN (hpL z0) ps at_ high) (umS (hpL z0) ps at_) N w e w' := by
  by_cases hA : phs ((umB (hpL z0) ps at_).getD 0 0) = ph
  · exact ro_same B d f pk ph high at_ z0 tz fz ps N w ho hp bp bc hc hB hN hA
  · rcases usE_cases (kz := kyL (kuL tz)) (iz := ivL (kuL tz)) (bz := umB (hpL z0) ps at_) (num := umN (hpL z0) ps at_ high) (sz := umS (hpL z0) ps at_) with h | h | h
    · exact ro_turn B d f pk ph high at_ z0 tz fz ps N w ho hp bp bc hc hB hN hA h
    · cases hf : fz with
      | none => rw [hf] at ho; exact ro_none B d f pk ph high at_ z0 tz none ps N w ho hp bp bc hc hB hN hA h rfl
      | some z => rw [hf] at ho; exact ro_former B d f pk ph high at_ z0 tz (some z) ps N w ho hp bp bc hc hB hN hA h z rfl
    · exact ro_81 B d f pk ph high at_ z0 tz fz ps N w ho hp bp bc hc hB hN hA h
theorem roopen_no (d : Nat) (pk : Sv) (at_ high : Int) (w : World) (bp : pk.n ≤ 140737488355328) (a0 : -9223372036854775808 ≤ at_) (a1 : at_ ≤ 9223372036854775807) (hc : chP pk.n at_ high ≠ 0) :
    Calls Try.prog 27 #[.pointer (some ⟨d, 0, none⟩), .slice pk.a pk.n pk.c, .int .i64 at_, .int .i64 high] w fun e w' => e = .returned (.tuple #[.int .i64 0, .slice none 0 0, .int .i64 (chP pk.n at_ high)]) ∧ w = w' := by
  have HP := hid (fun u => rpacket_any pk at_ high u (by omega) a0 a1)
  obtain ⟨pa, pn, pc⟩ := pk
  dsimp only at *
  generalize chP pn at_ high = E at *
  have hne : (E != 0) = true := by simp [hc]
  go_enter Try.func27, Try.ntmps27
  go_wp2_with (go_at_call 54; refine (HP.out _).mono ?_; rintro e w1 ⟨rfl, rfl⟩)
  go_ret3
  exact ⟨rfl, rfl⟩
end Go.Proofs.Ytihmlfpfpadfpaa

/-
  How an argument that is a slice of sealed packets is opened. Used by the statement's last steps.
-/
namespace Go.Proofs.Ytihmlfpfpadfpaa
open Go.ChangeShapes Go.WideShapes Go.ChangeAt Go.RowKit Go.Deep
set_option linter.unusedVariables false
set_option maxRecDepth 20000

theorem bytes51 : Try.prog.bytesOf 51 = 112 := by kernel_rfl
/-- A sealed packet. -/
structure Sl where
  k : Sv
  i : Sv
  h : Sv
  pk : Sv
  at_ : Int
  high : Int
  ps : List Int
abbrev slc (x : Sl) : Array Value := scells x.k x.i x.h x.pk x.at_ x.high
/-- A slice of sealed packets in memory. -/
def SegP (W : World) (a : Option Addr) (len : Nat) (z : Nat → Sl) : Prop := 0 < len → ∃ b off, a = some ⟨b, off, none⟩ ∧ ∀ i, i < len → W.rangeAt b (off + i * 6) (slc (z i)).toList
structure GoodS (W : World) (x : Sl) : Prop where
  p : In W x.pk x.ps
  c : x.pk.n ≤ x.pk.c
  a : -9223372036854775808 ≤ x.at_ ∧ x.at_ ≤ 9223372036854775807
theorem open_seals {H : Type} {enc : TypeId × Value → H} {W : World} {a : Option Addr} {len cap : Nat} {d : DataW H} {p : List MemPlace}
    (h : DataW.Trod enc Try.prog W 0 (fun _ => true) true 57 (.slice a len cap) d p) :
    ∃ z : Nat → Sl, (∀ i, i < len → GoodS W (z i)) ∧ SegP W a len z ∧ True ∧ len ≤ cap ∧ (a = none → len = 0 ∧ cap = 0) ∧
      (len = 0 ∨ ∃ elems spare, d = .slice elems spare ∧ len ≤ elems.length + spare.length ∧ ∀ i, i < len → ∃ d0 d1 d2 d3 d4 d5, (DataW.agg [.agg [d0, d1, d2], d3, d4, d5]) ∈ elems ∧ LenOf (z i).pk.n d3) := by
  have inh : Inhabited Sl := ⟨⟨nilS, nilS, nilS, nilS, 0, 0, []⟩⟩
  obtain ⟨fuel, hf⟩ := h
  rcases open_slice Try.underlying57 hf with ⟨hcs, _⟩ | ⟨x, l, c, m, n, D, Pl, hcs, hb, hl, hm, hmm, hx, hel⟩
  · simp [Value.cells] at hcs
    obtain ⟨rfl, rfl, rfl⟩ := hcs
    exact ⟨fun _ => default, fun i hi => by omega, fun h => absurd h (by omega), trivial, Nat.le_refl _, fun _ => ⟨rfl, rfl⟩, .inl rfl⟩
  · simp [Value.cells] at hcs
    obtain ⟨rfl, rfl, rfl⟩ := hcs
    simp only [Prod.mk.injEq] at hx
    obtain ⟨rfl, _⟩ := hx
    have hlm : len ≤ m := by rw [hmm]; split <;> omega
    have e : ∀ i, i < len → ∃ q : Sl, (∀ j v, (slc q).toList[j]? = some v → W.cell? (x.add (i * 6 + j)) = some v) ∧ GoodS W q ∧ ∃ d0 d1 d2 d3 d4 d5, D i = DataW.agg [.agg [d0, d1, d2], d3, d4, d5] ∧ LenOf q.pk.n d3 := by
      intro i hi
      obtain ⟨cs', h1, h2⟩ := hel i (by omega)
      rw [cells51] at h1
      obtain ⟨_, hlen, hcell⟩ := World.cells?_some h1
      obtain ⟨k, i', h', pk, at_, high, kz, iz, hz, ps, hc, hm'⟩ := trod_sealed h2 hlen
      obtain ⟨d0, d1, d2, d3, d4, d5, hd, _, _, _, l3⟩ := hm'.l
      refine ⟨⟨k, i', h', pk, at_, high, ps⟩, ?_, ⟨hm'.cp, hm'.cc, hm'.cn⟩, d0, d1, d2, d3, d4, d5, hd, l3⟩
      intro j v hv
      have hv' : cs'[j]? = some v := by rw [hc]; exact hv
      have hj : j < 6 := by
        rcases Nat.lt_or_ge j 6 with hh | hh
        · exact hh
        · rw [List.getElem?_eq_none (by omega)] at hv'; cases hv'
      have e0 := hcell j (by omega)
      rw [add_add] at e0
      rw [e0]
      first | exact hv' | (rw [← hv', List.getElem?_eq_getElem (by omega)]) | simpa using hv'
    obtain ⟨f, hf'⟩ := choose_lt e
    refine ⟨f, fun i hi => (hf' i hi).2.1, ?_, trivial, hl, (fun h => by cases h), .inr ⟨_, _, rfl, by simp, fun i hi => ?_⟩⟩
    · intro hlen
      obtain ⟨b, off, spot⟩ := x
      have hc := (hf' 0 hlen).1 0 _ rfl
      have hspot : spot = none := by simpa [Addr.add] using World.cell?_spot hc
      subst hspot
      refine ⟨b, off, rfl, fun i hi => ?_⟩
      intro j v hv
      have h0 := (hf' i hi).1 j v hv
      rw [addr_add] at h0
      rw [Nat.add_assoc]
      exact h0
    · obtain ⟨_, _, d0, d1, d2, d3, d4, d5, hD, hr⟩ := hf' i hi
      exact ⟨d0, d1, d2, d3, d4, d5, by rw [← hD]; exact List.mem_map.2 ⟨i, List.mem_range.2 hi, rfl⟩, hr⟩
theorem weights_mem_all {H : Type} {P : Program} {e : TypeId} {d : DataW H} {l : List (DataW H)} (h : d ∈ l) {n : Nat} (hn : n ∈ d.weights P e) : n ∈ DataW.weightsAll P e l := by
  induction l with
  | nil => cases h
  | cons x r ih =>
    rw [DataW.weightsAll, List.mem_append]
    rcases List.mem_cons.1 h with rfl | h
    · exact .inl hn
    · exact .inr (ih h)
theorem len_le_seals {H : Type} {ts : List TypeId} {ds : List (DataW H)} {j len : Nat} {z : Nat → Sl} {d : DataW H} (hsz : (DataW.weightsEach Try.prog ts ds).all (· ≤ reachBytes) = true) (ht : ts[j]? = some 57) (hd : ds[j]? = some d)
    (h : len = 0 ∨ ∃ elems spare, d = .slice elems spare ∧ len ≤ elems.length + spare.length ∧ ∀ i, i < len → ∃ d0 d1 d2 d3 d4 d5, (DataW.agg [.agg [d0, d1, d2], d3, d4, d5]) ∈ elems ∧ LenOf (z i).pk.n d3) :
    len * 112 ≤ 140737488351232 ∧ ∀ i, i < len → (z i).pk.n ≤ 140737488351232 := by
  rcases h with rfl | ⟨elems, spare, rfl, h, hin⟩
  · exact ⟨by omega, fun i hi => by omega⟩
  · refine ⟨?_, fun i hi => ?_⟩
    · have := sized_slice hsz (j := j) (t := 57) (e := 51) ht hd Try.underlying57
      rw [bytes51] at this
      simp only [reachBytes] at this
      omega
    · obtain ⟨d0, d1, d2, d3, d4, d5, hm, h0 | ⟨e2, s2, rfl, hle⟩⟩ := hin i hi
      · omega
      · have hw : (e2.length + s2.length) * Try.prog.bytesOf 5 ∈ (DataW.agg [.agg [d0, d1, d2], DataW.slice e2 s2, d4, d5]).weights Try.prog 51 := by
          simp [DataW.weights, DataW.weightsEach, Try.underlying51, Try.underlying30, Try.underlying22]
        have hw2 := weights_mem_all hm hw
        have hw3 : (e2.length + s2.length) * Try.prog.bytesOf 5 ∈ (DataW.slice elems spare).weights Try.prog 57 := by
          simp only [DataW.weights, Try.underlying57, List.mem_cons, List.mem_append]
          exact .inr (.inl hw2)
        have := List.all_eq_true.1 hsz _ (DataW.weights_mem_each ht hd _ hw3)
        rw [bytes5] at this
        simp [reachBytes] at this
        omega
end Go.Proofs.Ytihmlfpfpadfpaa

/-
  How the program's opener and the document's stand beside one another. Nothing is proved of a statement here.
-/
namespace Go.Proofs.Ytihmlfpfpadfpaa
open Go.RowKit
set_option linter.unusedVariables false
set_option maxRecDepth 20000

theorem seg_keepF {w w' : World} {B d : Nat} {f S : Sv} {ph : Int} {a : Option Addr} {zs : List Int} (hx : Seg w a zs) (hd : DB w d f S ph) (k : Keep (FD B d w) w w') : Seg w' a zs := by
  by_cases hz : zs = []
  · subst hz; exact seg_nil _ _
  · refine hx.keep k ?_
    intro b e hF
    obtain ⟨b2, o2, e2, hc⟩ := hx hz
    rw [e2] at e
    have e' : b2 = b := by simpa [blk] using e
    subst e'
    have h0 := hc 0 (List.length_pos_iff.2 hz)
    rcases hF with rfl | ⟨_, cur, h1, h2⟩
    · rw [Nat.add_zero, cell_of_row w b2 o2 _ 64 (0, 0) hd] at h0
      rcases (show o2 = 0 ∨ o2 = 1 ∨ o2 = 2 ∨ 3 ≤ o2 by omega) with rfl | rfl | rfl | h4
      · simp at h0
      · simp at h0
      · simp at h0
      · rw [Array.getElem?_eq_none (by show 3 ≤ o2; exact h4)] at h0
        cases h0
    · rw [Nat.add_zero, cell_of_row w b2 o2 _ 22 (0, 0) h1] at h0
      obtain ⟨x1, x2, x3, hx4⟩ := h2 _ (Array.mem_toList_iff.2 (Array.mem_of_getElem? h0))
      cases hx4
theorem in_keepF {w w' : World} {B d : Nat} {f S x : Sv} {ph : Int} {zs : List Int} (hx : In w x zs) (hd : DB w d f S ph) (k : Keep (FD B d w) w w') : In w' x zs := ⟨seg_keepF hx.s hd k, hx.l, hx.z⟩
theorem OpI.kd {w w' : World} {g B d : Nat} {h p f f' S : Sv} {ph ph' : Int} {hz tz : List Int} {fz : Option (List Int)} (x : OpI w g h p f ph hz tz fz) (hd : DB w d f' S ph') (k : Keep (FD B d w) w w') : OpI w' g h p f ph hz tz fz := by
  have hg : ¬ FD B d w g := by
    have hO : w.heap[g]? = some (.cells _ 107 (0, 0)) := x.o
    rintro (rfl | ⟨_, cur, h1, _⟩)
    · have hD : w.heap[g]? = some (.cells _ 64 (0, 0)) := hd
      rw [hO] at hD
      simp at hD
    · rw [hO] at h1
      simp at h1
  refine ⟨(k.block g (lt_of_block x.o) hg).trans x.o, in_keepF x.ih hd k, in_keepF x.ip hd k, x.pn, ?_⟩
  cases fz with
  | none => exact x.fo
  | some z => exact ⟨in_keepF x.fo.1 hd k, x.fo.2⟩
theorem DOp.ko {w w' : World} {B d g N : Nat} {f h p f' : Sv} {ph ph' : Int} {z0 tz : List Int} {fz : Option (List Int)} (x : DOp w B d f ph z0 tz fz N) (ho : OB w g h p f' ph') (k : Keep (fun i => i = g) w w') : DOp w' B d f ph z0 tz fz N := by
  obtain ⟨S, ys, y, h1, ⟨h2, h2a⟩, h3, h4, h5, h6, h7, h8⟩ := x.ex
  have hO : w.heap[g]? = some (.cells _ 107 (0, 0)) := ho
  have hd : d ≠ g := by
    rintro rfl
    have hD : w.heap[d]? = some (.cells _ 64 (0, 0)) := h1
    rw [hO] at hD
    simp at hD
  have hsf : ∀ {s : Sv}, Sf w B s → Sf w' B s := by
    intro s hs b hb
    rcases hs b hb with e | ⟨cur, e⟩
    · exact .inl e
    · refine .inr ⟨cur, (k.block b (lt_of_block e) ?_).trans e⟩
      rintro rfl
      rw [hO] at e
      simp at e
  refine ⟨⟨S, ys, y, h1.keep k hd, ⟨Sub.keep h2 k ?_, ?_⟩, h3, in_keepO h4 ho k, hsf h5, h6, h7, ?_⟩, in_keepO x.ff ho k, x.fn, x.fs, x.dB⟩
  · rintro b hb rfl
    rcases h2.2 with ⟨h0, _, _⟩ | ⟨gq, offq, curq, haq, hgq, _⟩
    · rw [h0] at hb; simp [blk] at hb
    · rw [haq] at hb
      have e8 : gq = b := by simpa [blk] using hb
      subst e8
      rw [hgq] at hO
      simp at hO
  · intro gq oq e
    obtain ⟨cur, c1, c2⟩ := h2a gq oq e
    refine ⟨cur, (k.block gq (lt_of_block c1) ?_).trans c1, c2⟩
    rintro rfl
    rw [c1] at hO
    simp at hO
  · cases fz with
    | none => exact h8
    | some z =>
      obtain ⟨zs, y', a1, a2, a3, a4⟩ := h8
      exact ⟨zs, y', a1, in_keepO a2 ho k, hsf a3, a4⟩
theorem DOp.q0 {w w' : World} {B d N : Nat} {f : Sv} {ph : Int} {z0 tz : List Int} {fz : Option (List Int)} (h : DOp w B d f ph z0 tz fz N) (q : Q w w') : DOp w' B d f ph z0 tz fz N := by
  obtain ⟨S, ys, y, h1, ⟨h2, h2a⟩, h3, h4, h5, h6, h7, h8⟩ := h.ex
  refine ⟨⟨S, ys, y, h1.q q, ⟨Sub.q h2 q, h2a.q q⟩, h3, h4.q q, h5.q q, h6, h7, ?_⟩, h.ff.q q, h.fn, h.fs, h.dB⟩
  cases fz with
  | none => exact h8
  | some z =>
    obtain ⟨zs, y', a1, a2, a3, a4⟩ := h8
    exact ⟨zs, y', a1, a2.q q, a3.q q, a4⟩
theorem Row.le_max {w : World} {x : Sv} {zs : List Int} (h : Row w x zs) : x.n ≤ 9223372036854775807 := by
  rcases h.2 with ⟨_, h0, _⟩ | ⟨_, _, _, _, _, h1, h2, _⟩
  · omega
  · unfold maxLen at h2; omega
/-- Both openers. -/
structure Both (w : World) (g d : Nat) (h f0 : Sv) (tz : List Int) (i : Nat) (u : World) : Prop where
  q : Q w u
  ge : w.heap.size ≤ g
  st : ∃ (p f : Sv) (ph : Int) (t : List Int) (fz : Option (List Int)), OpI u g h p f ph (hpL tz) t fz ∧ DOp u w.heap.size d f0 ph tz t fz (i + 1)
theorem Both.q' {w : World} {g d : Nat} {h f0 : Sv} {tz : List Int} {i : Nat} {u v : World} (x : Both w g d h f0 tz i u) (q : Q u v) : Both w g d h f0 tz i v := by
  obtain ⟨p, f, ph, t, fz, o1, o2⟩ := x.st
  obtain ⟨S, ys, y, h1, ⟨h2, h2a⟩, h3, h4, h5, h6, h7, h8⟩ := o2.ex
  refine ⟨x.q.trans q, x.ge, p, f, ph, t, fz, o1.q q, ⟨⟨S, ys, y, h1.q q, ⟨Sub.q h2 q, h2a.q q⟩, h3, h4.q q, h5.q q, h6, h7, ?_⟩, o2.ff.q q, o2.fn, o2.fs, o2.dB⟩⟩
  cases fz with
  | none => exact h8
  | some z =>
    obtain ⟨zs, y', a1, a2, a3, a4⟩ := h8
    exact ⟨zs, y', a1, a2.q q, a3.q q, a4⟩
theorem DOp.db {w : World} {B d N : Nat} {f : Sv} {ph : Int} {z0 tz : List Int} {fz : Option (List Int)} (x : DOp w B d f ph z0 tz fz N) : ∃ S, DB w d f S ph := by
  obtain ⟨S, ys, y, h1, _⟩ := x.ex
  exact ⟨S, h1⟩
/-- The document's opener as it is laid. -/
theorem dop_new (w0 w : World) (a : Option Addr) (c : Nat) (tz : List Int) (hq : Q w0 w) (hl : tz.length = 16) (hz : ∀ y ∈ tz, 0 ≤ y ∧ y < 256) (hs : Seg w0 a tz) :
    DOp ((w.alloc (.cells #[.slice a 16 c] 22)).alloc (.cells #[.slice a 16 c, .slice (some ⟨w.heap.size, 0, none⟩) 1 1, .int .i64 0] 64)) w0.heap.size (w.heap.size + 1) ⟨a, 16, c⟩ 0 tz tz none 1 := by
  have q1 : Q w (w.alloc (.cells #[.slice a 16 c] 22)) := (Q.refl w).alloc _
  have q2 : Q (w.alloc (.cells #[.slice a 16 c] 22)) ((w.alloc (.cells #[.slice a 16 c] 22)).alloc (.cells #[.slice a 16 c, .slice (some ⟨w.heap.size, 0, none⟩) 1 1, .int .i64 0] 64)) := (Q.refl _).alloc _
  have hb1 : (w.alloc (.cells #[.slice a 16 c] 22)).heap[w.heap.size]? = some (.cells #[.slice a 16 c] 22 (0, 0)) := heap_alloc_new w _
  have hb2 := (Below.block q2 _ (lt_of_block hb1)).trans hb1
  have hsz : (w.alloc (.cells #[.slice a 16 c] 22)).heap.size = w.heap.size + 1 := by simp
  have hb3 := heap_alloc_new (w.alloc (.cells #[.slice a 16 c] 22)) (.cells #[.slice a 16 c, .slice (some ⟨w.heap.size, 0, none⟩) 1 1, .int .i64 0] 64)
  rw [hsz] at hb3
  have hi : In ((w.alloc (.cells #[.slice a 16 c] 22)).alloc (.cells #[.slice a 16 c, .slice (some ⟨w.heap.size, 0, none⟩) 1 1, .int .i64 0] 64)) ⟨a, 16, c⟩ tz := ⟨((hs.q hq).q q1).q q2, hl, hz⟩
  have hf : ∀ b, blk a = some b → b < w0.heap.size := by
    intro b hb
    obtain ⟨b2, o2, e2, hc⟩ := hs (by intro e; rw [e] at hl; simp at hl)
    rw [e2] at hb
    have e' : b2 = b := by simpa [blk] using hb
    subst e'
    exact lt_of_cell (hc 0 (by omega))
  have hsize := hq.size
  refine ⟨⟨⟨some ⟨w.heap.size, 0, none⟩, 1, 1⟩, [], ⟨a, 16, c⟩, hb3, ⟨⟨rfl, .inr ⟨w.heap.size, 0, _, rfl, hb2, Nat.le_refl _, (by show 1 ≤ maxLen; unfold maxLen; omega), by simp, ?_⟩⟩, ?_⟩, ?_, hi, fun b hb => .inl (hf b hb), rfl, Nat.le_refl _, rfl⟩, hi, rfl, hf, by omega⟩
  · intro j hj
    have hj' : j < 1 * 1 := hj
    have e : j = 0 := by omega
    subst e
    rfl
  · intro g off e
    cases e
    refine ⟨_, hb2, ?_⟩
    intro v hv
    simp at hv
    exact ⟨_, _, _, hv⟩
  · intro b hb
    have e' : w.heap.size = b := by simpa [blk] using hb
    omega
end Go.Proofs.Ytihmlfpfpadfpaa

/-
  A region that draws its order, gone through by hand: operations that only reckon or read what nobody writes are taken first, in a given order; then the others, one by one.
-/
namespace Go.Proofs.Ytihmlfpfpadfpaa
open Go.RowKit
set_option linter.unusedVariables false
set_option maxRecDepth 20000

def opsOf : Code → Nat → Option (Array Oper)
  | .region id ops _, k => if id == k then some ops else none
  | .seq a b, k => (opsOf a k).orElse fun _ => opsOf b k
  | .cond _ a b, k => (opsOf a k).orElse fun _ => opsOf b k
  | .block _ b, k => opsOf b k
  | .loop b, k => opsOf b k
  | .scope b, k => opsOf b k
  | _, _ => none
abbrev RofN (f : Func) (k : Nat) : Array Oper := ((f.body).bind (opsOf · k)).getD #[]
def putL (ops : Array Oper) : List (Nat × Value) → Act → Act
  | [], a => a
  | x :: l, a => putL ops l (a.put ((ops[x.1]?).bind (·.dst)) x.2)
def setL : List (Nat × Value) → Array Bool → Array Bool
  | [], L => L
  | x :: l, L => setL l (L.setIfInBounds x.1 true)
def Chn (P : Program) (ops : Array Oper) (S : World → Prop) : List (Nat × Value) → Array Bool → Act → Prop
  | [], _, _ => True
  | x :: l, L, a => (Region.free .any ops L x.1 = true ∧ (Region.ready .any ops L).contains x.1 = true ∧ (ops[x.1]?).isSome = true ∧ Region.wanted ((ops[x.1]?).getD default) (yielded ops a.tmps) = true ∧
      ∀ w, S w → (execOp a.eval ((ops[x.1]?).getD default)).run P w = .ok (.value x.2) w) ∧ Chn P ops S l (L.setIfInBounds x.1 true) (a.put ((ops[x.1]?).bind (·.dst)) x.2)
theorem chn_take {P : Program} {ops : Array Oper} {Q : Exit → Act → World → Prop} {S : World → Prop} {w : World} (hs : Region.noSelect ops = true) (hQ : ∀ c a d v w, Q (.panic c) (a.put d v) w → Q (.panic c) a w) (hS : S w) (fuel : Nat) :
    ∀ (l : List (Nat × Value)) (L : Array Bool) (a : Act), Chn P ops S l L a → wpAnyH P .any ops Q S fuel (setL l L) (putL ops l a) w → wpAnyH P .any ops Q S (fuel + l.length) L a w
  | [], _, _, _, h => h
  | x :: l, L, a, ⟨⟨y1, y2, y3, y4, y5⟩, hc⟩, h => by
    obtain ⟨o, ho⟩ := Option.isSome_iff_exists.1 y3
    have ih := chn_take hs hQ hS fuel l _ _ hc h
    rw [ho] at y4 y5 ih
    exact wpAnyH_take (v := x.2) ho hs y1 y2 (fun c a w => hQ c a _ _ w) (.inl ⟨y4, y5⟩) hS ih
theorem wpOp_skip {ops : Array Oper} {i : Nat} {a : Act} {w w' : World} {K : Act → World → Prop} {R : Exit → Act → World → Prop} (d : Option Tmp) (hi : (ops[i]?).isSome = true) (hd : (ops[i]?).bind (·.dst) = d) (hw : Region.wanted ((ops[i]?).getD default) (yielded ops a.tmps) = true)
    (hr : (execOp a.eval ((ops[i]?).getD default)).run Try.prog w = .ok .skip w') (h : K (a.put d undef) w') : wpOp Try.prog ops R i K a w := by
  obtain ⟨o, ho⟩ := Option.isSome_iff_exists.1 hi
  rw [ho] at hd hw hr
  unfold wpOp
  simp only [ho]
  have hw' : Region.wanted o (yielded ops a.tmps) = true := hw
  rw [if_pos hw']
  refine .inl ?_
  unfold Oper.wp
  have hr' : (execOp a.eval o).run Try.prog w = .ok .skip w' := hr
  rw [hr']
  have hd' : o.dst = d := hd
  rw [← hd'] at h
  exact h
theorem wpOp_val {ops : Array Oper} {i : Nat} {a : Act} {w w' : World} {K : Act → World → Prop} {R : Exit → Act → World → Prop} {v : Value} (d : Option Tmp) (hi : (ops[i]?).isSome = true) (hd : (ops[i]?).bind (·.dst) = d) (hw : Region.wanted ((ops[i]?).getD default) (yielded ops a.tmps) = true)
    (hr : (execOp a.eval ((ops[i]?).getD default)).run Try.prog w = .ok (.value v) w') (h : K (a.put d v) w') : wpOp Try.prog ops R i K a w := by
  obtain ⟨o, ho⟩ := Option.isSome_iff_exists.1 hi
  rw [ho] at hd hw hr
  unfold wpOp
  simp only [ho]
  have hw' : Region.wanted o (yielded ops a.tmps) = true := hw
  rw [if_pos hw']
  refine .inl ?_
  unfold Oper.wp
  have hr' : (execOp a.eval o).run Try.prog w = .ok (.value v) w' := hr
  rw [hr']
  have hd' : o.dst = d := hd
  rw [← hd'] at h
  exact h
theorem wpOp_call {ops : Array Oper} {i : Nat} {a : Act} {w : World} {K : Act → World → Prop} {R : Exit → Act → World → Prop} (d : Option Tmp) (hi : (ops[i]?).isSome = true) (hd : (ops[i]?).bind (·.dst) = d) (hw : Region.wanted ((ops[i]?).getD default) (yielded ops a.tmps) = true)
    (f : FuncId) (args : Array Value) (hr : (execOp a.eval ((ops[i]?).getD default)).run Try.prog w = .ok (.enter f args) w) {R0 : Ending → World → Prop} (hc : Calls Try.prog f args w R0) (v : Value) (hR : ∀ e w', R0 e w' → e = .returned v ∧ K (a.put d v) w') : wpOp Try.prog ops R i K a w := by
  obtain ⟨o, ho⟩ := Option.isSome_iff_exists.1 hi
  rw [ho] at hd hw hr
  unfold wpOp
  simp only [ho]
  have hw' : Region.wanted o (yielded ops a.tmps) = true := hw
  rw [if_pos hw']
  refine .inl ?_
  unfold Oper.wp
  have hr' : (execOp a.eval o).run Try.prog w = .ok (.enter f args) w := hr
  rw [hr']
  have hd' : o.dst = d := hd
  refine hc.mono ?_
  intro e w' h
  obtain ⟨rfl, h2⟩ := hR e w' h
  rw [← hd'] at h2
  exact h2
theorem wpAnyH_one {P : Program} {ops : Array Oper} {Q : Exit → Act → World → Prop} {S : World → Prop} {i fuel : Nat} {L : Array Bool} {a : Act} {w : World} (hr : Region.ready .any ops L = [i])
    (h : wpOp P ops Q i (fun a' w' => S w' ∧ wpAnyH P .any ops Q S fuel (L.setIfInBounds i true) a' w') a w) : wpAnyH P .any ops Q S (fuel + 1) L a w :=
  wpAnyH_all hr (by simp) (fun j hj => by
    have e : j = i := by simpa using hj
    rw [e]; exact h)
theorem wpOp_callx {ops : Array Oper} {i : Nat} {a : Act} {w : World} {K : Act → World → Prop} {R : Exit → Act → World → Prop} (d : Option Tmp) (hi : (ops[i]?).isSome = true) (hd : (ops[i]?).bind (·.dst) = d) (hw : Region.wanted ((ops[i]?).getD default) (yielded ops a.tmps) = true)
    (f : FuncId) (args : Array Value) (hr : (execOp a.eval ((ops[i]?).getD default)).run Try.prog w = .ok (.enter f args) w) {R0 : Ending → World → Prop} (hc : Calls Try.prog f args w R0) (hR : ∀ e w', R0 e w' → ∃ v, e = .returned v ∧ K (a.put d v) w') : wpOp Try.prog ops R i K a w := by
  obtain ⟨o, ho⟩ := Option.isSome_iff_exists.1 hi
  rw [ho] at hd hw hr
  unfold wpOp
  simp only [ho]
  have hw' : Region.wanted o (yielded ops a.tmps) = true := hw
  rw [if_pos hw']
  refine .inl ?_
  unfold Oper.wp
  have hr' : (execOp a.eval o).run Try.prog w = .ok (.enter f args) w := hr
  rw [hr']
  have hd' : o.dst = d := hd
  refine hc.mono ?_
  intro e w' h
  obtain ⟨v, rfl, h2⟩ := hR e w' h
  rw [← hd'] at h2
  exact h2
abbrev actO (ini : List Value) (n : Nat) : Act := ⟨(ini ++ List.replicate n undef).toArray, []⟩
theorem rgA {c : Code} {Q : Exit → Act → World → Prop} {w : World} {A B : Act} (e : B = A) (h : c.wp Try.prog Q A w) : c.wp Try.prog Q B w := by rw [e]; exact h
end Go.Proofs.Ytihmlfpfpadfpaa

/-
  The comparison of both openers' answers: a region that draws its order, with two calls.
-/
namespace Go.Proofs.Ytihmlfpfpadfpaa
open Go.RowKit
set_option linter.unusedVariables false
set_option maxRecDepth 20000

theorem run_neq {o : Oper} {a : Act} {w : World} (x y : Operand) (n : Int) (ho : o.op = .binOp .neq 3 x y 3) (hx : a.eval x = .int .i64 n) (hy : a.eval y = .int .i64 n) :
    (execOp a.eval o).run Try.prog w = .ok (.value (.bool false)) w := by
  unfold execOp
  simp only [ho, hx, hy]
  simp [go_sem]
theorem ld_int {o : Oper} {a : Act} {w : World} (x : Operand) (b j : Nat) (v : Int) (ho : o.op = .load 3 x) (hx : a.eval x = .pointer (some ⟨b, j, none⟩)) (hc : w.cell? ⟨b, j, none⟩ = some (.int .i64 v)) :
    (execOp a.eval o).run Try.prog w = .ok (.value (.int .i64 v)) w := by
  have hst : (loadVar 3 ⟨b, j, none⟩).run Try.prog w = .ok (.int .i64 v) w := by simp [loadVar, go_sem, hc]
  unfold execOp
  simp only [ho, hx, Instr.loadAt, Instr.sureAddr, Sem.run_bind, Sem.run_pure, Result.andThen_ok, hst]
def SG (w : World) (d : Nat) (ph : Int) (u : World) : Prop := Q w u ∧ u.cell? ⟨d, 2, none⟩ = some (.int .i64 ph)
theorem sg_q {w : World} {d : Nat} {ph : Int} {u v : World} (h : SG w d ph u) (q : Q u v) : SG w d ph v := ⟨h.1.trans q, (q.cell (p := ⟨d, 2, none⟩) (lt_of_cell h.2)).trans h.2⟩
abbrev rgGA0 (g d : Nat) (n er ph : Int) (x y : Sv) (x0 x1 x2 x3 x4 x6 x8 x9 x16 x17 x18 x19 x20 x21 x22 x23 x24 x25 x26 x27 x28 x29 x30 x31 x32 x33 x34 x35 x36 x37 x38 x39 x40 x41 x42 x43 x44 x45 x46 x47 x48 x49 x50 x51 x52 x53 x54 x55 x56 x57 x58 x59 x60 x61 x62 x63 x64 x65 x66 x67 x68 x69 x70 x71 x72 x73 x74 x75 x76 x77 x78 x79 x80 x81 x82 x83 x84 x85 x86 x87 x88 x89 x90 x91 x92 x93 x94 x95 x96 x97 x98 x99 x100 : Value) : Act := actO [x0, x1, x2, x3, x4, .pointer (some ⟨g, 0, none⟩), x6, .pointer (some ⟨d, 0, none⟩), x8, x9, .int .i64 n, .slice x.a x.n x.c, .int .i64 er, .int .i64 n, .slice y.a y.n y.c, .int .i64 er, x16, x17, x18, x19, x20, x21, x22, x23, x24, x25, x26, x27, x28, x29, x30, x31, x32, x33, x34, x35, x36, x37, x38, x39, x40, x41, x42, x43, x44, x45, x46, x47, x48, x49, x50, x51, x52, x53, x54, x55, x56, x57, x58, x59, x60, x61, x62, x63, x64, x65, x66, x67, x68, x69, x70, x71, x72, x73, x74, x75, x76, x77, x78, x79, x80, x81, x82, x83, x84, x85, x86, x87, x88, x89, x90, x91, x92, x93, x94, x95, x96, x97, x98, x99, x100] 0
abbrev rgGL0 : Array Bool := Array.replicate 23 false
def rgGS0 (g d : Nat) (n er ph : Int) (x y : Sv) (x0 x1 x2 x3 x4 x6 x8 x9 x16 x17 x18 x19 x20 x21 x22 x23 x24 x25 x26 x27 x28 x29 x30 x31 x32 x33 x34 x35 x36 x37 x38 x39 x40 x41 x42 x43 x44 x45 x46 x47 x48 x49 x50 x51 x52 x53 x54 x55 x56 x57 x58 x59 x60 x61 x62 x63 x64 x65 x66 x67 x68 x69 x70 x71 x72 x73 x74 x75 x76 x77 x78 x79 x80 x81 x82 x83 x84 x85 x86 x87 x88 x89 x90 x91 x92 x93 x94 x95 x96 x97 x98 x99 x100 : Value) : List (Nat × Value) := [(0, .int .i64 n), (1, .int .i64 n), (2, .bool false), (3, .bool false), (4, .slice x.a x.n x.c), (5, .slice y.a y.n y.c)]
abbrev rgGA1 (g d : Nat) (n er ph : Int) (x y : Sv) (x0 x1 x2 x3 x4 x6 x8 x9 x16 x17 x18 x19 x20 x21 x22 x23 x24 x25 x26 x27 x28 x29 x30 x31 x32 x33 x34 x35 x36 x37 x38 x39 x40 x41 x42 x43 x44 x45 x46 x47 x48 x49 x50 x51 x52 x53 x54 x55 x56 x57 x58 x59 x60 x61 x62 x63 x64 x65 x66 x67 x68 x69 x70 x71 x72 x73 x74 x75 x76 x77 x78 x79 x80 x81 x82 x83 x84 x85 x86 x87 x88 x89 x90 x91 x92 x93 x94 x95 x96 x97 x98 x99 x100 : Value) (f : Func) : Act := (putL (RofN f 12) (rgGS0 g d n er ph x y x0 x1 x2 x3 x4 x6 x8 x9 x16 x17 x18 x19 x20 x21 x22 x23 x24 x25 x26 x27 x28 x29 x30 x31 x32 x33 x34 x35 x36 x37 x38 x39 x40 x41 x42 x43 x44 x45 x46 x47 x48 x49 x50 x51 x52 x53 x54 x55 x56 x57 x58 x59 x60 x61 x62 x63 x64 x65 x66 x67 x68 x69 x70 x71 x72 x73 x74 x75 x76 x77 x78 x79 x80 x81 x82 x83 x84 x85 x86 x87 x88 x89 x90 x91 x92 x93 x94 x95 x96 x97 x98 x99 x100) (rgGA0 g d n er ph x y x0 x1 x2 x3 x4 x6 x8 x9 x16 x17 x18 x19 x20 x21 x22 x23 x24 x25 x26 x27 x28 x29 x30 x31 x32 x33 x34 x35 x36 x37 x38 x39 x40 x41 x42 x43 x44 x45 x46 x47 x48 x49 x50 x51 x52 x53 x54 x55 x56 x57 x58 x59 x60 x61 x62 x63 x64 x65 x66 x67 x68 x69 x70 x71 x72 x73 x74 x75 x76 x77 x78 x79 x80 x81 x82 x83 x84 x85 x86 x87 x88 x89 x90 x91 x92 x93 x94 x95 x96 x97 x98 x99 x100)).put (some 82) (.bool true)
abbrev rgGL1 (g d : Nat) (n er ph : Int) (x y : Sv) (x0 x1 x2 x3 x4 x6 x8 x9 x16 x17 x18 x19 x20 x21 x22 x23 x24 x25 x26 x27 x28 x29 x30 x31 x32 x33 x34 x35 x36 x37 x38 x39 x40 x41 x42 x43 x44 x45 x46 x47 x48 x49 x50 x51 x52 x53 x54 x55 x56 x57 x58 x59 x60 x61 x62 x63 x64 x65 x66 x67 x68 x69 x70 x71 x72 x73 x74 x75 x76 x77 x78 x79 x80 x81 x82 x83 x84 x85 x86 x87 x88 x89 x90 x91 x92 x93 x94 x95 x96 x97 x98 x99 x100 : Value) : Array Bool := (setL (rgGS0 g d n er ph x y x0 x1 x2 x3 x4 x6 x8 x9 x16 x17 x18 x19 x20 x21 x22 x23 x24 x25 x26 x27 x28 x29 x30 x31 x32 x33 x34 x35 x36 x37 x38 x39 x40 x41 x42 x43 x44 x45 x46 x47 x48 x49 x50 x51 x52 x53 x54 x55 x56 x57 x58 x59 x60 x61 x62 x63 x64 x65 x66 x67 x68 x69 x70 x71 x72 x73 x74 x75 x76 x77 x78 x79 x80 x81 x82 x83 x84 x85 x86 x87 x88 x89 x90 x91 x92 x93 x94 x95 x96 x97 x98 x99 x100) (rgGL0)).setIfInBounds 6 true
def rgGS1 (g d : Nat) (n er ph : Int) (x y : Sv) (x0 x1 x2 x3 x4 x6 x8 x9 x16 x17 x18 x19 x20 x21 x22 x23 x24 x25 x26 x27 x28 x29 x30 x31 x32 x33 x34 x35 x36 x37 x38 x39 x40 x41 x42 x43 x44 x45 x46 x47 x48 x49 x50 x51 x52 x53 x54 x55 x56 x57 x58 x59 x60 x61 x62 x63 x64 x65 x66 x67 x68 x69 x70 x71 x72 x73 x74 x75 x76 x77 x78 x79 x80 x81 x82 x83 x84 x85 x86 x87 x88 x89 x90 x91 x92 x93 x94 x95 x96 x97 x98 x99 x100 : Value) : List (Nat × Value) := [(7, .bool false), (8, .bool false), (9, .bool false), (10, .int .i64 er), (11, .int .i64 er), (12, .bool false), (13, .bool false), (14, .bool false), (15, .pointer (some ⟨g, 0, none⟩)), (17, .pointer (some ⟨d, 0, none⟩)), (18, .pointer (some ⟨d, 0, none⟩)), (19, .pointer (some ⟨d, 2, none⟩)), (20, .int .i64 ph)]
abbrev rgGA2 (g d : Nat) (n er ph : Int) (x y : Sv) (x0 x1 x2 x3 x4 x6 x8 x9 x16 x17 x18 x19 x20 x21 x22 x23 x24 x25 x26 x27 x28 x29 x30 x31 x32 x33 x34 x35 x36 x37 x38 x39 x40 x41 x42 x43 x44 x45 x46 x47 x48 x49 x50 x51 x52 x53 x54 x55 x56 x57 x58 x59 x60 x61 x62 x63 x64 x65 x66 x67 x68 x69 x70 x71 x72 x73 x74 x75 x76 x77 x78 x79 x80 x81 x82 x83 x84 x85 x86 x87 x88 x89 x90 x91 x92 x93 x94 x95 x96 x97 x98 x99 x100 : Value) (f : Func) : Act := (putL (RofN f 12) (rgGS1 g d n er ph x y x0 x1 x2 x3 x4 x6 x8 x9 x16 x17 x18 x19 x20 x21 x22 x23 x24 x25 x26 x27 x28 x29 x30 x31 x32 x33 x34 x35 x36 x37 x38 x39 x40 x41 x42 x43 x44 x45 x46 x47 x48 x49 x50 x51 x52 x53 x54 x55 x56 x57 x58 x59 x60 x61 x62 x63 x64 x65 x66 x67 x68 x69 x70 x71 x72 x73 x74 x75 x76 x77 x78 x79 x80 x81 x82 x83 x84 x85 x86 x87 x88 x89 x90 x91 x92 x93 x94 x95 x96 x97 x98 x99 x100) (rgGA1 g d n er ph x y x0 x1 x2 x3 x4 x6 x8 x9 x16 x17 x18 x19 x20 x21 x22 x23 x24 x25 x26 x27 x28 x29 x30 x31 x32 x33 x34 x35 x36 x37 x38 x39 x40 x41 x42 x43 x44 x45 x46 x47 x48 x49 x50 x51 x52 x53 x54 x55 x56 x57 x58 x59 x60 x61 x62 x63 x64 x65 x66 x67 x68 x69 x70 x71 x72 x73 x74 x75 x76 x77 x78 x79 x80 x81 x82 x83 x84 x85 x86 x87 x88 x89 x90 x91 x92 x93 x94 x95 x96 x97 x98 x99 x100 f)).put (some 92) (.int .i64 ph)
abbrev rgGL2 (g d : Nat) (n er ph : Int) (x y : Sv) (x0 x1 x2 x3 x4 x6 x8 x9 x16 x17 x18 x19 x20 x21 x22 x23 x24 x25 x26 x27 x28 x29 x30 x31 x32 x33 x34 x35 x36 x37 x38 x39 x40 x41 x42 x43 x44 x45 x46 x47 x48 x49 x50 x51 x52 x53 x54 x55 x56 x57 x58 x59 x60 x61 x62 x63 x64 x65 x66 x67 x68 x69 x70 x71 x72 x73 x74 x75 x76 x77 x78 x79 x80 x81 x82 x83 x84 x85 x86 x87 x88 x89 x90 x91 x92 x93 x94 x95 x96 x97 x98 x99 x100 : Value) : Array Bool := (setL (rgGS1 g d n er ph x y x0 x1 x2 x3 x4 x6 x8 x9 x16 x17 x18 x19 x20 x21 x22 x23 x24 x25 x26 x27 x28 x29 x30 x31 x32 x33 x34 x35 x36 x37 x38 x39 x40 x41 x42 x43 x44 x45 x46 x47 x48 x49 x50 x51 x52 x53 x54 x55 x56 x57 x58 x59 x60 x61 x62 x63 x64 x65 x66 x67 x68 x69 x70 x71 x72 x73 x74 x75 x76 x77 x78 x79 x80 x81 x82 x83 x84 x85 x86 x87 x88 x89 x90 x91 x92 x93 x94 x95 x96 x97 x98 x99 x100) (rgGL1 g d n er ph x y x0 x1 x2 x3 x4 x6 x8 x9 x16 x17 x18 x19 x20 x21 x22 x23 x24 x25 x26 x27 x28 x29 x30 x31 x32 x33 x34 x35 x36 x37 x38 x39 x40 x41 x42 x43 x44 x45 x46 x47 x48 x49 x50 x51 x52 x53 x54 x55 x56 x57 x58 x59 x60 x61 x62 x63 x64 x65 x66 x67 x68 x69 x70 x71 x72 x73 x74 x75 x76 x77 x78 x79 x80 x81 x82 x83 x84 x85 x86 x87 x88 x89 x90 x91 x92 x93 x94 x95 x96 x97 x98 x99 x100)).setIfInBounds 16 true
def rgGS2 (g d : Nat) (n er ph : Int) (x y : Sv) (x0 x1 x2 x3 x4 x6 x8 x9 x16 x17 x18 x19 x20 x21 x22 x23 x24 x25 x26 x27 x28 x29 x30 x31 x32 x33 x34 x35 x36 x37 x38 x39 x40 x41 x42 x43 x44 x45 x46 x47 x48 x49 x50 x51 x52 x53 x54 x55 x56 x57 x58 x59 x60 x61 x62 x63 x64 x65 x66 x67 x68 x69 x70 x71 x72 x73 x74 x75 x76 x77 x78 x79 x80 x81 x82 x83 x84 x85 x86 x87 x88 x89 x90 x91 x92 x93 x94 x95 x96 x97 x98 x99 x100 : Value) : List (Nat × Value) := [(21, .bool false), (22, .bool false)]
abbrev rgGA3 (g d : Nat) (n er ph : Int) (x y : Sv) (x0 x1 x2 x3 x4 x6 x8 x9 x16 x17 x18 x19 x20 x21 x22 x23 x24 x25 x26 x27 x28 x29 x30 x31 x32 x33 x34 x35 x36 x37 x38 x39 x40 x41 x42 x43 x44 x45 x46 x47 x48 x49 x50 x51 x52 x53 x54 x55 x56 x57 x58 x59 x60 x61 x62 x63 x64 x65 x66 x67 x68 x69 x70 x71 x72 x73 x74 x75 x76 x77 x78 x79 x80 x81 x82 x83 x84 x85 x86 x87 x88 x89 x90 x91 x92 x93 x94 x95 x96 x97 x98 x99 x100 : Value) (f : Func) : Act := putL (RofN f 12) (rgGS2 g d n er ph x y x0 x1 x2 x3 x4 x6 x8 x9 x16 x17 x18 x19 x20 x21 x22 x23 x24 x25 x26 x27 x28 x29 x30 x31 x32 x33 x34 x35 x36 x37 x38 x39 x40 x41 x42 x43 x44 x45 x46 x47 x48 x49 x50 x51 x52 x53 x54 x55 x56 x57 x58 x59 x60 x61 x62 x63 x64 x65 x66 x67 x68 x69 x70 x71 x72 x73 x74 x75 x76 x77 x78 x79 x80 x81 x82 x83 x84 x85 x86 x87 x88 x89 x90 x91 x92 x93 x94 x95 x96 x97 x98 x99 x100) (rgGA2 g d n er ph x y x0 x1 x2 x3 x4 x6 x8 x9 x16 x17 x18 x19 x20 x21 x22 x23 x24 x25 x26 x27 x28 x29 x30 x31 x32 x33 x34 x35 x36 x37 x38 x39 x40 x41 x42 x43 x44 x45 x46 x47 x48 x49 x50 x51 x52 x53 x54 x55 x56 x57 x58 x59 x60 x61 x62 x63 x64 x65 x66 x67 x68 x69 x70 x71 x72 x73 x74 x75 x76 x77 x78 x79 x80 x81 x82 x83 x84 x85 x86 x87 x88 x89 x90 x91 x92 x93 x94 x95 x96 x97 x98 x99 x100 f)
abbrev rgGL3 (g d : Nat) (n er ph : Int) (x y : Sv) (x0 x1 x2 x3 x4 x6 x8 x9 x16 x17 x18 x19 x20 x21 x22 x23 x24 x25 x26 x27 x28 x29 x30 x31 x32 x33 x34 x35 x36 x37 x38 x39 x40 x41 x42 x43 x44 x45 x46 x47 x48 x49 x50 x51 x52 x53 x54 x55 x56 x57 x58 x59 x60 x61 x62 x63 x64 x65 x66 x67 x68 x69 x70 x71 x72 x73 x74 x75 x76 x77 x78 x79 x80 x81 x82 x83 x84 x85 x86 x87 x88 x89 x90 x91 x92 x93 x94 x95 x96 x97 x98 x99 x100 : Value) : Array Bool := setL (rgGS2 g d n er ph x y x0 x1 x2 x3 x4 x6 x8 x9 x16 x17 x18 x19 x20 x21 x22 x23 x24 x25 x26 x27 x28 x29 x30 x31 x32 x33 x34 x35 x36 x37 x38 x39 x40 x41 x42 x43 x44 x45 x46 x47 x48 x49 x50 x51 x52 x53 x54 x55 x56 x57 x58 x59 x60 x61 x62 x63 x64 x65 x66 x67 x68 x69 x70 x71 x72 x73 x74 x75 x76 x77 x78 x79 x80 x81 x82 x83 x84 x85 x86 x87 x88 x89 x90 x91 x92 x93 x94 x95 x96 x97 x98 x99 x100) (rgGL2 g d n er ph x y x0 x1 x2 x3 x4 x6 x8 x9 x16 x17 x18 x19 x20 x21 x22 x23 x24 x25 x26 x27 x28 x29 x30 x31 x32 x33 x34 x35 x36 x37 x38 x39 x40 x41 x42 x43 x44 x45 x46 x47 x48 x49 x50 x51 x52 x53 x54 x55 x56 x57 x58 x59 x60 x61 x62 x63 x64 x65 x66 x67 x68 x69 x70 x71 x72 x73 x74 x75 x76 x77 x78 x79 x80 x81 x82 x83 x84 x85 x86 x87 x88 x89 x90 x91 x92 x93 x94 x95 x96 x97 x98 x99 x100)
theorem rgGH0 (g d : Nat) (n er ph : Int) (x y : Sv) (x0 x1 x2 x3 x4 x6 x8 x9 x16 x17 x18 x19 x20 x21 x22 x23 x24 x25 x26 x27 x28 x29 x30 x31 x32 x33 x34 x35 x36 x37 x38 x39 x40 x41 x42 x43 x44 x45 x46 x47 x48 x49 x50 x51 x52 x53 x54 x55 x56 x57 x58 x59 x60 x61 x62 x63 x64 x65 x66 x67 x68 x69 x70 x71 x72 x73 x74 x75 x76 x77 x78 x79 x80 x81 x82 x83 x84 x85 x86 x87 x88 x89 x90 x91 x92 x93 x94 x95 x96 x97 x98 x99 x100 : Value) (w : World) : Chn Try.prog (RofN Try.f7 12) (SG w d ph) (rgGS0 g d n er ph x y x0 x1 x2 x3 x4 x6 x8 x9 x16 x17 x18 x19 x20 x21 x22 x23 x24 x25 x26 x27 x28 x29 x30 x31 x32 x33 x34 x35 x36 x37 x38 x39 x40 x41 x42 x43 x44 x45 x46 x47 x48 x49 x50 x51 x52 x53 x54 x55 x56 x57 x58 x59 x60 x61 x62 x63 x64 x65 x66 x67 x68 x69 x70 x71 x72 x73 x74 x75 x76 x77 x78 x79 x80 x81 x82 x83 x84 x85 x86 x87 x88 x89 x90 x91 x92 x93 x94 x95 x96 x97 x98 x99 x100) rgGL0 (rgGA0 g d n er ph x y x0 x1 x2 x3 x4 x6 x8 x9 x16 x17 x18 x19 x20 x21 x22 x23 x24 x25 x26 x27 x28 x29 x30 x31 x32 x33 x34 x35 x36 x37 x38 x39 x40 x41 x42 x43 x44 x45 x46 x47 x48 x49 x50 x51 x52 x53 x54 x55 x56 x57 x58 x59 x60 x61 x62 x63 x64 x65 x66 x67 x68 x69 x70 x71 x72 x73 x74 x75 x76 x77 x78 x79 x80 x81 x82 x83 x84 x85 x86 x87 x88 x89 x90 x91 x92 x93 x94 x95 x96 x97 x98 x99 x100) :=
  ⟨⟨by kernel_rfl, by kernel_rfl, by kernel_rfl, by kernel_rfl, fun w h => by kernel_rfl⟩,
    ⟨by kernel_rfl, by kernel_rfl, by kernel_rfl, by kernel_rfl, fun w h => by kernel_rfl⟩,
    ⟨by kernel_rfl, by kernel_rfl, by kernel_rfl, by kernel_rfl, fun w h => run_neq (.tmp 76) (.tmp 77) (n) (by kernel_rfl) (by kernel_rfl) (by kernel_rfl)⟩,
    ⟨by kernel_rfl, by kernel_rfl, by kernel_rfl, by kernel_rfl, fun w h => by kernel_rfl⟩,
    ⟨by kernel_rfl, by kernel_rfl, by kernel_rfl, by kernel_rfl, fun w h => by kernel_rfl⟩,
    ⟨by kernel_rfl, by kernel_rfl, by kernel_rfl, by kernel_rfl, fun w h => by kernel_rfl⟩,
    trivial⟩
theorem rgGH1 (g d : Nat) (n er ph : Int) (x y : Sv) (x0 x1 x2 x3 x4 x6 x8 x9 x16 x17 x18 x19 x20 x21 x22 x23 x24 x25 x26 x27 x28 x29 x30 x31 x32 x33 x34 x35 x36 x37 x38 x39 x40 x41 x42 x43 x44 x45 x46 x47 x48 x49 x50 x51 x52 x53 x54 x55 x56 x57 x58 x59 x60 x61 x62 x63 x64 x65 x66 x67 x68 x69 x70 x71 x72 x73 x74 x75 x76 x77 x78 x79 x80 x81 x82 x83 x84 x85 x86 x87 x88 x89 x90 x91 x92 x93 x94 x95 x96 x97 x98 x99 x100 : Value) (w : World) : Chn Try.prog (RofN Try.f7 12) (SG w d ph) (rgGS1 g d n er ph x y x0 x1 x2 x3 x4 x6 x8 x9 x16 x17 x18 x19 x20 x21 x22 x23 x24 x25 x26 x27 x28 x29 x30 x31 x32 x33 x34 x35 x36 x37 x38 x39 x40 x41 x42 x43 x44 x45 x46 x47 x48 x49 x50 x51 x52 x53 x54 x55 x56 x57 x58 x59 x60 x61 x62 x63 x64 x65 x66 x67 x68 x69 x70 x71 x72 x73 x74 x75 x76 x77 x78 x79 x80 x81 x82 x83 x84 x85 x86 x87 x88 x89 x90 x91 x92 x93 x94 x95 x96 x97 x98 x99 x100) (rgGL1 g d n er ph x y x0 x1 x2 x3 x4 x6 x8 x9 x16 x17 x18 x19 x20 x21 x22 x23 x24 x25 x26 x27 x28 x29 x30 x31 x32 x33 x34 x35 x36 x37 x38 x39 x40 x41 x42 x43 x44 x45 x46 x47 x48 x49 x50 x51 x52 x53 x54 x55 x56 x57 x58 x59 x60 x61 x62 x63 x64 x65 x66 x67 x68 x69 x70 x71 x72 x73 x74 x75 x76 x77 x78 x79 x80 x81 x82 x83 x84 x85 x86 x87 x88 x89 x90 x91 x92 x93 x94 x95 x96 x97 x98 x99 x100) (rgGA1 g d n er ph x y x0 x1 x2 x3 x4 x6 x8 x9 x16 x17 x18 x19 x20 x21 x22 x23 x24 x25 x26 x27 x28 x29 x30 x31 x32 x33 x34 x35 x36 x37 x38 x39 x40 x41 x42 x43 x44 x45 x46 x47 x48 x49 x50 x51 x52 x53 x54 x55 x56 x57 x58 x59 x60 x61 x62 x63 x64 x65 x66 x67 x68 x69 x70 x71 x72 x73 x74 x75 x76 x77 x78 x79 x80 x81 x82 x83 x84 x85 x86 x87 x88 x89 x90 x91 x92 x93 x94 x95 x96 x97 x98 x99 x100 Try.f7) :=
  ⟨⟨by kernel_rfl, by kernel_rfl, by kernel_rfl, by kernel_rfl, fun w h => by kernel_rfl⟩,
    ⟨by kernel_rfl, by kernel_rfl, by kernel_rfl, by kernel_rfl, fun w h => by kernel_rfl⟩,
    ⟨by kernel_rfl, by kernel_rfl, by kernel_rfl, by kernel_rfl, fun w h => by kernel_rfl⟩,
    ⟨by kernel_rfl, by kernel_rfl, by kernel_rfl, by kernel_rfl, fun w h => by kernel_rfl⟩,
    ⟨by kernel_rfl, by kernel_rfl, by kernel_rfl, by kernel_rfl, fun w h => by kernel_rfl⟩,
    ⟨by kernel_rfl, by kernel_rfl, by kernel_rfl, by kernel_rfl, fun w h => run_neq (.tmp 86) (.tmp 87) (er) (by kernel_rfl) (by kernel_rfl) (by kernel_rfl)⟩,
    ⟨by kernel_rfl, by kernel_rfl, by kernel_rfl, by kernel_rfl, fun w h => by kernel_rfl⟩,
    ⟨by kernel_rfl, by kernel_rfl, by kernel_rfl, by kernel_rfl, fun w h => by kernel_rfl⟩,
    ⟨by kernel_rfl, by kernel_rfl, by kernel_rfl, by kernel_rfl, fun w h => by kernel_rfl⟩,
    ⟨by kernel_rfl, by kernel_rfl, by kernel_rfl, by kernel_rfl, fun w h => by kernel_rfl⟩,
    ⟨by kernel_rfl, by kernel_rfl, by kernel_rfl, by kernel_rfl, fun w h => by kernel_rfl⟩,
    ⟨by kernel_rfl, by kernel_rfl, by kernel_rfl, by kernel_rfl, fun w h => by kernel_rfl⟩,
    ⟨by kernel_rfl, by kernel_rfl, by kernel_rfl, by kernel_rfl, fun w h => ld_int (.tmp 95) d 2 ph (by kernel_rfl) (by kernel_rfl) h.2⟩,
    trivial⟩
theorem rgGH2 (g d : Nat) (n er ph : Int) (x y : Sv) (x0 x1 x2 x3 x4 x6 x8 x9 x16 x17 x18 x19 x20 x21 x22 x23 x24 x25 x26 x27 x28 x29 x30 x31 x32 x33 x34 x35 x36 x37 x38 x39 x40 x41 x42 x43 x44 x45 x46 x47 x48 x49 x50 x51 x52 x53 x54 x55 x56 x57 x58 x59 x60 x61 x62 x63 x64 x65 x66 x67 x68 x69 x70 x71 x72 x73 x74 x75 x76 x77 x78 x79 x80 x81 x82 x83 x84 x85 x86 x87 x88 x89 x90 x91 x92 x93 x94 x95 x96 x97 x98 x99 x100 : Value) (w : World) : Chn Try.prog (RofN Try.f7 12) (SG w d ph) (rgGS2 g d n er ph x y x0 x1 x2 x3 x4 x6 x8 x9 x16 x17 x18 x19 x20 x21 x22 x23 x24 x25 x26 x27 x28 x29 x30 x31 x32 x33 x34 x35 x36 x37 x38 x39 x40 x41 x42 x43 x44 x45 x46 x47 x48 x49 x50 x51 x52 x53 x54 x55 x56 x57 x58 x59 x60 x61 x62 x63 x64 x65 x66 x67 x68 x69 x70 x71 x72 x73 x74 x75 x76 x77 x78 x79 x80 x81 x82 x83 x84 x85 x86 x87 x88 x89 x90 x91 x92 x93 x94 x95 x96 x97 x98 x99 x100) (rgGL2 g d n er ph x y x0 x1 x2 x3 x4 x6 x8 x9 x16 x17 x18 x19 x20 x21 x22 x23 x24 x25 x26 x27 x28 x29 x30 x31 x32 x33 x34 x35 x36 x37 x38 x39 x40 x41 x42 x43 x44 x45 x46 x47 x48 x49 x50 x51 x52 x53 x54 x55 x56 x57 x58 x59 x60 x61 x62 x63 x64 x65 x66 x67 x68 x69 x70 x71 x72 x73 x74 x75 x76 x77 x78 x79 x80 x81 x82 x83 x84 x85 x86 x87 x88 x89 x90 x91 x92 x93 x94 x95 x96 x97 x98 x99 x100) (rgGA2 g d n er ph x y x0 x1 x2 x3 x4 x6 x8 x9 x16 x17 x18 x19 x20 x21 x22 x23 x24 x25 x26 x27 x28 x29 x30 x31 x32 x33 x34 x35 x36 x37 x38 x39 x40 x41 x42 x43 x44 x45 x46 x47 x48 x49 x50 x51 x52 x53 x54 x55 x56 x57 x58 x59 x60 x61 x62 x63 x64 x65 x66 x67 x68 x69 x70 x71 x72 x73 x74 x75 x76 x77 x78 x79 x80 x81 x82 x83 x84 x85 x86 x87 x88 x89 x90 x91 x92 x93 x94 x95 x96 x97 x98 x99 x100 Try.f7) :=
  ⟨⟨by kernel_rfl, by kernel_rfl, by kernel_rfl, by kernel_rfl, fun w h => run_neq (.tmp 92) (.tmp 96) (ph) (by kernel_rfl) (by kernel_rfl) (by kernel_rfl)⟩,
    ⟨by kernel_rfl, by kernel_rfl, by kernel_rfl, by kernel_rfl, fun w h => by kernel_rfl⟩,
    trivial⟩

set_option maxHeartbeats 8000000 in
theorem rgG (g d : Nat) (n er ph : Int) (x y : Sv) (x0 x1 x2 x3 x4 x6 x8 x9 x16 x17 x18 x19 x20 x21 x22 x23 x24 x25 x26 x27 x28 x29 x30 x31 x32 x33 x34 x35 x36 x37 x38 x39 x40 x41 x42 x43 x44 x45 x46 x47 x48 x49 x50 x51 x52 x53 x54 x55 x56 x57 x58 x59 x60 x61 x62 x63 x64 x65 x66 x67 x68 x69 x70 x71 x72 x73 x74 x75 x76 x77 x78 x79 x80 x81 x82 x83 x84 x85 x86 x87 x88 x89 x90 x91 x92 x93 x94 x95 x96 x97 x98 x99 x100 : Value) (w : World) (R : Exit → Act → World → Prop) (hS : SG w d ph w) (hQ : ∀ c a d v w, R (.panic c) (a.put d v) w → R (.panic c) a w)
    (HX : ∀ W, Q w W → Calls Try.prog 17 #[.slice x.a x.n x.c, .slice y.a y.n y.c] W fun e w' => e = .returned (.bool true) ∧ Q W w')
    (HP : ∀ W, Q w W → Calls Try.prog 28 #[.pointer (some ⟨g, 0, none⟩)] W fun e w' => e = .returned (.int .i64 ph) ∧ Q W w')
    (h : ∀ (W : World), Q w W → R .normal (⟨#[x0, x1, x2, x3, x4, .pointer (some ⟨g, 0, none⟩), x6, .pointer (some ⟨d, 0, none⟩), x8, x9, .int .i64 n, .slice x.a x.n x.c, .int .i64 er, .int .i64 n, .slice y.a y.n y.c, .int .i64 er, x16, x17, x18, x19, x20, x21, x22, x23, x24, x25, x26, x27, x28, x29, x30, x31, x32, x33, x34, x35, x36, x37, x38, x39, x40, x41, x42, x43, x44, x45, x46, x47, x48, x49, x50, x51, x52, x53, x54, x55, x56, x57, x58, x59, x60, x61, x62, x63, x64, x65, x66, x67, x68, x69, x70, x71, x72, x73, x74, x75, .int .i64 n, .int .i64 n, .bool false, .bool false, .slice x.a x.n x.c, .slice y.a y.n y.c, .bool true, .bool false, .bool false, .bool false, .int .i64 er, .int .i64 er, .bool false, .bool false, .bool false, .pointer (some ⟨g, 0, none⟩), .int .i64 ph, .pointer (some ⟨d, 0, none⟩), .pointer (some ⟨d, 0, none⟩), .pointer (some ⟨d, 2, none⟩), .int .i64 ph, .bool false, .bool false, x99, x100], []⟩ : Act) W) :
    (Code.region 12 (RofN Try.f7 12) true).wp Try.prog R (rgGA0 g d n er ph x y x0 x1 x2 x3 x4 x6 x8 x9 x16 x17 x18 x19 x20 x21 x22 x23 x24 x25 x26 x27 x28 x29 x30 x31 x32 x33 x34 x35 x36 x37 x38 x39 x40 x41 x42 x43 x44 x45 x46 x47 x48 x49 x50 x51 x52 x53 x54 x55 x56 x57 x58 x59 x60 x61 x62 x63 x64 x65 x66 x67 x68 x69 x70 x71 x72 x73 x74 x75 x76 x77 x78 x79 x80 x81 x82 x83 x84 x85 x86 x87 x88 x89 x90 x91 x92 x93 x94 x95 x96 x97 x98 x99 x100) w := by
  refine wp_region_held (S := SG w d ph) (by kernel_rfl) ?_
  have hsz : (RofN Try.f7 12).size = 23 := by kernel_rfl
  rw [hsz]
  have hS0 : SG w d ph w.drew := sg_q hS ((Q.refl w).drew)
  refine chn_take (by kernel_rfl) hQ hS0 17 (rgGS0 g d n er ph x y x0 x1 x2 x3 x4 x6 x8 x9 x16 x17 x18 x19 x20 x21 x22 x23 x24 x25 x26 x27 x28 x29 x30 x31 x32 x33 x34 x35 x36 x37 x38 x39 x40 x41 x42 x43 x44 x45 x46 x47 x48 x49 x50 x51 x52 x53 x54 x55 x56 x57 x58 x59 x60 x61 x62 x63 x64 x65 x66 x67 x68 x69 x70 x71 x72 x73 x74 x75 x76 x77 x78 x79 x80 x81 x82 x83 x84 x85 x86 x87 x88 x89 x90 x91 x92 x93 x94 x95 x96 x97 x98 x99 x100) _ _ (rgGH0 g d n er ph x y x0 x1 x2 x3 x4 x6 x8 x9 x16 x17 x18 x19 x20 x21 x22 x23 x24 x25 x26 x27 x28 x29 x30 x31 x32 x33 x34 x35 x36 x37 x38 x39 x40 x41 x42 x43 x44 x45 x46 x47 x48 x49 x50 x51 x52 x53 x54 x55 x56 x57 x58 x59 x60 x61 x62 x63 x64 x65 x66 x67 x68 x69 x70 x71 x72 x73 x74 x75 x76 x77 x78 x79 x80 x81 x82 x83 x84 x85 x86 x87 x88 x89 x90 x91 x92 x93 x94 x95 x96 x97 x98 x99 x100 w) ?_
  generalize hA0 : putL _ _ _ = A0
  generalize hL0 : setL _ _ = L0
  have hr0_6 : Region.ready .any (RofN Try.f7 12) L0 = [6] := by rw [← hL0]; kernel_rfl
  have hw0_6 : Region.wanted (((RofN Try.f7 12)[6]?).getD default) (yielded (RofN Try.f7 12) (A0).tmps) = true := by rw [← hA0]; kernel_rfl
  have hc0_6 : (execOp (A0).eval (((RofN Try.f7 12)[6]?).getD default)).run Try.prog w.drew = .ok (.enter 17 #[.slice x.a x.n x.c, .slice y.a y.n y.c]) w.drew := by rw [← hA0]; kernel_rfl
  refine wpAnyH_one (i := 6) hr0_6 ?_
  refine wpOp_call (some 82) (by kernel_rfl) (by kernel_rfl) hw0_6 17 #[.slice x.a x.n x.c, .slice y.a y.n y.c] hc0_6 (HX w.drew hS0.1) (.bool true) ?_
  rintro e w1 ⟨rfl, qq⟩
  have hS1 := sg_q hS0 qq
  clear qq
  refine ⟨rfl, hS1, ?_⟩
  have j1 : Chn Try.prog (RofN Try.f7 12) (SG w d ph) (rgGS1 g d n er ph x y x0 x1 x2 x3 x4 x6 x8 x9 x16 x17 x18 x19 x20 x21 x22 x23 x24 x25 x26 x27 x28 x29 x30 x31 x32 x33 x34 x35 x36 x37 x38 x39 x40 x41 x42 x43 x44 x45 x46 x47 x48 x49 x50 x51 x52 x53 x54 x55 x56 x57 x58 x59 x60 x61 x62 x63 x64 x65 x66 x67 x68 x69 x70 x71 x72 x73 x74 x75 x76 x77 x78 x79 x80 x81 x82 x83 x84 x85 x86 x87 x88 x89 x90 x91 x92 x93 x94 x95 x96 x97 x98 x99 x100) ((L0).setIfInBounds 6 true) ((A0).put (some 82) (.bool true)) := by rw [← hA0, ← hL0]; exact rgGH1 g d n er ph x y x0 x1 x2 x3 x4 x6 x8 x9 x16 x17 x18 x19 x20 x21 x22 x23 x24 x25 x26 x27 x28 x29 x30 x31 x32 x33 x34 x35 x36 x37 x38 x39 x40 x41 x42 x43 x44 x45 x46 x47 x48 x49 x50 x51 x52 x53 x54 x55 x56 x57 x58 x59 x60 x61 x62 x63 x64 x65 x66 x67 x68 x69 x70 x71 x72 x73 x74 x75 x76 x77 x78 x79 x80 x81 x82 x83 x84 x85 x86 x87 x88 x89 x90 x91 x92 x93 x94 x95 x96 x97 x98 x99 x100 w
  refine chn_take (by kernel_rfl) hQ hS1 3 (rgGS1 g d n er ph x y x0 x1 x2 x3 x4 x6 x8 x9 x16 x17 x18 x19 x20 x21 x22 x23 x24 x25 x26 x27 x28 x29 x30 x31 x32 x33 x34 x35 x36 x37 x38 x39 x40 x41 x42 x43 x44 x45 x46 x47 x48 x49 x50 x51 x52 x53 x54 x55 x56 x57 x58 x59 x60 x61 x62 x63 x64 x65 x66 x67 x68 x69 x70 x71 x72 x73 x74 x75 x76 x77 x78 x79 x80 x81 x82 x83 x84 x85 x86 x87 x88 x89 x90 x91 x92 x93 x94 x95 x96 x97 x98 x99 x100) _ _ j1 ?_
  generalize hA1 : putL _ _ _ = A1
  generalize hL1 : setL _ _ = L1
  have hr1_16 : Region.ready .any (RofN Try.f7 12) L1 = [16] := by rw [← hL1, ← hL0]; kernel_rfl
  have hw1_16 : Region.wanted (((RofN Try.f7 12)[16]?).getD default) (yielded (RofN Try.f7 12) (A1).tmps) = true := by rw [← hA1, ← hA0]; kernel_rfl
  have hc1_16 : (execOp (A1).eval (((RofN Try.f7 12)[16]?).getD default)).run Try.prog w1 = .ok (.enter 28 #[.pointer (some ⟨g, 0, none⟩)]) w1 := by rw [← hA1, ← hA0]; kernel_rfl
  refine wpAnyH_one (i := 16) hr1_16 ?_
  refine wpOp_call (some 92) (by kernel_rfl) (by kernel_rfl) hw1_16 28 #[.pointer (some ⟨g, 0, none⟩)] hc1_16 (HP w1 hS1.1) (.int .i64 ph) ?_
  rintro e w2 ⟨rfl, qq⟩
  have hS2 := sg_q hS1 qq
  clear qq
  refine ⟨rfl, hS2, ?_⟩
  have j2 : Chn Try.prog (RofN Try.f7 12) (SG w d ph) (rgGS2 g d n er ph x y x0 x1 x2 x3 x4 x6 x8 x9 x16 x17 x18 x19 x20 x21 x22 x23 x24 x25 x26 x27 x28 x29 x30 x31 x32 x33 x34 x35 x36 x37 x38 x39 x40 x41 x42 x43 x44 x45 x46 x47 x48 x49 x50 x51 x52 x53 x54 x55 x56 x57 x58 x59 x60 x61 x62 x63 x64 x65 x66 x67 x68 x69 x70 x71 x72 x73 x74 x75 x76 x77 x78 x79 x80 x81 x82 x83 x84 x85 x86 x87 x88 x89 x90 x91 x92 x93 x94 x95 x96 x97 x98 x99 x100) ((L1).setIfInBounds 16 true) ((A1).put (some 92) (.int .i64 ph)) := by rw [← hA1, ← hA0, ← hL1, ← hL0]; exact rgGH2 g d n er ph x y x0 x1 x2 x3 x4 x6 x8 x9 x16 x17 x18 x19 x20 x21 x22 x23 x24 x25 x26 x27 x28 x29 x30 x31 x32 x33 x34 x35 x36 x37 x38 x39 x40 x41 x42 x43 x44 x45 x46 x47 x48 x49 x50 x51 x52 x53 x54 x55 x56 x57 x58 x59 x60 x61 x62 x63 x64 x65 x66 x67 x68 x69 x70 x71 x72 x73 x74 x75 x76 x77 x78 x79 x80 x81 x82 x83 x84 x85 x86 x87 x88 x89 x90 x91 x92 x93 x94 x95 x96 x97 x98 x99 x100 w
  have hf1 : Region.ready .any (RofN Try.f7 12) (setL (rgGS2 g d n er ph x y x0 x1 x2 x3 x4 x6 x8 x9 x16 x17 x18 x19 x20 x21 x22 x23 x24 x25 x26 x27 x28 x29 x30 x31 x32 x33 x34 x35 x36 x37 x38 x39 x40 x41 x42 x43 x44 x45 x46 x47 x48 x49 x50 x51 x52 x53 x54 x55 x56 x57 x58 x59 x60 x61 x62 x63 x64 x65 x66 x67 x68 x69 x70 x71 x72 x73 x74 x75 x76 x77 x78 x79 x80 x81 x82 x83 x84 x85 x86 x87 x88 x89 x90 x91 x92 x93 x94 x95 x96 x97 x98 x99 x100) ((L1).setIfInBounds 16 true)) = [] := by rw [← hL1, ← hL0]; kernel_rfl
  have hf2 : (putL (RofN Try.f7 12) (rgGS2 g d n er ph x y x0 x1 x2 x3 x4 x6 x8 x9 x16 x17 x18 x19 x20 x21 x22 x23 x24 x25 x26 x27 x28 x29 x30 x31 x32 x33 x34 x35 x36 x37 x38 x39 x40 x41 x42 x43 x44 x45 x46 x47 x48 x49 x50 x51 x52 x53 x54 x55 x56 x57 x58 x59 x60 x61 x62 x63 x64 x65 x66 x67 x68 x69 x70 x71 x72 x73 x74 x75 x76 x77 x78 x79 x80 x81 x82 x83 x84 x85 x86 x87 x88 x89 x90 x91 x92 x93 x94 x95 x96 x97 x98 x99 x100) ((A1).put (some 92) (.int .i64 ph))) = (⟨#[x0, x1, x2, x3, x4, .pointer (some ⟨g, 0, none⟩), x6, .pointer (some ⟨d, 0, none⟩), x8, x9, .int .i64 n, .slice x.a x.n x.c, .int .i64 er, .int .i64 n, .slice y.a y.n y.c, .int .i64 er, x16, x17, x18, x19, x20, x21, x22, x23, x24, x25, x26, x27, x28, x29, x30, x31, x32, x33, x34, x35, x36, x37, x38, x39, x40, x41, x42, x43, x44, x45, x46, x47, x48, x49, x50, x51, x52, x53, x54, x55, x56, x57, x58, x59, x60, x61, x62, x63, x64, x65, x66, x67, x68, x69, x70, x71, x72, x73, x74, x75, .int .i64 n, .int .i64 n, .bool false, .bool false, .slice x.a x.n x.c, .slice y.a y.n y.c, .bool true, .bool false, .bool false, .bool false, .int .i64 er, .int .i64 er, .bool false, .bool false, .bool false, .pointer (some ⟨g, 0, none⟩), .int .i64 ph, .pointer (some ⟨d, 0, none⟩), .pointer (some ⟨d, 0, none⟩), .pointer (some ⟨d, 2, none⟩), .int .i64 ph, .bool false, .bool false, x99, x100], []⟩ : Act) := by rw [← hA1, ← hA0]; kernel_rfl
  clear hA1 hA0 hL1 hL0
  refine chn_take (by kernel_rfl) hQ hS2 0 (rgGS2 g d n er ph x y x0 x1 x2 x3 x4 x6 x8 x9 x16 x17 x18 x19 x20 x21 x22 x23 x24 x25 x26 x27 x28 x29 x30 x31 x32 x33 x34 x35 x36 x37 x38 x39 x40 x41 x42 x43 x44 x45 x46 x47 x48 x49 x50 x51 x52 x53 x54 x55 x56 x57 x58 x59 x60 x61 x62 x63 x64 x65 x66 x67 x68 x69 x70 x71 x72 x73 x74 x75 x76 x77 x78 x79 x80 x81 x82 x83 x84 x85 x86 x87 x88 x89 x90 x91 x92 x93 x94 x95 x96 x97 x98 x99 x100) _ _ j2 ?_
  refine wpAnyH_done hf1 ?_ _
  rw [hf2]
  exact h _ hS2.1
theorem rg12 (g d : Nat) (n er ph : Int) (x y : Sv) {x0 x1 x2 x3 x4 x6 x8 x9 x16 x17 x18 x19 x20 x21 x22 x23 x24 x25 x26 x27 x28 x29 x30 x31 x32 x33 x34 x35 x36 x37 x38 x39 x40 x41 x42 x43 x44 x45 x46 x47 x48 x49 x50 x51 x52 x53 x54 x55 x56 x57 x58 x59 x60 x61 x62 x63 x64 x65 x66 x67 x68 x69 x70 x71 x72 x73 x74 x75 x76 x77 x78 x79 x80 x81 x82 x83 x84 x85 x86 x87 x88 x89 x90 x91 x92 x93 x94 x95 x96 x97 x98 x99 x100 : Value} (w : World) (R : Exit → Act → World → Prop) (hS : SG w d ph w) (hQ : ∀ c a d v w, R (.panic c) (a.put d v) w → R (.panic c) a w)
    (HX : ∀ W, Q w W → Calls Try.prog 17 #[.slice x.a x.n x.c, .slice y.a y.n y.c] W fun e w' => e = .returned (.bool true) ∧ Q W w')
    (HP : ∀ W, Q w W → Calls Try.prog 28 #[.pointer (some ⟨g, 0, none⟩)] W fun e w' => e = .returned (.int .i64 ph) ∧ Q W w')
    (h : ∀ (W : World), Q w W → R .normal (⟨#[x0, x1, x2, x3, x4, .pointer (some ⟨g, 0, none⟩), x6, .pointer (some ⟨d, 0, none⟩), x8, x9, .int .i64 n, .slice x.a x.n x.c, .int .i64 er, .int .i64 n, .slice y.a y.n y.c, .int .i64 er, x16, x17, x18, x19, x20, x21, x22, x23, x24, x25, x26, x27, x28, x29, x30, x31, x32, x33, x34, x35, x36, x37, x38, x39, x40, x41, x42, x43, x44, x45, x46, x47, x48, x49, x50, x51, x52, x53, x54, x55, x56, x57, x58, x59, x60, x61, x62, x63, x64, x65, x66, x67, x68, x69, x70, x71, x72, x73, x74, x75, .int .i64 n, .int .i64 n, .bool false, .bool false, .slice x.a x.n x.c, .slice y.a y.n y.c, .bool true, .bool false, .bool false, .bool false, .int .i64 er, .int .i64 er, .bool false, .bool false, .bool false, .pointer (some ⟨g, 0, none⟩), .int .i64 ph, .pointer (some ⟨d, 0, none⟩), .pointer (some ⟨d, 0, none⟩), .pointer (some ⟨d, 2, none⟩), .int .i64 ph, .bool false, .bool false, x99, x100], []⟩ : Act) W) : (Code.region 12 (RofN Try.f7 12) true).wp Try.prog R (⟨#[x0, x1, x2, x3, x4, .pointer (some ⟨g, 0, none⟩), x6, .pointer (some ⟨d, 0, none⟩), x8, x9, .int .i64 n, .slice x.a x.n x.c, .int .i64 er, .int .i64 n, .slice y.a y.n y.c, .int .i64 er, x16, x17, x18, x19, x20, x21, x22, x23, x24, x25, x26, x27, x28, x29, x30, x31, x32, x33, x34, x35, x36, x37, x38, x39, x40, x41, x42, x43, x44, x45, x46, x47, x48, x49, x50, x51, x52, x53, x54, x55, x56, x57, x58, x59, x60, x61, x62, x63, x64, x65, x66, x67, x68, x69, x70, x71, x72, x73, x74, x75, x76, x77, x78, x79, x80, x81, x82, x83, x84, x85, x86, x87, x88, x89, x90, x91, x92, x93, x94, x95, x96, x97, x98, x99, x100], []⟩ : Act) w :=
  rgG g d n er ph x y x0 x1 x2 x3 x4 x6 x8 x9 x16 x17 x18 x19 x20 x21 x22 x23 x24 x25 x26 x27 x28 x29 x30 x31 x32 x33 x34 x35 x36 x37 x38 x39 x40 x41 x42 x43 x44 x45 x46 x47 x48 x49 x50 x51 x52 x53 x54 x55 x56 x57 x58 x59 x60 x61 x62 x63 x64 x65 x66 x67 x68 x69 x70 x71 x72 x73 x74 x75 x76 x77 x78 x79 x80 x81 x82 x83 x84 x85 x86 x87 x88 x89 x90 x91 x92 x93 x94 x95 x96 x97 x98 x99 x100 w R hS hQ HX HP h
end Go.Proofs.Ytihmlfpfpadfpaa
namespace Go.Proofs.Ytihmlfpfpadfpaa.guardOpens
open Go.ChangeShapes Go.WideShapes Go.ChangeAt Go.RowKit
open Go.ChangeMaps (open_string shut_string)
set_option linter.unusedVariables false

set_option maxRecDepth 20000
theorem info51 : (Try.prog.info? 51).map (·.size) = some 6 := by kernel_rfl
theorem slc_one (x : Sl) : (slc x).all (·.oneCell') = true := by simp [Value.oneCell']
theorem same_yes (x y : Sv) (zs : List Int) (w : World) (l1 : zs.length = x.n) (l2 : zs.length = y.n) (b1 : x.n ≤ 9223372036854775807) (h1 : Seg w x.a zs) (h2 : Seg w y.a zs) :
    Calls Try.prog 17 #[.slice x.a x.n x.c, .slice y.a y.n y.c] w fun e w' => e = .returned (.bool true) ∧ Q w w' := by
  refine (same_any x.a y.a x.n y.n x.c y.c zs zs w l1 l2 (by omega) (by omega) h1 h2).mono ?_
  rintro e w' ⟨rfl, h⟩
  exact ⟨by simp, h⟩
theorem both_up {w : World} {g d : Nat} {h f0 : Sv} {tz : List Int} {i : Nat} {u : World} (x : Both w g d h f0 tz i u) : Both w g d h f0 tz (i + 1) u := by
  obtain ⟨p, f, ph, t, fz, o1, o2⟩ := x.st
  exact ⟨x.q, x.ge, p, f, ph, t, fz, o1, o2.q (Q.refl _)⟩
set_option maxHeartbeats 8000000 in
theorem walk_no (a : Option Addr) (n c : Nat) (tz : List Int) (a2 : Option Addr) (m c2 : Nat) (w : World) (hl : tz.length = n) (hz : ∀ y ∈ tz, 0 ≤ y ∧ y < 256) (hn : n ≤ 140737488351232) (hs : Seg w a tz) (h16 : ¬ n = 16) :
    Calls Try.prog 7 #[.slice a n c, .slice a2 m c2] w fun r w' => r = .returned (.bool true) ∧ Below w.heap.size w w' := by
  have HL := hid hl
  have HS := hid hs
  have HZ := hid hz
  have HAW := hid awake_any
  have hb1 : ((n : Int) != 16) = true := by simp; omega
  have HN := hid h16
  clear hl hs hz h16
  go_enter Try.func7, Try.ntmps7
  go_wp2_with (first
    | (go_at_call 10; refine (rcopy_any a n c tz _ HL.out (by omega) HS.out).mono ?_; rintro e w1 ⟨g1, rfl, q1, o1, -⟩; have Q1 := hid q1; have O1 := hid o1; clear q1 o1)
    | (go_at_call 25; refine (newOpener_no ⟨some ⟨g1, 0, none⟩, n, n⟩ tz w1 ⟨O1.out.seg, HL.out, HZ.out⟩ HN.out).mono ?_; rintro e w2 ⟨rfl, q2⟩; have Q2 := hid (Q1.out.trans q2); clear q2)
    | (go_at_call 16; refine (HAW.out _).mono ?_; rintro e w3 ⟨rfl, q3⟩; have Q3 := hid (Q2.out.trans q3); clear q3))
  go_ret
  exact ⟨rfl, Q3.out⟩
set_option maxHeartbeats 16000000 in
theorem walk_yes (a : Option Addr) (c : Nat) (tz : List Int) (a2 : Option Addr) (m c2 : Nat) (z : Nat → Sl) (w : World) (hl : tz.length = 16) (hz : ∀ y ∈ tz, 0 ≤ y ∧ y < 256) (hs : Seg w a tz) (hg : ∀ i, i < m → GoodS w (z i)) (hm8 : m * 112 ≤ 140737488351232) (hpn : ∀ i, i < m → (z i).pk.n ≤ 140737488351232) (hs2 : SegP w a2 m z) :
    Calls Try.prog 7 #[.slice a 16 c, .slice a2 m c2] w fun r w' => r = .returned (.bool true) ∧ Below w.heap.size w w' := by
  have HL := hid hl
  have HS := hid hs
  have HZ := hid hz
  have HG := hid hg
  have HPN := hid hpn
  have HS2 := hid hs2
  have HM := hid hm8
  have HAW := hid awake_any
  have LZ := hid (show (hpL tz).length = 16 from exL_len _ _ _)
  clear hl hs hz hg hpn hs2 hm8
  go_enter Try.func7, Try.ntmps7
  go_wp2_with (first
    | (go_at_call 10; refine (rcopy_any a 16 c tz _ HL.out (by omega) HS.out).mono ?_; rintro e w1 ⟨g1, rfl, q1, o1, -⟩; have Q1 := hid q1; have O1 := hid o1; clear q1 o1)
    | (go_at_call 25; refine (newOpener_ok ⟨some ⟨g1, 0, none⟩, 16, 16⟩ tz w1 ⟨O1.out.seg, HL.out, HZ.out⟩ rfl).mono ?_; rintro e w2 ⟨g, h, p, rfl, q2, b2, i2, j2, ge2⟩; have Q2 := hid (Q1.out.trans q2); have GE := hid (Nat.le_trans Q1.out.size ge2); have O2 := hid (show OpI w2 g h p nilS 0 (hpL tz) tz none from ⟨b2, i2, j2, by have h5 := j2.l; have h6 := HL.out; omega, rfl⟩); clear q2 b2 i2 j2 ge2))
  generalize hw3 : World.alloc (World.alloc w2 _) _ = w3
  have q3 : Q w2 w3 := by rw [← hw3]; exact ((Q.refl w2).alloc _).alloc _
  have D3 := hid (show DOp w3 w.heap.size (w2.heap.size + 1) ⟨a, 16, c⟩ 0 tz tz none 1 from by rw [← hw3]; exact dop_new w w2 a c tz Q2.out HL.out HZ.out HS.out)
  clear hw3
  have B3 := hid (show Both w g (w2.heap.size + 1) h ⟨a, 16, c⟩ tz 0 w3 from ⟨Q2.out.trans q3, GE.out, p, nilS, 0, tz, none, O2.out.q q3, D3.out⟩)
  clear q3 D3 O2 GE Q2 Q1 O1
  generalize w2.heap.size = sb0 at *
  clear w2
  go_loopw [47] (fun s47 wr => ∃ i : Nat, s47 = .int .i64 (i : Int) ∧ i ≤ m ∧ Both w g (sb0 + 1) h ⟨a, 16, c⟩ tz i wr) (fun s47 _ => ((m : Int) - intOf s47).toNat)
  case atStart => exact ⟨0, rfl, Nat.zero_le _, B3.out⟩
  case round =>
    obtain ⟨i, rfl, him, hb⟩ := hrel
    have HB := hid hb
    clear hb B3
    have hm9 : m ≤ 1300000000000 := by have := HM.out; omega
    by_cases hlt : i < m
    · have HLT := hid hlt
      have hki : (i : Int) < (m : Int) := by omega
      have h0i : (0 : Int) ≤ (i : Int) := by omega
      obtain ⟨sb, so, hsa, hsc⟩ := HS2.out (by omega)
      have hrg : wr.rangeAt sb (so + i * 6) (slc (z i)).toList := by
        intro j v hv
        have h1 := hsc i hlt j v hv
        rw [HB.out.q.cell (lt_of_cell h1)]
        exact h1
      have HGI := hid (HG.out i hlt)
      have HPI := hid (HPN.out i hlt)
      subst hsa
      clear hsc
      generalize z i = q at *
      obtain ⟨qk, qi, qh, ⟨pka, pkn, pkc⟩, at_, high, ps⟩ := q
      have HRG := hid hrg
      clear hrg
      go_wp2_with (first
        | (refine wpList_load_mid rfl 51 _ rfl sb (so + i * 6) rfl (scells qk qi qh ⟨pka, pkn, pkc⟩ at_ high).toList _ HRG.out Try.underlying51 rfl info51 ?_)
        | (refine wpList_store_row rfl 51 _ _ rfl wr.heap.size (scells qk qi qh ⟨pka, pkn, pkc⟩ at_ high) rfl rfl 51 _ (heap_alloc_new wr _) info51 rfl (by simp [Value.oneCell']) ?_; refine Hid.out ?_))
      refine hid ?_
      generalize hw1 : World.setRow _ _ _ = w1
      have q1 : Q wr w1 := by rw [← hw1]; exact (((Keep.refl (fun _ => False) wr).alloc _).setRow _ _ (.inr (Nat.le_refl _))).toQ (fun _ _ h => h)
      have hpb : w1.heap[wr.heap.size]? = some (.cells (scells qk qi qh ⟨pka, pkn, pkc⟩ at_ high) 51 (0, 0)) := by rw [← hw1]; exact setRow_heap _ _ _ _ 51 _ (heap_alloc_new wr _)
      clear hw1
      have BB := hid (HB.out.q' q1)
      have HQW := hid (HB.out.q.trans q1)
      have c3 : w1.cell? ⟨wr.heap.size, 3, none⟩ = some (.slice pka pkn pkc) := by rw [cell_of_row w1 _ 3 _ 51 (0, 0) hpb]; rfl
      have c4 : w1.cell? ⟨wr.heap.size, 4, none⟩ = some (.int .i64 at_) := by rw [cell_of_row w1 _ 4 _ 51 (0, 0) hpb]; rfl
      have c5 : w1.cell? ⟨wr.heap.size, 5, none⟩ = some (.int .i64 high) := by rw [cell_of_row w1 _ 5 _ 51 (0, 0) hpb]; rfl
      have hlp := lt_of_block hpb
      have HPB := hid hpb
      clear hpb q1 HB
      generalize wr.heap.size = pb at *
      obtain ⟨p1, f1, ph, t, fz, hO, hD⟩ := BB.out.st
      have O1 := hid hO
      have D1 := hid hD
      have GE := hid BB.out.ge
      clear hO hD BB
      have PS := hid (show In w ⟨pka, pkn, pkc⟩ ps from HGI.out.p)
      have PC := hid (show pkn ≤ pkc from HGI.out.c)
      have hPL : ps.length = pkn := PS.out.l
      have HPL := hid hPL
      have HPS := hid (show pkn ≤ 140737488351232 from HPI.out)
      have HCP := hid (fun (u : World) (qq : Q w1 u) => rcopy_any pka pkn pkc ps u HPL.out (by have := HPS.out; omega) ((PS.out.s.q HQW.out).q qq))
      have q0 : Q w1 w1 := Q.refl w1
      have hgpb : pb ≠ g := by
        intro e
        have h5 : w1.heap[g]? = some (Obj.cells _ 107 (0, 0)) := O1.out.o
        rw [← e, HPB.out] at h5
        simp at h5
      by_cases hch : chP pkn at_ high = 0
      · have HAT := hid HGI.out.a
        obtain ⟨o1, o2, o3, o4, o5, o6⟩ := chP_ok hch
        obtain ⟨at', hat⟩ : ∃ n : Nat, at_ = (n : Int) := ⟨at_.toNat, by omega⟩
        subst hat
        have HCH := hid hch
        have hlh : h.n = 16 := by rw [← O1.out.ih.l]; exact LZ.out
        have HOP := hid (fun (u : World) (qq : Q w1 u) (x : Sv) (hx : In u x ps) (hc : x.n ≤ x.c) (hn : x.n = pkn) => oopen_ok g h p1 f1 x ph high at' (hpL tz) t fz ps u (O1.out.q qq) hlh hx (by rw [hn]; have := HPS.out; omega) hc (by rw [hn]; exact HCH.out))
        have HRO := hid (fun (u : World) (qw : Q w u) (dd : DOp u w.heap.size (sb0 + 1) ⟨a, 16, c⟩ ph tz t fz (i + 1)) => roopen_ok w.heap.size (sb0 + 1) ⟨a, 16, c⟩ ⟨pka, pkn, pkc⟩ ph high at' tz t fz ps (i + 1) u dd (PS.out.q qw) (by show pkn ≤ _; have := HPS.out; omega) PC.out HCH.out qw.size (by have := HLT.out; have := HM.out; omega))
        unfold OAns at HOP
        unfold RAns at HRO
        clear hch hPL o1 o2 o3 o4 o5 o6 hlh
        dsimp only at HRO
        generalize umB (hpL tz) ps at' = bz at *
        generalize umN (hpL tz) ps at' high = num at *
        generalize umS (hpL tz) ps at' = sz at *
        generalize oqE ph t fz bz num sz = EE at *
        generalize oqR ph t fz bz num sz = RR at *
        generalize oqP ph t bz num sz = PP at *
        generalize oqT ph t bz num sz = TT at *
        generalize oqF ph t fz bz num sz = FZ at *
        generalize (if EE = 0 then num else 0) = nn at *
        generalize (if EE = 0 then RR else []) = LL at *
        go_wp2_with fail
        go_region_held3 (fun u => u.cell? ⟨pb, 3, none⟩ = some (.slice pka pkn pkc) ∧ u.cell? ⟨pb, 4, none⟩ = some (.int .i64 (at' : Int)) ∧ u.cell? ⟨pb, 5, none⟩ = some (.int .i64 high)) (repeat (first | (with_reducible assumption) | (with_reducible apply And.intro) | (with_reducible apply Q.drew) | (with_reducible refine dcel ?_)))
          (first | (go_at_call 10; refine (HCP.out _ (by repeat (first | (with_reducible assumption) | (with_reducible exact Q.refl _) | (with_reducible apply Q.drew) | (with_reducible apply Q.drewN)))).mono ?_; rintro e w3 ⟨g3, rfl, q3, o3, -⟩; have j3 : Q w1 w3 := Q.trans (by repeat (first | (with_reducible assumption) | (with_reducible exact Q.refl _) | (with_reducible apply Q.drew) | (with_reducible apply Q.drewN))) q3; have X3 := hid o3; have e3 := (q3.cell (p := ⟨pb, 3, none⟩) hlp).trans (dcel c3); have e4 := (q3.cell (p := ⟨pb, 4, none⟩) hlp).trans (dcel c4); have e5 := (q3.cell (p := ⟨pb, 5, none⟩) hlp).trans (dcel c5); clear q3 o3) | (go_at_call 26; refine (HOP.out _ j3 ⟨some ⟨g3, 0, none⟩, pkn, pkn⟩ ⟨X3.out.seg, HPL.out, PS.out.z⟩ (Nat.le_refl _) rfl).mono ?_; rintro e w4 ⟨x4, p4, f4, rfl, k4, r4, o4⟩; have f3 := k4.cell e3 hgpb; have f4' := k4.cell e4 hgpb; have f5 := k4.cell e5 hgpb; have K4 := hid k4; have X4 := hid r4; have O4 := hid o4; clear k4 r4 o4))
        have O3 := hid (O1.out.q j3)
        have D4 := hid ((D1.out.q0 j3).ko O3.out.o K4.out)
        have Q4 := hid (show Q w w4 from K4.out.below (HQW.out.trans j3) (HQW.out.trans j3).size (fun i e => by have := GE.out; omega))
        clear c3 c4 c5 e3 e4 e5
        go_wp2_with (go_at_call 27; refine (HRO.out w4 Q4.out D4.out).mono ?_; rintro e w5 ⟨x5, rfl, k5, r5, d5⟩; have K5 := hid k5; have X5 := hid r5; have D5 := hid d5; clear k5 r5 d5)
        obtain ⟨S4, db4⟩ := D4.out.db
        have O5 := hid (O4.out.kd db4 K5.out)
        have Y5 := hid (seg_keepF X4.out.seg db4 K5.out)
        have Q5 := hid (show Q w w5 from K5.out.below Q4.out Q4.out.size (fun i e => by
          rcases e with e | ⟨e, _⟩
          · rw [e]; exact D4.out.dB
          · exact e))
        obtain ⟨S5, db5⟩ := D5.out.db
        have cd2 := db5.c2
        have HPH := hid (fun (u : World) (qq : Q w5 u) => (ophase_any g h p4 f4 PP u (O5.out.o.q qq)).mono (R' := fun e w' => e = .returned (.int .i64 PP) ∧ Q u w') (fun e w' hh => ⟨hh.1, by rw [← hh.2]; exact Q.refl _⟩))
        have HSM := hid (fun (u : World) (qq : Q w5 u) => same_yes x4 x5 LL u (Row.len X4.out) (Row.len X5.out) (Row.le_max X4.out) (Y5.out.q qq) (X5.out.seg.q qq))
        clear f3 f4' f5
        go_wp2_with fail
        generalize hR : Code.region 12 _ true = C
        have eR : C = Code.region 12 (RofN Try.f7 12) true := hR.symm.trans (by kernel_rfl)
        clear hR
        subst eR
        refine wp_region_noPanic ?_
        refine rg12 g (sb0 + 1) nn EE PP x4 x5 w5 _ ⟨Q.refl _, cd2⟩ (fun c a d v w h => h) HSM.out HPH.out ?_
        intro W qW
        refine NoPanic.normal ?_
        refine ‹∀ a w, Code.wp Try.prog _ _ a w → _› _ _ ?_
        go_wp2
        have h9 := HLT.out
        exact ⟨⟨i + 1, by go_num, by omega, ⟨Q5.out.trans qW, GE.out, p4, f4, PP, TT, FZ, O5.out.q qW, D5.out.q0 qW⟩⟩, by simp [intOf]; omega⟩
      · have HNE := hid hch
        have HAT := hid HGI.out.a
        have HON := hid (fun (u : World) (x : Sv) (hx : x.n = pkn) => oopen_no g x at_ high u (by rw [hx]; have := HPS.out; omega) HAT.out.1 HAT.out.2 (by rw [hx]; exact HNE.out))
        have HRN := hid (fun (u : World) => roopen_no (sb0 + 1) ⟨pka, pkn, pkc⟩ at_ high u (by show pkn ≤ _; have := HPS.out; omega) HAT.out.1 HAT.out.2 HNE.out)
        clear hch hPL
        dsimp only at HRN
        have HON2 := hid (fun (u : World) (ga : Option Addr) => show Calls Try.prog 26 #[.pointer (some ⟨g, 0, none⟩), .slice ga pkn pkn, .int .i64 at_, .int .i64 high] u fun e w' => e = .returned (.tuple #[.int .i64 0, .slice none 0 0, .int .i64 (chP pkn at_ high)]) ∧ u = w' from HON.out u ⟨ga, pkn, pkn⟩ rfl)
        clear HON
        generalize chP pkn at_ high = E at *
        go_wp2_with fail
        go_region_held3 (fun u => Q w1 u ∧ u.cell? ⟨pb, 3, none⟩ = some (.slice pka pkn pkc) ∧ u.cell? ⟨pb, 4, none⟩ = some (.int .i64 at_) ∧ u.cell? ⟨pb, 5, none⟩ = some (.int .i64 high)) (repeat (first | (with_reducible assumption) | (with_reducible apply And.intro) | (with_reducible apply Q.drew) | (with_reducible refine dcel ?_)))
          (first | (go_at_call 10; refine (HCP.out _ (by repeat (first | (with_reducible assumption) | (with_reducible exact Q.refl _) | (with_reducible apply Q.drew) | (with_reducible apply Q.drewN)))).mono ?_; rintro e w3 ⟨g3, rfl, q3, o3, -⟩; have j3 : Q w1 w3 := Q.trans (by repeat (first | (with_reducible assumption) | (with_reducible exact Q.refl _) | (with_reducible apply Q.drew) | (with_reducible apply Q.drewN))) q3; have X3 := hid o3; have e3 := (q3.cell (p := ⟨pb, 3, none⟩) hlp).trans (dcel c3); have e4 := (q3.cell (p := ⟨pb, 4, none⟩) hlp).trans (dcel c4); have e5 := (q3.cell (p := ⟨pb, 5, none⟩) hlp).trans (dcel c5); clear q3 o3) | (go_at_call 26; refine (HON2.out _ _).mono ?_; rintro e w4 ⟨rfl, rfl⟩))
        go_wp2_with (go_at_call 27; refine (HRN.out _).mono ?_; rintro e w5 ⟨rfl, rfl⟩)
        have B3 := hid (show Both w g (sb0 + 1) h ⟨a, 16, c⟩ tz i w3 from Both.q' ⟨HQW.out, GE.out, p1, f1, ph, t, fz, O1.out, D1.out⟩ j3)
        obtain ⟨p9, f9, ph9, t9, fz9, o9, d9⟩ := B3.out.st
        obtain ⟨S9, db9⟩ := d9.db
        have cd2 := db9.c2
        have hld := lt_of_cell cd2
        have HPH := hid (fun (u : World) (qq : Q w3 u) => (ophase_any g h p9 f9 ph9 u (o9.o.q qq)).mono (R' := fun e w' => e = .returned (.int .i64 ph9) ∧ Q u w') (fun e w' hh => ⟨hh.1, by rw [← hh.2]; exact Q.refl _⟩))
        have HSM := hid (fun (u : World) (qq : Q w3 u) => same_yes nilS nilS [] u rfl rfl (by show 0 ≤ _; omega) (seg_nil _ _) (seg_nil _ _))
        go_wp2_with fail
        generalize hR : Code.region 12 _ true = C
        have eR : C = Code.region 12 (RofN Try.f7 12) true := hR.symm.trans (by kernel_rfl)
        clear hR
        subst eR
        refine wp_region_noPanic ?_
        refine rg12 g (sb0 + 1) 0 E ph9 nilS nilS w3 _ ⟨Q.refl _, cd2⟩ (fun c a d v w h => h) HSM.out HPH.out ?_
        intro W qW
        refine NoPanic.normal ?_
        refine ‹∀ a w, Code.wp Try.prog _ _ a w → _› _ _ ?_
        go_wp2
        have h9 := HLT.out
        exact ⟨⟨i + 1, by go_num, by omega, both_up (B3.out.q' qW)⟩, by simp [intOf]; omega⟩
    · have hk : i = m := by omega
      have hki : ¬ (i : Int) < (m : Int) := by omega
      go_wp2_with (go_at_call 16; refine (HAW.out _).mono ?_; rintro e w7 ⟨rfl, q7⟩)
      go_ret
      exact ⟨rfl, HB.out.q.trans q7⟩
theorem walk (a : Option Addr) (n c : Nat) (tz : List Int) (a2 : Option Addr) (m c2 : Nat) (z : Nat → Sl) (w : World) (hl : tz.length = n) (hz : ∀ y ∈ tz, 0 ≤ y ∧ y < 256) (hn : n ≤ 140737488351232) (hs : Seg w a tz) (hg : ∀ i, i < m → GoodS w (z i)) (hmm : m * 112 ≤ 140737488351232 ∧ ∀ i, i < m → (z i).pk.n ≤ 140737488351232) (hs2 : SegP w a2 m z) :
    Calls Try.prog 7 #[.slice a n c, .slice a2 m c2] w fun r w' => r = .returned (.bool true) ∧ Below w.heap.size w w' := by
  by_cases h16 : n = 16
  · subst h16
    exact walk_yes a c tz a2 m c2 z w hl hz hs hg hmm.1 hmm.2 hs2
  · exact walk_no a n c tz a2 m c2 w hl hz hn hs h16

set_option maxRecDepth 100000 in
theorem lifted (os : Os) (started : os.Started) (H : Type) (enc : TypeId × Value → H) :
    ReturnsInHanded {} Try.checked os 7 .any (Rows.guardOpensSpec.pre6 enc Try.prog Try.f7 Rows.guardOpensRow.domain false) (Rows.guardOpensSpec.post enc Try.prog Try.f7 false true false false) := by
  refine returnsInHanded_of_change_sized (C := Try.checked) own_knob started (by kernel_rfl) Try.func7
    (ChangeSpec.witness6 (enc := enc) (C := Try.checked) false ⟨#[], #[.slice none 0 0, .slice none 0 0], []⟩ 8 (by kernel_rfl) (by kernel_rfl) (by kernel_rfl) (by kernel_rfl)) ?_
  intro W base args ds gs before hval0 hW hcnd hsz0 _
  have hval : ∀ (j : Nat) t v, Try.f7.params[j]? = some t → args[j]? = some v → Value.okWide Try.prog W .any base t v := hval0
  have hsz : (DataW.weightsEach Try.prog (Try.f7.params.toList ++ Rows.guardOpensSpec.plain.varTypes Try.prog) (ds ++ gs)).all (· ≤ reachBytes) = true := hsz0
  have hW' := hW
  obtain ⟨p, q, hA0, hV, rfl, hfz, hnd⟩ := hW
  have hA : DataW.TrodAll enc Try.prog W 0 (fun _ => true) true Try.f7.params.toList args.toList ds p := hA0
  rw [Try.params7] at hA hval hsz
  obtain ⟨v0, vs0, d0, ds0, p0, q0, hargs, rfl, rfl, h0, r0⟩ := trodAll_cons hA
  obtain ⟨v1, vs1, d1, ds1, p1, q1, rfl, rfl, rfl, h1, r1⟩ := trodAll_cons r0
  obtain ⟨rfl, rfl, rfl⟩ := trodAll_nil r1
  obtain rfl : args = #[v0, v1] := by cases args; simp_all
  obtain ⟨rfl, rfl⟩ := trodVars_none hV
  obtain ⟨a0, len0, cap0, rfl⟩ := okWide_slice Try.underlying22 (hval 0 22 v0 rfl rfl)
  have k0 := h0
  have lt0 : ∀ x ∈ p0, x.block < W.heap.size := by obtain ⟨m, hm⟩ := k0; exact DataW.trod_lt m _ _ _ hm
  obtain ⟨z0, zl0, zs0, zb0, zc0, ze0, zd0⟩ := open_bytes h0
  have zn0 := len_le_bytes hsz (j := 0) rfl rfl zd0
  obtain ⟨a1, len1, cap1, rfl⟩ := okWide_slice Try.underlying57 (hval 1 57 v1 rfl rfl)
  have k1 := h1
  have lt1 : ∀ x ∈ p1, x.block < W.heap.size := by obtain ⟨m, hm⟩ := k1; exact DataW.trod_lt m _ _ _ hm
  obtain ⟨z1, zl1, zs1, zb1, zc1, ze1, zd1⟩ := open_seals h1
  have zn1 := len_le_seals hsz (j := 1) rfl rfl zd1
  clear hA0 hval0
  refine (walk a0 len0 cap0 z0 a1 len1 cap1 z1 W zl0 zb0 (by omega) zs0 zl1 zn1 zs1).mono fun e W' ⟨he, bel⟩ => ?_
  subst he
  exact ⟨_, rfl, _, _, _, [], _, [], hW', trodAll_mk1 (shut_bool Try.underlying4 _), (trodAll_cons_mk (Below.trod laid_out (by kernel_rfl) (of_decide_eq_true (by kernel_rfl)) k0 bel lt0) (trodAll_cons_mk (Below.trod laid_out (by kernel_rfl) (of_decide_eq_true (by kernel_rfl)) k1 bel lt1) trodAll_mk0)), rfl, bel.frame _, fun h => by cases h⟩

theorem over : Rows.guardOpensRow.holds Try.pinned (OpenSpec.ofChange Rows.guardOpensSpec) :=
  OpenClaim.holds_of_wide 7 Try.f7 rfl rfl rfl rfl rfl rfl rfl ⟨rfl, rfl, rfl, rfl, rfl⟩ rfl rfl rfl rfl rfl (by kernel_rfl) Try.func7 (by kernel_rfl)
    (of_decide_eq_true (by kernel_rfl)) (by unfold Func.isWrapper; first | (rw [if_pos (by decide +kernel)]; kernel_rfl) | (rw [if_neg (by decide +kernel)]; exact ⟨rfl, rfl⟩))
    (fun os started H enc _ => lifted os started H enc)

end Go.Proofs.Ytihmlfpfpadfpaa.guardOpens
namespace Go.Proofs.Ytihmlfpfpadfpaa

/-- The statement. -/
theorem guardOpens_holds : Rows.GuardOpensSaid := guardOpens.over
#print axioms guardOpens_holds
end Go.Proofs.Ytihmlfpfpadfpaa
