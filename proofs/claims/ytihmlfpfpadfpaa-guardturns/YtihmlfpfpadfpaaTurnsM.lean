/-
  Packets that are protected with secrets each of which is the next one of the last, the phase turning each time, are all opened in their order, and the last of the former keys too, unless the next ones open it by chance: whatever the secret and the sizes.
-/
import Derived.Test.YtihmlfpfpadfpaaRows
import Derived.Test.YtihmlfpfpadfpaaUnp
import Derived.Deep.RegionHeld3
import Derived.Deep.Cut
import Derived.Deep.CutRange
import Derived.Test.YtihmlfpfpadfpaaRUp
import Derived.Test.YtihmlfpfpadfpaaKcp
import Derived.Test.YtihmlfpfpadfpaaBkM
import Derived.Test.YtihmlfpfpadfpaaOpen
import Derived.Test.YtihmlfpfpadfpaaOpenK
import Derived.Test.YtihmlfpfpadfpaaAwk
import Derived.WalkKit
import Derived.ProofKit
import Derived.OpenShut
import Derived.ShutString
import Derived.ChangeOld
import Derived.Below
import Derived.SizedLaws

/-
  What the phase of a packet, its opening by a secret and an opener's phase are: contracts that the statements' walks use.
-/
namespace Go.Proofs.Ytihmlfpfpadfpaa
open Go.RowKit
set_option linter.unusedVariables false
set_option maxRecDepth 20000

/-- An opener's block. -/
abbrev ocells (h p f : Sv) (ph : Int) : Array Value := #[.slice h.a h.n h.c, .slice p.a p.n p.c, .slice f.a f.n f.c, .int .i64 ph]
def OB (w : World) (g : Nat) (h p f : Sv) (ph : Int) : Prop := w.heap[g]? = some (.cells (ocells h p f ph) 107 (0, 0))
section
variable {w w' : World} {g : Nat} {h p f : Sv} {ph : Int}
theorem OB.q (x : OB w g h p f ph) (q : Q w w') : OB w' g h p f ph := (Below.block q _ (lt_of_block x)).trans x
theorem OB.c0 (x : OB w g h p f ph) : w.cell? ⟨g, 0, none⟩ = some (.slice h.a h.n h.c) := by rw [cell_of_row w g 0 _ 107 (0, 0) x]; rfl
theorem OB.c1 (x : OB w g h p f ph) : w.cell? ⟨g, 1, none⟩ = some (.slice p.a p.n p.c) := by rw [cell_of_row w g 1 _ 107 (0, 0) x]; rfl
theorem OB.c2 (x : OB w g h p f ph) : w.cell? ⟨g, 2, none⟩ = some (.slice f.a f.n f.c) := by rw [cell_of_row w g 2 _ 107 (0, 0) x]; rfl
theorem OB.c3 (x : OB w g h p f ph) : w.cell? ⟨g, 3, none⟩ = some (.int .i64 ph) := by rw [cell_of_row w g 3 _ 107 (0, 0) x]; rfl
end
/-- A packet's phase. -/
def phs (f : Int) : Int := if f / 4 % 2 = 1 then 1 else 0
set_option maxHeartbeats 4000000 in
theorem phase_any (b : Sv) (num : Int) (s : Sv) (zs : List Int) (w : World) (hb : In w b zs) (hn : 0 < b.n) :
    Calls Try.prog 58 #[.agg (bcells b num s)] w fun e w' => e = .returned (.int .i64 (phs (zs.getD 0 0))) ∧ Q w w' := by
  have FL := getD_lt hb.z 0
  have h4 := and4 (zs.getD 0 0) FL.1 FL.2
  have FA := hid (first_any b num s zs (w.alloc (.cells (bcells b num s) 97)) (hb.q ((Q.refl w).alloc _)) hn)
  by_cases hp : zs.getD 0 0 / 4 % 2 = 1
  · rw [show phs (zs.getD 0 0) = 1 from by unfold phs; rw [if_pos hp]]
    rw [show decide (zs.getD 0 0 / 4 % 2 = 1) = true from decide_eq_true hp] at h4
    clear hp FL
    generalize zs.getD 0 0 = y at *
    go_enter Try.func58, Try.ntmps58
    go_wp2_with (go_at_call 53; refine FA.out.mono ?_; rintro e w1 ⟨rfl, q1⟩)
    have Q1 := hid (Q.trans ((Q.refl w).alloc _) q1)
    clear q1
    go_wp2
    go_ret
    exact ⟨rfl, Q1.out⟩
  · rw [show phs (zs.getD 0 0) = 0 from by unfold phs; rw [if_neg hp]]
    rw [show decide (zs.getD 0 0 / 4 % 2 = 1) = false from decide_eq_false hp] at h4
    clear hp FL
    generalize zs.getD 0 0 = y at *
    go_enter Try.func58, Try.ntmps58
    go_wp2_with (go_at_call 53; refine FA.out.mono ?_; rintro e w1 ⟨rfl, q1⟩)
    have Q1 := hid (Q.trans ((Q.refl w).alloc _) q1)
    clear q1
    go_wp2
    go_ret
    exact ⟨rfl, Q1.out⟩
theorem ophase_any (g : Nat) (h p f : Sv) (ph : Int) (w : World) (hb : OB w g h p f ph) :
    Calls Try.prog 28 #[.pointer (some ⟨g, 0, none⟩)] w fun e w' => e = .returned (.int .i64 ph) ∧ w = w' := by
  have c3 := hb.c3
  go_enter Try.func28, Try.ntmps28
  go_wp2
  go_ret
  exact ⟨rfl, rfl⟩
set_option maxHeartbeats 8000000 in
theorem openBy_any (b s t : Sv) (num : Int) (bz sz tz : List Int) (w : World) (hb : In w b bz) (hs : In w s sz) (ht : In w t tz) (lt : t.n = 16) (b0 : 0 < b.n) (b1 : b.n ≤ 16384) (s0 : 16 ≤ s.n) (s1 : s.n ≤ 16400) (sc : s.n ≤ s.c) (n0 : 0 ≤ num) (n1 : num ≤ 4611686018427387903) :
    Calls Try.prog 59 #[.agg (bcells b num s), .slice t.a t.n t.c] w fun e w' => ∃ x : Sv, e = .returned (.tuple #[.slice x.a x.n x.c, .int .i64 (usE (kyL tz) (ivL tz) bz num sz)]) ∧ Q w w' ∧ Row w' x (usR (kyL tz) (ivL tz) bz num sz) := by
  have HB := hid hb
  have HS := hid hs
  have HT := hid ht
  have LT := hid (show tz.length = 16 from by rw [ht.l, lt])
  have E16 := hid (show e16 t.n = 0 from by rw [lt]; rfl)
  clear hb hs ht
  obtain ⟨ba, bn, bc⟩ := b
  obtain ⟨sa, sn, sc'⟩ := s
  obtain ⟨ta, tn, tc⟩ := t
  dsimp only at *
  subst lt
  have B0 := hid b0
  have B1_ := hid b1
  have S0 := hid s0
  have S1 := hid s1
  have SC := hid sc
  have N0 := hid n0
  have N1 := hid n1
  clear b0 b1 s0 s1 sc n0 n1
  go_enter Try.func59, Try.ntmps59
  go_wp2_with fail
  generalize hw1 : World.alloc w _ = w1
  have Q1 := hid (show Q w w1 from by rw [← hw1]; exact (Q.refl w).alloc _)
  have B1 := hid (show BB w1 w.heap.size ⟨ba, bn, bc⟩ num ⟨sa, sn, sc'⟩ from by rw [← hw1]; exact heap_alloc_new w _)
  clear hw1
  generalize w.heap.size = bx at *
  refine (make_any ⟨ta, 16, tc⟩ tz w1 (HT.out.q Q1.out)).mono ?_
  rintro e w2 ⟨⟨ka, kn, kc⟩, ⟨ia, n, ic⟩, ⟨ha, hn, hc⟩, rfl, q2, k2⟩
  rw [E16.out]
  have K2 := hid (show KI w2 ⟨ka, kn, kc⟩ ⟨ia, n, ic⟩ ⟨ha, hn, hc⟩ (kyL tz) (ivL tz) (hpL tz) from by
    have h := k2
    unfold if16 at h
    rw [if_pos LT.out, if_pos LT.out, if_pos LT.out] at h
    exact h)
  have Q2 := hid (Q1.out.trans q2)
  have B2 := hid (B1.out.q q2)
  clear q2 k2 B1 Q1
  go_wp2_with (refine wpList_store_row rfl 30 _ _ rfl w2.heap.size (kcells ⟨ka, kn, kc⟩ ⟨ia, n, ic⟩ ⟨ha, hn, hc⟩) rfl rfl 30 _ (heap_alloc_new w2 _) (kinfo30 _ _ _) rfl (kc_one _ _ _) ?_; refine Hid.out ?_)
  refine hid ?_
  generalize hw3 : World.setRow _ _ _ = w3
  have Q23 := hid (show Q w2 w3 from by
    have k3 : Keep (fun i => i = w2.heap.size) w2 w3 := by rw [← hw3]; exact ((Keep.refl (fun i => i = w2.heap.size) w2).alloc _).setRow _ _ (.inl rfl)
    exact k3.below (Q.refl _) (Nat.le_refl _) (fun i e => by omega))
  have KB3 := hid (show KB w3 w2.heap.size 30 ⟨ka, kn, kc⟩ ⟨ia, n, ic⟩ ⟨ha, hn, hc⟩ from by rw [← hw3]; exact setRow_heap _ _ _ _ 30 _ (heap_alloc_new w2 _))
  clear hw3
  generalize w2.heap.size = gx at *
  have Q3 := hid (Q2.out.trans Q23.out)
  have B3 := hid (B2.out.q Q23.out)
  have K3 := hid (K2.out.q Q23.out)
  have hkn : kn = 16 := by have := K3.out.k.l; rw [show (kyL tz).length = 16 from exL_len _ _ _] at this; exact this.symm
  have hnn : n = 12 := by have := K3.out.i.l; rw [show (ivL tz).length = 12 from exL_len _ _ _] at this; exact this.symm
  subst hkn hnn
  have c0 := B3.out.c0
  have c1 := B3.out.c1
  have c2 := B3.out.c2
  have d0 := KB3.out.c0
  have d1 := KB3.out.c1
  have d2 := KB3.out.c2
  dsimp only at c0 c2 d0 d1 d2
  go_wp2_with fail
  refine (bopen_any ⟨ba, bn, bc⟩ ⟨sa, sn, sc'⟩ ⟨ka, 16, kc⟩ ⟨ia, 12, ic⟩ ⟨ha, hn, hc⟩ num bz sz (kyL tz) (ivL tz) w3 (HB.out.q Q3.out) (HS.out.q Q3.out) K3.out.k K3.out.i rfl rfl B0.out B1_.out S0.out S1.out SC.out N0.out N1.out).mono ?_
  rintro e w4 ⟨⟨xa, xn, xc⟩, rfl, q4, r4⟩
  have Q4 := hid (Q3.out.trans q4)
  have R4 := hid r4
  clear q4 r4 c0 c1 c2 d0 d1 d2
  go_wp2
  go_ret2
  exact ⟨⟨xa, xn, xc⟩, rfl, Q4.out, R4.out⟩
end Go.Proofs.Ytihmlfpfpadfpaa

/-
  What guard's NewOpener does: a contract that the statements' walks use.
-/
namespace Go.Proofs.Ytihmlfpfpadfpaa
open Go.RowKit
set_option linter.unusedVariables false
set_option maxRecDepth 20000

set_option maxHeartbeats 8000000 in
theorem newOpener_no (t : Sv) (tz : List Int) (w : World) (ht : In w t tz) (hn : t.n ≠ 16) :
    Calls Try.prog 25 #[.slice t.a t.n t.c] w fun e w' => e = .returned (.tuple #[.pointer none, .int .i64 70]) ∧ Q w w' := by
  have HT := hid ht
  have E16 := hid (show e16 t.n = 70 from by unfold e16; rw [if_neg hn])
  clear ht
  obtain ⟨ta, tn, tc⟩ := t
  dsimp only at *
  go_enter Try.func25, Try.ntmps25
  go_wp2_with fail
  refine (make_any ⟨ta, tn, tc⟩ tz w HT.out).mono ?_
  rintro e w2 ⟨⟨ka, kn, kc⟩, ⟨ia, n, ic⟩, ⟨ha, hn, hc⟩, rfl, q2, k2⟩
  dsimp only
  rw [E16.out]
  have Q2 := hid q2
  clear q2 k2
  go_wp2_with (refine wpList_store_row rfl 30 _ _ rfl w2.heap.size (kcells ⟨ka, kn, kc⟩ ⟨ia, n, ic⟩ ⟨ha, hn, hc⟩) rfl rfl 30 _ (heap_alloc_new w2 _) (kinfo30 _ _ _) rfl (kc_one _ _ _) ?_; refine Hid.out ?_)
  refine hid ?_
  generalize hw3 : World.setRow _ _ _ = w3
  have Q23 := hid (show Q w2 w3 from by
    have k3 : Keep (fun i => i = w2.heap.size) w2 w3 := by rw [← hw3]; exact ((Keep.refl (fun i => i = w2.heap.size) w2).alloc _).setRow _ _ (.inl rfl)
    exact k3.below (Q.refl _) (Nat.le_refl _) (fun i e => by omega))
  clear hw3
  go_wp2
  go_ret2
  exact ⟨rfl, Q2.out.trans Q23.out⟩
set_option maxHeartbeats 8000000 in
theorem newOpener_ok (t : Sv) (tz : List Int) (w : World) (ht : In w t tz) (hn : t.n = 16) :
    Calls Try.prog 25 #[.slice t.a t.n t.c] w fun e w' => ∃ (g : Nat) (h p : Sv), e = .returned (.tuple #[.pointer (some ⟨g, 0, none⟩), .int .i64 0]) ∧ Q w w' ∧ OB w' g h p nilS 0 ∧ In w' h (hpL tz) ∧ In w' p tz ∧ w.heap.size ≤ g := by
  have HT := hid ht
  have LT := hid (show tz.length = 16 from by rw [ht.l, hn])
  clear ht
  obtain ⟨ta, tn, tc⟩ := t
  dsimp only at *
  subst hn
  go_enter Try.func25, Try.ntmps25
  go_wp2_with fail
  refine (make_any ⟨ta, 16, tc⟩ tz w HT.out).mono ?_
  rintro e w2 ⟨⟨ka, kn, kc⟩, ⟨ia, n, ic⟩, ⟨ha, hn, hc⟩, rfl, q2, k2⟩
  dsimp only
  rw [show e16 16 = 0 from rfl]
  have K2 := hid (show KI w2 ⟨ka, kn, kc⟩ ⟨ia, n, ic⟩ ⟨ha, hn, hc⟩ (kyL tz) (ivL tz) (hpL tz) from by
    have h := k2
    unfold if16 at h
    rw [if_pos LT.out, if_pos LT.out, if_pos LT.out] at h
    exact h)
  have Q2 := hid q2
  clear q2 k2
  go_wp2_with (refine wpList_store_row rfl 30 _ _ rfl w2.heap.size (kcells ⟨ka, kn, kc⟩ ⟨ia, n, ic⟩ ⟨ha, hn, hc⟩) rfl rfl 30 _ (heap_alloc_new w2 _) (kinfo30 _ _ _) rfl (kc_one _ _ _) ?_; refine Hid.out ?_)
  refine hid ?_
  generalize hw3 : World.setRow _ _ _ = w3
  have Q23 := hid (show Q w2 w3 from by
    have k3 : Keep (fun i => i = w2.heap.size) w2 w3 := by rw [← hw3]; exact ((Keep.refl (fun i => i = w2.heap.size) w2).alloc _).setRow _ _ (.inl rfl)
    exact k3.below (Q.refl _) (Nat.le_refl _) (fun i e => by omega))
  have KB3 := hid (show KB w3 w2.heap.size 30 ⟨ka, kn, kc⟩ ⟨ia, n, ic⟩ ⟨ha, hn, hc⟩ from by rw [← hw3]; exact setRow_heap _ _ _ _ 30 _ (heap_alloc_new w2 _))
  clear hw3
  generalize w2.heap.size = gx at *
  have Q3 := hid (Q2.out.trans Q23.out)
  have K3 := hid (K2.out.q Q23.out)
  have c2 := KB3.out.c2
  dsimp only at c2
  have CL := hid (fun u (hu : Q w3 u) => clone_any ⟨ta, 16, tc⟩ tz u ((HT.out.q Q3.out).q hu) (by show 16 ≤ _; omega))
  have s1 : Q w3 w3 := Q.refl _
  go_wp2
  go_region_held3 (fun u => Q w3 u ∧ u.cell? ⟨gx, 2, none⟩ = some (.slice ha hn hc)) (repeat (first | (with_reducible assumption) | (with_reducible apply Q.drew) | (with_reducible apply Q.drewN) | (with_reducible apply Q.alloc) | (with_reducible refine dcel ?_) | (with_reducible refine dcelN ?_) | (with_reducible refine acel ?_) | (with_reducible apply And.intro)))
    (first
      | (go_at_call 57; refine (CL.out _ (by repeat (first | (with_reducible assumption) | (with_reducible exact Q.refl _) | (with_reducible apply Q.drew) | (with_reducible apply Q.drewN) | (with_reducible apply Q.alloc)))).mono ?_; rintro e w4 ⟨⟨ya, yn, yc⟩, rfl, q4, r4, n4⟩; have j4 : Q w3 w4 := Q.trans (by repeat (first | (with_reducible assumption) | (with_reducible exact Q.refl _) | (with_reducible apply Q.drew) | (with_reducible apply Q.drewN) | (with_reducible apply Q.alloc))) q4; have e2 := (KB3.out.q j4).c2; dsimp only at e2))
  have R4 := hid (row_in r4 HT.out.z)
  have J4 := hid j4
  have I4 := hid (K3.out.h.q j4)
  clear r4 n4 q4 j4 e2 c2 s1
  go_wp2
  go_ret2
  exact ⟨w4.heap.size, ⟨ha, hn, hc⟩, ⟨ya, yn, yc⟩, rfl, (Q3.out.trans J4.out).alloc _, heap_alloc_new w4 _, I4.out.q ((Q.refl _).alloc _), R4.out.q ((Q.refl _).alloc _), (Q3.out.trans J4.out).size⟩
end Go.Proofs.Ytihmlfpfpadfpaa

/-
  What an opener does with a packet of the other phase: a contract that the statements' walks use.
-/
namespace Go.Proofs.Ytihmlfpfpadfpaa
open Go.RowKit
set_option linter.unusedVariables false
set_option maxRecDepth 20000

theorem ne_nil (n c : Nat) (w : World) : (binOp .neq 22 (.slice none n c) (.slice none 0 0)).run Try.prog w = .ok (.bool false) w := by kernel_rfl
theorem ne_some (ad : Addr) (n c : Nat) (w : World) : (binOp .neq 22 (.slice (some ad) n c) (.slice none 0 0)).run Try.prog w = .ok (.bool true) w := by kernel_rfl
attribute [local go_sem] ne_nil ne_some
theorem OB.sets {w : World} {g : Nat} {h p f : Sv} {ph : Int} (x : OB w g h p f ph) (p' f' : Sv) (ph' : Int) : OB (((w.setCell ⟨g, 1, none⟩ (.slice p'.a p'.n p'.c)).setCell ⟨g, 2, none⟩ (.slice f'.a f'.n f'.c)).setCell ⟨g, 3, none⟩ (.int .i64 ph')) g h p' f' ph' := by
  have h1 : OB (w.setCell ⟨g, 1, none⟩ (.slice p'.a p'.n p'.c)) g h p' f ph := by
    have := heap_setCell_same w g 1 _ 107 (.slice p'.a p'.n p'.c) x
    simpa [OB] using this
  have h2 : OB ((w.setCell ⟨g, 1, none⟩ (.slice p'.a p'.n p'.c)).setCell ⟨g, 2, none⟩ (.slice f'.a f'.n f'.c)) g h p' f' ph := by
    have := heap_setCell_same _ g 2 _ 107 (.slice f'.a f'.n f'.c) h1
    simpa [OB] using this
  have := heap_setCell_same _ g 3 _ 107 (.int .i64 ph') h2
  simpa [OB] using this
theorem oscel {u : World} {b0 i b j : Nat} {v y : Value} (h : u.cell? ⟨b0, i, none⟩ = some v) (hne : b0 ≠ b) : (u.setCell ⟨b, j, none⟩ y).cell? ⟨b0, i, none⟩ = some v := by
  have k : Keep (fun i => i = b) u (u.setCell ⟨b, j, none⟩ y) := (Keep.refl (fun i => i = b) u).setCell _ _ _ (.inl rfl)
  exact k.cell h hne
/-- Bytes lie in no opener's block. -/
theorem in_keepO {u v : World} {g : Nat} {h p f x : Sv} {ph : Int} {zs : List Int} (hx : In u x zs) (ho : OB u g h p f ph) (k : Keep (fun i => i = g) u v) : In v x zs := by
  by_cases hz : zs = []
  · subst hz; exact ⟨seg_nil _ _, hx.l, hx.z⟩
  · refine ⟨hx.s.keep k ?_, hx.l, hx.z⟩
    rintro b e rfl
    obtain ⟨b2, o2, e2, hc⟩ := hx.s hz
    rw [e2] at e
    simp [blk] at e
    subst e
    have h0 := hc 0 (List.length_pos_iff.2 hz)
    rw [Nat.add_zero, cell_of_row u b2 o2 _ 107 (0, 0) ho] at h0
    rcases (show o2 = 0 ∨ o2 = 1 ∨ o2 = 2 ∨ o2 = 3 ∨ 4 ≤ o2 by omega) with rfl | rfl | rfl | rfl | h4
    · simp at h0
    · simp at h0
    · simp at h0
    · simp at h0
    · rw [Array.getElem?_eq_none (by show 4 ≤ o2; exact h4)] at h0
      cases h0
/-- An opener in memory: its first Hp, the present secret, the former one. -/
structure OpI (w : World) (g : Nat) (h p f : Sv) (ph : Int) (hz tz : List Int) (fz : Option (List Int)) : Prop where
  o : OB w g h p f ph
  ih : In w h hz
  ip : In w p tz
  pn : p.n = 16
  fo : match fz with | none => f = nilS | some z => In w f z ∧ f.n = 16
theorem OpI.q {w w' : World} {g : Nat} {h p f : Sv} {ph : Int} {hz tz : List Int} {fz : Option (List Int)} (x : OpI w g h p f ph hz tz fz) (q : Q w w') : OpI w' g h p f ph hz tz fz :=
  ⟨x.o.q q, x.ih.q q, x.ip.q q, x.pn, by cases fz with | none => exact x.fo | some z => exact ⟨x.fo.1.q q, x.fo.2⟩⟩
set_option maxHeartbeats 8000000 in
/-- The next secret opens the packet: it becomes the present one. -/
theorem other_turn (g : Nat) (h p f b s : Sv) (ph num : Int) (hz tz : List Int) (fz : Option (List Int)) (bz sz : List Int) (w : World) (ho : OpI w g h p f ph hz tz fz) (hb : In w b bz) (hs : In w s sz) (b0 : 0 < b.n) (b1 : b.n ≤ 16384) (s0 : 16 ≤ s.n) (s1 : s.n ≤ 16400) (sc : s.n ≤ s.c) (n0 : 0 ≤ num) (n1 : num ≤ 4611686018427387903)
    (hE : usE (kyL (kuL tz)) (ivL (kuL tz)) bz num sz = 0) :
    Calls Try.prog 60 #[.pointer (some ⟨g, 0, none⟩), .agg (bcells b num s)] w fun e w' => ∃ x p' : Sv, e = .returned (.tuple #[.slice x.a x.n x.c, .int .i64 0]) ∧ Keep (fun i => i = g) w w' ∧ Row w' x (usR (kyL (kuL tz)) (ivL (kuL tz)) bz num sz) ∧ OpI w' g h p' p (phs (bz.getD 0 0)) hz (kuL tz) (some tz) := by
  have HO := hid ho
  have HB := hid hb
  have HS := hid hs
  have HE := hid hE
  have PN := hid ho.pn
  have B0 := hid b0
  have B1_ := hid b1
  have S0 := hid s0
  have S1 := hid s1
  have SC := hid sc
  have N0 := hid n0
  have N1 := hid n1
  have LT := hid (show tz.length = 16 from by rw [ho.ip.l, ho.pn])
  clear ho hb hs hE b0 b1 s0 s1 sc n0 n1
  obtain ⟨ba, bn, bc⟩ := b
  obtain ⟨sa, sn, sc'⟩ := s
  obtain ⟨ha, hn, hc⟩ := h
  obtain ⟨pa, pn, pc⟩ := p
  obtain ⟨fa, fn, fc⟩ := f
  dsimp only at *
  obtain rfl := PN.out
  have c1a := acel (o := .cells (bcells ⟨ba, bn, bc⟩ num ⟨sa, sn, sc'⟩) 97) HO.out.o.c1
  dsimp only at c1a
  go_enter Try.func60, Try.ntmps60
  go_wp2_with fail
  generalize hw1 : World.alloc w _ = w1 at *
  have Q1 := hid (show Q w w1 from by rw [← hw1]; exact (Q.refl w).alloc _)
  have B1 := hid (show BB w1 w.heap.size ⟨ba, bn, bc⟩ num ⟨sa, sn, sc'⟩ from by rw [← hw1]; exact heap_alloc_new w _)
  clear hw1 c1a
  have GL := hid (show g < w.heap.size from lt_of_block HO.out.o)
  generalize hbx : w.heap.size = bx at *
  have HBX := hid hbx
  clear hbx
  refine (next_any ⟨pa, 16, pc⟩ tz w1 (HO.out.ip.q Q1.out) (by show 16 ≤ _; omega)).mono ?_
  rintro e w2 ⟨⟨na, nn, nc⟩, rfl, q2, r2⟩
  dsimp only
  rw [if_pos rfl]
  have R2 := hid (show Row w2 ⟨na, nn, nc⟩ (kuL tz) from by have h := r2; rw [if_pos rfl] at h; exact h)
  have I2 := hid (row_in R2.out (exL_lt _ _ _))
  have NN := hid (show nn = 16 from by have h := Row.len R2.out; rw [show (kuL tz).length = 16 from exL_len _ _ _] at h; exact h.symm)
  obtain rfl := NN.out
  have Q2 := hid (Q1.out.trans q2)
  have B2 := hid (B1.out.q q2)
  clear q2 r2 B1 Q1 NN
  have d0 := B2.out.c0
  have d1 := B2.out.c1
  have d2 := B2.out.c2
  dsimp only at d0 d2
  go_wp2_with fail
  refine (openBy_any ⟨ba, bn, bc⟩ ⟨sa, sn, sc'⟩ ⟨na, 16, nc⟩ num bz sz (kuL tz) w2 (HB.out.q Q2.out) (HS.out.q Q2.out) I2.out rfl B0.out B1_.out S0.out S1.out SC.out N0.out N1.out).mono ?_
  rw [HE.out]
  rintro e w3 ⟨⟨xa, xn, xc⟩, rfl, q3, r3⟩
  have Q3 := hid (Q2.out.trans q3)
  have B3 := hid (B2.out.q q3)
  have O3 := hid (HO.out.q Q3.out)
  have I3 := hid (I2.out.q q3)
  have RN3 := hid (R2.out.q q3)
  have R3 := hid r3
  clear q3 r3 d0 d1 d2 B2 Q2 I2 R2
  have d0 := B3.out.c0
  have d1 := B3.out.c1
  have d2 := B3.out.c2
  dsimp only at d0 d2
  have c1 := O3.out.o.c1
  have c2 := O3.out.o.c2
  have c3 := O3.out.o.c3
  dsimp only at c1 c2
  have f1' : w3.frozen? ⟨g, 1, none⟩ = false := frozen_of_row w3 g 1 _ 107 O3.out.o
  have f2' : w3.frozen? ⟨g, 2, none⟩ = false := frozen_of_row w3 g 2 _ 107 O3.out.o
  have f3' : w3.frozen? ⟨g, 3, none⟩ = false := frozen_of_row w3 g 3 _ 107 O3.out.o
  have PA := hid (fun u (hu : Q w3 u) => phase_any ⟨ba, bn, bc⟩ num ⟨sa, sn, sc'⟩ bz u ((HB.out.q Q3.out).q hu) B0.out)
  generalize hpp : phs (bz.getD 0 0) = pp at *
  have HPP := hid hpp
  clear hpp
  have hgb : bx ≠ g := by have := GL.out; omega
  have k0 : Keep (fun i => i = g) w3 w3 := Keep.refl _ _
  have s1 : Q w3 w3 := Q.refl _
  go_wp2
  go_region_with (go_at_call 58; refine (PA.out _ (by repeat (first | (with_reducible assumption) | (with_reducible exact Q.refl _) | (with_reducible apply Q.drew) | (with_reducible apply Q.drewN) | (with_reducible apply Q.alloc)))).mono ?_; rintro e w4 ⟨rfl, q4⟩; have j4 : Q w3 w4 := Q.trans (by repeat (first | (with_reducible assumption) | (with_reducible exact Q.refl _) | (with_reducible apply Q.drew) | (with_reducible apply Q.drewN) | (with_reducible apply Q.alloc))) q4; have k4 : Keep (fun i => i = g) w3 w4 := Keep.ofQ j4; have b4 := B3.out.q j4; have g0 := b4.c0; have g1 := b4.c1; have g2 := b4.c2; have o4 := O3.out.o.q j4; have e1 := o4.c1; have e2 := o4.c2; have e3 := o4.c3; have y1 : w4.frozen? ⟨g, 1, none⟩ = false := frozen_of_row w4 g 1 _ 107 o4; have y2 : w4.frozen? ⟨g, 2, none⟩ = false := frozen_of_row w4 g 2 _ 107 o4; have y3 : w4.frozen? ⟨g, 3, none⟩ = false := frozen_of_row w4 g 3 _ 107 o4; dsimp only at g0 g2 e1 e2)
  all_goals (
    have BF0 := hid (OB.sets o4 ⟨na, 16, nc⟩ ⟨pa, 16, pc⟩ pp)
    have KF0 := hid ((((Keep.refl (fun i => i = g) w4).setCell g 1 (.slice na 16 nc) (.inl rfl)).setCell g 2 (.slice pa 16 pc) (.inl rfl)).setCell g 3 (.int .i64 pp) (.inl rfl))
    have O4 := hid o4
    have J4 := hid j4
    dsimp only at BF0
    clear q4 j4 k4 b4 g0 g1 g2 o4 e1 e2 e3 y1 y2 y3 d0 d1 d2 c1 c2 c3 f1' f2' f3' k0 s1 PA
    go_wp2
    generalize World.setCell (World.setCell (World.setCell w4 _ _) _ _) _ _ = wf at *
    go_ret2
    refine ⟨⟨xa, xn, xc⟩, ⟨na, 16, nc⟩, rfl, ?_, ?_, ?_, ?_, ?_, rfl, ?_, rfl⟩
    · first
        | exact ((Keep.ofQ (Q3.out.trans J4.out)).trans KF0.out)
        | exact ((Keep.ofQ (Q3.out.trans J4.out)).trans KF0.out).drew
    · first
        | exact row_keep (R3.out.q J4.out) O4.out (by decide) KF0.out
        | exact (row_keep (R3.out.q J4.out) O4.out (by decide) KF0.out).q ((Q.refl _).drew)
    · rw [HPP.out]
      first
        | exact BF0.out
        | exact BF0.out.q ((Q.refl _).drew)
    · first
        | exact in_keepO (O3.out.ih.q J4.out) O4.out KF0.out
        | exact (in_keepO (O3.out.ih.q J4.out) O4.out KF0.out).q ((Q.refl _).drew)
    · first
        | exact in_keepO (I3.out.q J4.out) O4.out KF0.out
        | exact (in_keepO (I3.out.q J4.out) O4.out KF0.out).q ((Q.refl _).drew)
    · first
        | exact in_keepO (O3.out.ip.q J4.out) O4.out KF0.out
        | exact (in_keepO (O3.out.ip.q J4.out) O4.out KF0.out).q ((Q.refl _).drew))
end Go.Proofs.Ytihmlfpfpadfpaa

/-
  What an opener does with a packet of the other phase that the next secret does not open: contracts that the statements' walks use.
-/
namespace Go.Proofs.Ytihmlfpfpadfpaa
open Go.RowKit
set_option linter.unusedVariables false
set_option maxRecDepth 20000

attribute [local go_sem] ne_nil ne_some
set_option maxHeartbeats 8000000 in
theorem other_no (g : Nat) (h p f b s : Sv) (ph num : Int) (hz tz : List Int) (fz : Option (List Int)) (bz sz : List Int) (w : World) (ho : OpI w g h p f ph hz tz fz) (hb : In w b bz) (hs : In w s sz) (b0 : 0 < b.n) (b1 : b.n ≤ 16384) (s0 : 16 ≤ s.n) (s1 : s.n ≤ 16400) (sc : s.n ≤ s.c) (n0 : 0 ≤ num) (n1 : num ≤ 4611686018427387903)
    (hE : usE (kyL (kuL tz)) (ivL (kuL tz)) bz num sz ≠ 0) (hF : usE (kyL (kuL tz)) (ivL (kuL tz)) bz num sz ≠ 71 ∨ fz = none) :
    Calls Try.prog 60 #[.pointer (some ⟨g, 0, none⟩), .agg (bcells b num s)] w fun e w' => ∃ x : Sv, e = .returned (.tuple #[.slice x.a x.n x.c, .int .i64 (usE (kyL (kuL tz)) (ivL (kuL tz)) bz num sz)]) ∧ Q w w' ∧ Row w' x (usR (kyL (kuL tz)) (ivL (kuL tz)) bz num sz) := by
  have HNE := hid hE
  have HNF := hid hF
  clear hE hF
  have HO := hid ho
  have HB := hid hb
  have HS := hid hs
  have PN := hid ho.pn
  have B0 := hid b0
  have B1_ := hid b1
  have S0 := hid s0
  have S1 := hid s1
  have SC := hid sc
  have N0 := hid n0
  have N1 := hid n1
  have LT := hid (show tz.length = 16 from by rw [ho.ip.l, ho.pn])
  clear ho hb hs b0 b1 s0 s1 sc n0 n1
  obtain ⟨ba, bn, bc⟩ := b
  obtain ⟨sa, sn, sc'⟩ := s
  obtain ⟨ha, hn, hc⟩ := h
  obtain ⟨pa, pn, pc⟩ := p
  obtain ⟨fa, fn, fc⟩ := f
  dsimp only at *
  obtain rfl := PN.out
  have c1a := acel (o := .cells (bcells ⟨ba, bn, bc⟩ num ⟨sa, sn, sc'⟩) 97) HO.out.o.c1
  dsimp only at c1a
  go_enter Try.func60, Try.ntmps60
  go_wp2_with fail
  generalize hw1 : World.alloc w _ = w1 at *
  have Q1 := hid (show Q w w1 from by rw [← hw1]; exact (Q.refl w).alloc _)
  have B1 := hid (show BB w1 w.heap.size ⟨ba, bn, bc⟩ num ⟨sa, sn, sc'⟩ from by rw [← hw1]; exact heap_alloc_new w _)
  clear hw1 c1a
  have GL := hid (show g < w.heap.size from lt_of_block HO.out.o)
  generalize hbx : w.heap.size = bx at *
  have HBX := hid hbx
  clear hbx
  refine (next_any ⟨pa, 16, pc⟩ tz w1 (HO.out.ip.q Q1.out) (by show 16 ≤ _; omega)).mono ?_
  rintro e w2 ⟨⟨na, nn, nc⟩, rfl, q2, r2⟩
  dsimp only
  rw [if_pos rfl]
  have R2 := hid (show Row w2 ⟨na, nn, nc⟩ (kuL tz) from by have h := r2; rw [if_pos rfl] at h; exact h)
  have I2 := hid (row_in R2.out (exL_lt _ _ _))
  have NN := hid (show nn = 16 from by have h := Row.len R2.out; rw [show (kuL tz).length = 16 from exL_len _ _ _] at h; exact h.symm)
  obtain rfl := NN.out
  have Q2 := hid (Q1.out.trans q2)
  have B2 := hid (B1.out.q q2)
  clear q2 r2 B1 Q1 NN
  have d0 := B2.out.c0
  have d1 := B2.out.c1
  have d2 := B2.out.c2
  dsimp only at d0 d2
  go_wp2_with fail
  refine (openBy_any ⟨ba, bn, bc⟩ ⟨sa, sn, sc'⟩ ⟨na, 16, nc⟩ num bz sz (kuL tz) w2 (HB.out.q Q2.out) (HS.out.q Q2.out) I2.out rfl B0.out B1_.out S0.out S1.out SC.out N0.out N1.out).mono ?_
  rintro e w3 ⟨⟨xa, xn, xc⟩, rfl, q3, r3⟩
  have Q3 := hid (Q2.out.trans q3)
  have B3 := hid (B2.out.q q3)
  have O3 := hid (HO.out.q Q3.out)
  have I3 := hid (I2.out.q q3)
  have RN3 := hid (R2.out.q q3)
  have R3 := hid r3
  clear q3 r3 d0 d1 d2 B2 Q2 I2 R2
  have c2 := O3.out.o.c2
  dsimp only at c2
  have FO := hid HO.out.fo
  generalize hEg : usE (kyL (kuL tz)) (ivL (kuL tz)) bz num sz = E at *
  have HEG := hid hEg
  clear hEg
  have hE0 : (E == 0) = false := by have := HNE.out; simp [this]
  have hE0' : ¬ E = 0 := HNE.out
  by_cases h71 : E = 71
  · have hfz : fz = none := by rcases HNF.out with h | h; exact absurd h71 h; exact h
    subst hfz
    have hf := FO.out
    simp only [nilS, Sv.mk.injEq] at hf
    obtain ⟨rfl, rfl, rfl⟩ := hf
    subst h71
    go_wp2
    go_ret2
    exact ⟨⟨xa, xn, xc⟩, by rw [HEG.out]; rfl, Q3.out, R3.out⟩
  · have h71b : (E == 71) = false := by simp [h71]
    go_wp2
    go_ret2
    exact ⟨⟨xa, xn, xc⟩, by rw [HEG.out]; rfl, Q3.out, R3.out⟩
set_option maxHeartbeats 8000000 in
theorem other_former (g : Nat) (h p f b s : Sv) (ph num : Int) (hz tz : List Int) (fl : List Int) (bz sz : List Int) (w : World) (ho : OpI w g h p f ph hz tz (some fl)) (hb : In w b bz) (hs : In w s sz) (b0 : 0 < b.n) (b1 : b.n ≤ 16384) (s0 : 16 ≤ s.n) (s1 : s.n ≤ 16400) (sc : s.n ≤ s.c) (n0 : 0 ≤ num) (n1 : num ≤ 4611686018427387903)
    (hE : usE (kyL (kuL tz)) (ivL (kuL tz)) bz num sz = 71) :
    Calls Try.prog 60 #[.pointer (some ⟨g, 0, none⟩), .agg (bcells b num s)] w fun e w' => ∃ x : Sv, e = .returned (.tuple #[.slice x.a x.n x.c, .int .i64 (usE (kyL fl) (ivL fl) bz num sz)]) ∧ Q w w' ∧ Row w' x (usR (kyL fl) (ivL fl) bz num sz) := by
  have HE := hid hE
  clear hE
  have HO := hid ho
  have HB := hid hb
  have HS := hid hs
  have PN := hid ho.pn
  have B0 := hid b0
  have B1_ := hid b1
  have S0 := hid s0
  have S1 := hid s1
  have SC := hid sc
  have N0 := hid n0
  have N1 := hid n1
  have LT := hid (show tz.length = 16 from by rw [ho.ip.l, ho.pn])
  clear ho hb hs b0 b1 s0 s1 sc n0 n1
  obtain ⟨ba, bn, bc⟩ := b
  obtain ⟨sa, sn, sc'⟩ := s
  obtain ⟨ha, hn, hc⟩ := h
  obtain ⟨pa, pn, pc⟩ := p
  obtain ⟨fa, fn, fc⟩ := f
  dsimp only at *
  obtain rfl := PN.out
  have c1a := acel (o := .cells (bcells ⟨ba, bn, bc⟩ num ⟨sa, sn, sc'⟩) 97) HO.out.o.c1
  dsimp only at c1a
  go_enter Try.func60, Try.ntmps60
  go_wp2_with fail
  generalize hw1 : World.alloc w _ = w1 at *
  have Q1 := hid (show Q w w1 from by rw [← hw1]; exact (Q.refl w).alloc _)
  have B1 := hid (show BB w1 w.heap.size ⟨ba, bn, bc⟩ num ⟨sa, sn, sc'⟩ from by rw [← hw1]; exact heap_alloc_new w _)
  clear hw1 c1a
  have GL := hid (show g < w.heap.size from lt_of_block HO.out.o)
  generalize hbx : w.heap.size = bx at *
  have HBX := hid hbx
  clear hbx
  refine (next_any ⟨pa, 16, pc⟩ tz w1 (HO.out.ip.q Q1.out) (by show 16 ≤ _; omega)).mono ?_
  rintro e w2 ⟨⟨na, nn, nc⟩, rfl, q2, r2⟩
  dsimp only
  rw [if_pos rfl]
  have R2 := hid (show Row w2 ⟨na, nn, nc⟩ (kuL tz) from by have h := r2; rw [if_pos rfl] at h; exact h)
  have I2 := hid (row_in R2.out (exL_lt _ _ _))
  have NN := hid (show nn = 16 from by have h := Row.len R2.out; rw [show (kuL tz).length = 16 from exL_len _ _ _] at h; exact h.symm)
  obtain rfl := NN.out
  have Q2 := hid (Q1.out.trans q2)
  have B2 := hid (B1.out.q q2)
  clear q2 r2 B1 Q1 NN
  have d0 := B2.out.c0
  have d1 := B2.out.c1
  have d2 := B2.out.c2
  dsimp only at d0 d2
  go_wp2_with fail
  refine (openBy_any ⟨ba, bn, bc⟩ ⟨sa, sn, sc'⟩ ⟨na, 16, nc⟩ num bz sz (kuL tz) w2 (HB.out.q Q2.out) (HS.out.q Q2.out) I2.out rfl B0.out B1_.out S0.out S1.out SC.out N0.out N1.out).mono ?_
  rw [HE.out]
  rintro e w3 ⟨⟨xa, xn, xc⟩, rfl, q3, r3⟩
  have Q3 := hid (Q2.out.trans q3)
  have B3 := hid (B2.out.q q3)
  have O3 := hid (HO.out.q Q3.out)
  have I3 := hid (I2.out.q q3)
  have RN3 := hid (R2.out.q q3)
  have R3 := hid r3
  clear q3 r3 d0 d1 d2 B2 Q2 I2 R2
  have FO := hid O3.out.fo
  have FN := hid (show fn = 16 from O3.out.fo.2)
  obtain rfl := FN.out
  obtain ⟨fg, fo_, hfe, _⟩ := in_cell FO.out.1 (j := 0) (by show 0 < 16; omega)
  dsimp only at hfe
  subst hfe
  have d0 := B3.out.c0
  have d1 := B3.out.c1
  have d2 := B3.out.c2
  have c2 := O3.out.o.c2
  dsimp only at d0 d2 c2
  have CB := hid (fun u (hu : Q w3 u) => openBy_any ⟨ba, bn, bc⟩ ⟨sa, sn, sc'⟩ ⟨some ⟨fg, fo_, none⟩, 16, fc⟩ num bz sz fl u ((HB.out.q Q3.out).q hu) ((HS.out.q Q3.out).q hu) (FO.out.1.q hu) rfl B0.out B1_.out S0.out S1.out SC.out N0.out N1.out)
  have s1 : Q w3 w3 := Q.refl _
  go_wp2
  go_region_held3 (fun u => Q w3 u ∧ u.cell? ⟨bx, 0, none⟩ = some (.slice ba bn bc) ∧ u.cell? ⟨bx, 1, none⟩ = some (.int .i64 num) ∧ u.cell? ⟨bx, 2, none⟩ = some (.slice sa sn sc') ∧ u.cell? ⟨g, 2, none⟩ = some (.slice (some ⟨fg, fo_, none⟩) 16 fc)) (repeat (first | (with_reducible assumption) | (with_reducible apply Q.drew) | (with_reducible apply Q.drewN) | (with_reducible refine dcel ?_) | (with_reducible refine dcelN ?_) | (with_reducible apply And.intro)))
    (first
      | (go_at_call 59; refine (CB.out _ (by repeat (first | (with_reducible assumption) | (with_reducible exact Q.refl _) | (with_reducible apply Q.drew) | (with_reducible apply Q.drewN) | (with_reducible apply Q.alloc)))).mono ?_; rintro e w4 ⟨⟨za, zn, zc⟩, rfl, q4, r4⟩; have j4 : Q w3 w4 := Q.trans (by repeat (first | (with_reducible assumption) | (with_reducible exact Q.refl _) | (with_reducible apply Q.drew) | (with_reducible apply Q.drewN) | (with_reducible apply Q.alloc))) q4; have b4 := B3.out.q j4; have g0 := b4.c0; have g1 := b4.c1; have g2 := b4.c2; have e2 := (O3.out.o.q j4).c2; dsimp only at g0 g2 e2))
  all_goals (
    have J4 := hid j4
    have R4 := hid r4
    clear r4 q4 j4 b4 g0 g1 g2 e2 d0 d1 d2 c2 s1 CB
    go_wp2
    go_ret2
    exact ⟨⟨za, zn, zc⟩, rfl, Q3.out.trans J4.out, R4.out⟩)
end Go.Proofs.Ytihmlfpfpadfpaa

/-
  What an opener does with a packet of the other phase, in one contract that the statements' walks use.
-/
namespace Go.Proofs.Ytihmlfpfpadfpaa
open Go.RowKit
set_option linter.unusedVariables false
set_option maxRecDepth 20000

/-- What the next secret tells; the answer; the opener behind it. -/
def nxE (tz bz : List Int) (num : Int) (sz : List Int) : Int := usE (kyL (kuL tz)) (ivL (kuL tz)) bz num sz
def ooE (tz : List Int) (fz : Option (List Int)) (bz : List Int) (num : Int) (sz : List Int) : Int :=
  if nxE tz bz num sz = 71 then (match fz with | none => 71 | some z => usE (kyL z) (ivL z) bz num sz) else nxE tz bz num sz
def ooR (tz : List Int) (fz : Option (List Int)) (bz : List Int) (num : Int) (sz : List Int) : List Int :=
  if nxE tz bz num sz = 71 then (match fz with | none => [] | some z => usR (kyL z) (ivL z) bz num sz) else usR (kyL (kuL tz)) (ivL (kuL tz)) bz num sz
def ooT (tz bz : List Int) (num : Int) (sz : List Int) : List Int := if nxE tz bz num sz = 0 then kuL tz else tz
def ooF (tz : List Int) (fz : Option (List Int)) (bz : List Int) (num : Int) (sz : List Int) : Option (List Int) := if nxE tz bz num sz = 0 then some tz else fz
def ooP (ph : Int) (tz bz : List Int) (num : Int) (sz : List Int) : Int := if nxE tz bz num sz = 0 then phs (bz.getD 0 0) else ph
theorem other_any (g : Nat) (h p f b s : Sv) (ph num : Int) (hz tz : List Int) (fz : Option (List Int)) (bz sz : List Int) (w : World) (ho : OpI w g h p f ph hz tz fz) (hb : In w b bz) (hs : In w s sz) (b0 : 0 < b.n) (b1 : b.n ≤ 16384) (s0 : 16 ≤ s.n) (s1 : s.n ≤ 16400) (sc : s.n ≤ s.c) (n0 : 0 ≤ num) (n1 : num ≤ 4611686018427387903) :
    Calls Try.prog 60 #[.pointer (some ⟨g, 0, none⟩), .agg (bcells b num s)] w fun e w' => ∃ x p' f' : Sv, e = .returned (.tuple #[.slice x.a x.n x.c, .int .i64 (ooE tz fz bz num sz)]) ∧ Keep (fun i => i = g) w w' ∧ Row w' x (ooR tz fz bz num sz) ∧ OpI w' g h p' f' (ooP ph tz bz num sz) hz (ooT tz bz num sz) (ooF tz fz bz num sz) := by
  by_cases h0 : nxE tz bz num sz = 0
  · refine (other_turn g h p f b s ph num hz tz fz bz sz w ho hb hs b0 b1 s0 s1 sc n0 n1 h0).mono ?_
    rintro e w' ⟨x, p', rfl, k, r, o⟩
    have h71 : ¬ nxE tz bz num sz = 71 := by omega
    refine ⟨x, p', p, ?_, k, ?_, ?_⟩
    · unfold ooE; rw [if_neg h71, h0]
    · unfold ooR; rw [if_neg h71]; exact r
    · unfold ooP ooT ooF; rw [if_pos h0, if_pos h0, if_pos h0]; exact o
  · have hP : ooP ph tz bz num sz = ph := by unfold ooP; rw [if_neg h0]
    have hT : ooT tz bz num sz = tz := by unfold ooT; rw [if_neg h0]
    have hF : ooF tz fz bz num sz = fz := by unfold ooF; rw [if_neg h0]
    rw [hP, hT, hF]
    by_cases h71 : nxE tz bz num sz = 71
    · cases fz with
      | none =>
        refine (other_no g h p f b s ph num hz tz none bz sz w ho hb hs b0 b1 s0 s1 sc n0 n1 h0 (.inr rfl)).mono ?_
        rintro e w' ⟨x, rfl, q, r⟩
        refine ⟨x, p, f, ?_, Keep.ofQ q, ?_, ho.q q⟩
        · unfold ooE; rw [if_pos h71]; show _ = Ending.returned (.tuple #[_, .int .i64 71]); rw [← h71]; rfl
        · unfold ooR; rw [if_pos h71]
          have hr : usR (kyL (kuL tz)) (ivL (kuL tz)) bz num sz = [] := by unfold usR; exact if_neg (show ¬ usE (kyL (kuL tz)) (ivL (kuL tz)) bz num sz = 0 from h0)
          rw [hr] at r
          exact r
      | some z =>
        refine (other_former g h p f b s ph num hz tz z bz sz w ho hb hs b0 b1 s0 s1 sc n0 n1 h71).mono ?_
        rintro e w' ⟨x, rfl, q, r⟩
        refine ⟨x, p, f, ?_, Keep.ofQ q, ?_, ho.q q⟩
        · unfold ooE; rw [if_pos h71]
        · unfold ooR; rw [if_pos h71]; exact r
    · refine (other_no g h p f b s ph num hz tz fz bz sz w ho hb hs b0 b1 s0 s1 sc n0 n1 h0 (.inl h71)).mono ?_
      rintro e w' ⟨x, rfl, q, r⟩
      refine ⟨x, p, f, ?_, Keep.ofQ q, ?_, ho.q q⟩
      · unfold ooE; rw [if_neg h71]; rfl
      · unfold ooR; rw [if_neg h71]; exact r
end Go.Proofs.Ytihmlfpfpadfpaa

/-
  What an opener's Open does: a contract that the statements' walks use.
-/
namespace Go.Proofs.Ytihmlfpfpadfpaa
open Go.RowKit
set_option linter.unusedVariables false
set_option maxRecDepth 20000

/-- What Open tells of a packet without its mask; the opener behind it. -/
def oqE (ph : Int) (tz : List Int) (fz : Option (List Int)) (bz : List Int) (num : Int) (sz : List Int) : Int := if phs (bz.getD 0 0) = ph then usE (kyL tz) (ivL tz) bz num sz else ooE tz fz bz num sz
def oqR (ph : Int) (tz : List Int) (fz : Option (List Int)) (bz : List Int) (num : Int) (sz : List Int) : List Int := if phs (bz.getD 0 0) = ph then usR (kyL tz) (ivL tz) bz num sz else ooR tz fz bz num sz
def oqP (ph : Int) (tz bz : List Int) (num : Int) (sz : List Int) : Int := if phs (bz.getD 0 0) = ph then ph else ooP ph tz bz num sz
def oqT (ph : Int) (tz bz : List Int) (num : Int) (sz : List Int) : List Int := if phs (bz.getD 0 0) = ph then tz else ooT tz bz num sz
def oqF (ph : Int) (tz : List Int) (fz : Option (List Int)) (bz : List Int) (num : Int) (sz : List Int) : Option (List Int) := if phs (bz.getD 0 0) = ph then fz else ooF tz fz bz num sz
/-- What Open tells of a packet that is long enough. -/
def OAns (g : Nat) (h : Sv) (ph high : Int) (at_ : Nat) (hz tz : List Int) (fz : Option (List Int)) (ps : List Int) (w : World) (e : Ending) (w' : World) : Prop :=
  ∃ x p' f' : Sv, e = .returned (.tuple #[.int .i64 (if oqE ph tz fz (umB hz ps at_) (umN hz ps at_ high) (umS hz ps at_) = 0 then umN hz ps at_ high else 0), .slice x.a x.n x.c, .int .i64 (oqE ph tz fz (umB hz ps at_) (umN hz ps at_ high) (umS hz ps at_))]) ∧ Keep (fun i => i = g) w w' ∧
      Row w' x (if oqE ph tz fz (umB hz ps at_) (umN hz ps at_ high) (umS hz ps at_) = 0 then oqR ph tz fz (umB hz ps at_) (umN hz ps at_ high) (umS hz ps at_) else []) ∧ OpI w' g h p' f' (oqP ph tz (umB hz ps at_) (umN hz ps at_ high) (umS hz ps at_)) hz (oqT ph tz (umB hz ps at_) (umN hz ps at_ high) (umS hz ps at_)) (oqF ph tz fz (umB hz ps at_) (umN hz ps at_ high) (umS hz ps at_))
set_option maxHeartbeats 8000000 in
theorem oopen_no (g : Nat) (p : Sv) (at_ high : Int) (w : World) (bp : p.n ≤ 140737488355328) (a0 : -9223372036854775808 ≤ at_) (a1 : at_ ≤ 9223372036854775807) (hc : chP p.n at_ high ≠ 0) :
    Calls Try.prog 26 #[.pointer (some ⟨g, 0, none⟩), .slice p.a p.n p.c, .int .i64 at_, .int .i64 high] w fun e w' => e = .returned (.tuple #[.int .i64 0, .slice none 0 0, .int .i64 (chP p.n at_ high)]) ∧ w = w' := by
  have HP := hid (fun u => packet_any p at_ high u (by omega) a0 a1)
  obtain ⟨pa, pn, pc⟩ := p
  dsimp only at *
  generalize chP pn at_ high = E at *
  have hne : (E != 0) = true := by simp [hc]
  go_enter Try.func26, Try.ntmps26
  go_wp2_with (go_at_call 50; refine (HP.out _).mono ?_; rintro e w1 ⟨rfl, rfl⟩)
  go_ret3
  exact ⟨rfl, rfl⟩
set_option maxHeartbeats 8000000 in
theorem oopen_ok (g : Nat) (h p f pk : Sv) (ph high : Int) (at_ : Nat) (hz tz : List Int) (fz : Option (List Int)) (ps : List Int) (w : World) (ho : OpI w g h p f ph hz tz fz) (lh : h.n = 16) (hp : In w pk ps) (bp : pk.n ≤ 140737488355328) (bc : pk.n ≤ pk.c) (hc : chP pk.n at_ high = 0) :
    Calls Try.prog 26 #[.pointer (some ⟨g, 0, none⟩), .slice pk.a pk.n pk.c, .int .i64 at_, .int .i64 high] w fun e w' => OAns g h ph high at_ hz tz fz ps w e w' := by
  have HP := hid (fun u => packet_any pk at_ high u (by omega) (by omega) (by have := (chP_ok hc).2.2.2.2.1; omega))
  obtain ⟨o1, o2, o3, o4, o5, o6⟩ := chP_ok hc
  have HO := hid ho
  have HPK := hid hp
  have HBC := hid bc
  clear ho hp bc
  obtain ⟨pka, pkn, pkc⟩ := pk
  obtain ⟨ha, hn, hc_⟩ := h
  dsimp only at *
  subst lh
  rw [hc] at HP
  clear hc
  have hl : ps.length = pkn := HPK.out.l
  have LB := hid (umB_len hz ps at_ (by omega))
  have LS := hid (umS_len hz ps at_)
  have WR := hid (umW_range hz ps at_)
  have NR := hid (umN_range hz ps at_ high)
  have c0 := HO.out.o.c0
  dsimp only at c0
  go_enter Try.func26, Try.ntmps26
  go_wp2_with (go_at_call 50; refine (HP.out _).mono ?_; rintro e w1' ⟨rfl, rfl⟩)
  refine (unmask_any ⟨ha, 16, hc_⟩ ⟨pka, pkn, pkc⟩ hz ps at_ high w HO.out.ih HPK.out rfl (by omega) (by omega) (by show at_ + 20 ≤ pkn; omega) (by show pkn ≤ at_ + 16400; omega) HBC.out).mono ?_
  rintro e w2 ⟨⟨ba, bn, bc2⟩, ⟨sa, sn, sc⟩, rfl, q2, ib, is_, hsc⟩
  have Q2 := hid q2
  have IB := hid ib
  have IS := hid is_
  have HSC := hid (show sn ≤ sc from hsc)
  have GL := hid (show g < w.heap.size from lt_of_block HO.out.o)
  have GX := hid (q2.size)
  clear q2 ib is_ hsc c0 HP
  generalize hUN : umN hz ps at_ high = UN at *
  have HUN := hid hUN
  clear hUN
  go_wp2_with (refine wpList_store_row rfl 97 _ _ rfl w2.heap.size (bcells ⟨ba, bn, bc2⟩ UN ⟨sa, sn, sc⟩) rfl rfl 97 _ (heap_alloc_new w2 _) (binfo _ _ _) rfl (bc_one _ _ _) ?_; refine Hid.out ?_)
  refine hid ?_
  generalize hw3 : World.setRow _ _ _ = w3
  have Q23 := hid (show Q w2 w3 from by
    have k3 : Keep (fun i => i = w2.heap.size) w2 w3 := by rw [← hw3]; exact ((Keep.refl (fun i => i = w2.heap.size) w2).alloc _).setRow _ _ (.inl rfl)
    exact k3.below (Q.refl _) (Nat.le_refl _) (fun i e => by omega))
  have BB3 := hid (show BB w3 w2.heap.size ⟨ba, bn, bc2⟩ UN ⟨sa, sn, sc⟩ from by rw [← hw3]; exact setRow_heap _ _ _ _ 97 _ (heap_alloc_new w2 _))
  clear hw3
  have NGX := hid (show w2.heap.size ≠ g from by have := GL.out; have := GX.out; omega)
  generalize w2.heap.size = gx at *
  have Q3 := hid (Q2.out.trans Q23.out)
  have IB3 := hid (IB.out.q Q23.out)
  have IS3 := hid (IS.out.q Q23.out)
  have O3 := hid (HO.out.q Q3.out)
  have HBN := hid (show 0 < bn ∧ bn ≤ 16384 from by have h1 := IB.out.l; rw [LB.out] at h1; have := WR.out; dsimp only at h1; omega)
  have HSN := hid (show 16 ≤ sn ∧ sn ≤ 16400 from by have h1 := IS.out.l; rw [LS.out] at h1; have := WR.out; dsimp only at h1; omega)
  have d0 := BB3.out.c0
  have d1 := BB3.out.c1
  have d2 := BB3.out.c2
  have c3 := O3.out.o.c3
  dsimp only at d0 d2
  have PA := hid (fun u (hu : Q w3 u) => phase_any ⟨ba, bn, bc2⟩ UN ⟨sa, sn, sc⟩ (umB hz ps at_) u (IB3.out.q hu) HBN.out.1)
  generalize hpp : phs ((umB hz ps at_).getD 0 0) = pp at *
  have HPP := hid hpp
  clear hpp
  have s1 : Q w3 w3 := Q.refl _
  go_wp2
  go_region_held3 (fun u => Q w3 u ∧ u.cell? ⟨gx, 0, none⟩ = some (.slice ba bn bc2) ∧ u.cell? ⟨gx, 1, none⟩ = some (.int .i64 UN) ∧ u.cell? ⟨gx, 2, none⟩ = some (.slice sa sn sc) ∧ u.cell? ⟨g, 3, none⟩ = some (.int .i64 ph)) (repeat (first | (with_reducible assumption) | (with_reducible apply Q.drew) | (with_reducible apply Q.drewN) | (with_reducible refine dcel ?_) | (with_reducible refine dcelN ?_) | (with_reducible apply And.intro)))
    (first
      | (go_at_call 58; refine (PA.out _ (by repeat (first | (with_reducible assumption) | (with_reducible exact Q.refl _) | (with_reducible apply Q.drew) | (with_reducible apply Q.drewN) | (with_reducible apply Q.alloc)))).mono ?_; rintro e w4 ⟨rfl, q4⟩; have j4 : Q w3 w4 := Q.trans (by repeat (first | (with_reducible assumption) | (with_reducible exact Q.refl _) | (with_reducible apply Q.drew) | (with_reducible apply Q.drewN) | (with_reducible apply Q.alloc))) q4; have b4 := BB3.out.q j4; have g0 := b4.c0; have g1 := b4.c1; have g2 := b4.c2; have e3 := (O3.out.o.q j4).c3; dsimp only at g0 g2))
  have J4 := hid j4
  have O4 := hid (O3.out.q j4)
  have BB4 := hid (BB3.out.q j4)
  have IB4 := hid (IB3.out.q j4)
  have IS4 := hid (IS3.out.q j4)
  have Q4 := hid (Q3.out.trans j4)
  clear q4 j4 b4 g0 g1 g2 e3 d0 d1 d2 c3 s1 PA O3 BB3 IB3 IS3 Q3 Q23 Q2 IB IS
  have d0 := BB4.out.c0
  have d1 := BB4.out.c1
  have d2 := BB4.out.c2
  dsimp only at d0 d2
  by_cases hph : pp = ph
  · have hpe : (pp == ph) = true := by simp [hph]
    have hif : phs ((umB hz ps at_).getD 0 0) = ph := by rw [HPP.out]; exact hph
    have HEQ0 := hid (show oqE ph tz fz (umB hz ps at_) UN (umS hz ps at_) = usE (kyL tz) (ivL tz) (umB hz ps at_) UN (umS hz ps at_) from by unfold oqE; rw [if_pos hif])
    have HRQ0 := hid (show oqR ph tz fz (umB hz ps at_) UN (umS hz ps at_) = usR (kyL tz) (ivL tz) (umB hz ps at_) UN (umS hz ps at_) from by unfold oqR; rw [if_pos hif])
    have HPQ := hid (show oqP ph tz (umB hz ps at_) (umN hz ps at_ high) (umS hz ps at_) = ph from by unfold oqP; rw [if_pos hif])
    have HTQ := hid (show oqT ph tz (umB hz ps at_) (umN hz ps at_ high) (umS hz ps at_) = tz from by unfold oqT; rw [if_pos hif])
    have HFQ := hid (show oqF ph tz fz (umB hz ps at_) (umN hz ps at_ high) (umS hz ps at_) = fz from by unfold oqF; rw [if_pos hif])
    have c1 := O4.out.o.c1
    have CB := hid (fun u (hu : Q w4 u) => openBy_any ⟨ba, bn, bc2⟩ ⟨sa, sn, sc⟩ p UN (umB hz ps at_) (umS hz ps at_) tz u (IB4.out.q hu) (IS4.out.q hu) (O4.out.ip.q hu) O4.out.pn HBN.out.1 HBN.out.2 HSN.out.1 HSN.out.2 HSC.out NR.out.1 NR.out.2)
    have s1 : Q w4 w4 := Q.refl _
    clear hif hph
    go_wp2
    go_region_held3 (fun u => Q w4 u ∧ u.cell? ⟨gx, 0, none⟩ = some (.slice ba bn bc2) ∧ u.cell? ⟨gx, 1, none⟩ = some (.int .i64 UN) ∧ u.cell? ⟨gx, 2, none⟩ = some (.slice sa sn sc) ∧ u.cell? ⟨g, 1, none⟩ = some (.slice p.a p.n p.c)) (repeat (first | (with_reducible assumption) | (with_reducible apply Q.drew) | (with_reducible apply Q.drewN) | (with_reducible refine dcel ?_) | (with_reducible refine dcelN ?_) | (with_reducible apply And.intro)))
      (first
        | (go_at_call 59; refine (CB.out _ (by repeat (first | (with_reducible assumption) | (with_reducible exact Q.refl _) | (with_reducible apply Q.drew) | (with_reducible apply Q.drewN) | (with_reducible apply Q.alloc)))).mono ?_; rintro e w5 ⟨⟨xa, xn, xc⟩, rfl, q5, r5⟩; have j5 : Q w4 w5 := Q.trans (by repeat (first | (with_reducible assumption) | (with_reducible exact Q.refl _) | (with_reducible apply Q.drew) | (with_reducible apply Q.drewN) | (with_reducible apply Q.alloc))) q5; have b5 := BB4.out.q j5; have g0 := b5.c0; have g1 := b5.c1; have g2 := b5.c2; have e1 := (O4.out.o.q j5).c1; dsimp only at g0 g2))
    have BB5 := hid (BB4.out.q j5)
    have O5 := hid (O4.out.q j5)
    have K5 := hid (show Keep (fun i => i = g) w w5 from Keep.ofQ (Q4.out.trans j5))
    have R5 := hid r5
    obtain ⟨p', f', hpp', hff'⟩ : ∃ p' f' : Sv, p' = p ∧ f' = f := ⟨p, f, rfl, rfl⟩
    rw [← hpp', ← hff'] at O5
    have HEQ := hid (show oqE ph tz fz (umB hz ps at_) (umN hz ps at_ high) (umS hz ps at_) = usE (kyL tz) (ivL tz) (umB hz ps at_) UN (umS hz ps at_) from by rw [HUN.out]; exact HEQ0.out)
    have HRQ := hid (show oqR ph tz fz (umB hz ps at_) (umN hz ps at_ high) (umS hz ps at_) = usR (kyL tz) (ivL tz) (umB hz ps at_) UN (umS hz ps at_) from by rw [HUN.out]; exact HRQ0.out)
    clear r5 q5 j5 b5 g0 g1 g2 e1 d0 d1 d2 c1 s1 CB HEQ0 HRQ0 hpp' hff'
    generalize usE (kyL tz) (ivL tz) (umB hz ps at_) UN (umS hz ps at_) = E at *
    generalize usR (kyL tz) (ivL tz) (umB hz ps at_) UN (umS hz ps at_) = RR at *
    by_cases hE : E = 0
    · subst hE
      have RX := hid (show Row w5 ⟨xa, xn, xc⟩ (if (0 : Int) = 0 then RR else []) from by rw [if_pos rfl]; exact R5.out)
      have g1 := BB5.out.c1
      go_wp2
      go_ret3
      unfold OAns
      exact ⟨⟨xa, xn, xc⟩, p', f', by rw [HEQ.out, if_pos rfl, HUN.out]; rfl, K5.out, by rw [HEQ.out, HRQ.out]; exact RX.out, by rw [HPQ.out, HTQ.out, HFQ.out]; exact O5.out⟩
    · have hne : (E != 0) = true := by simp [hE]
      go_wp2
      go_ret3
      unfold OAns
      exact ⟨nilS, p', f', by rw [HEQ.out, if_neg hE]; rfl, K5.out, by rw [HEQ.out, if_neg hE]; exact sub_nil _ _ _, by rw [HPQ.out, HTQ.out, HFQ.out]; exact O5.out⟩
  · have hpe : (pp == ph) = false := by simp [hph]
    have hif : ¬ phs ((umB hz ps at_).getD 0 0) = ph := by rw [HPP.out]; exact hph
    have HEQ0 := hid (show oqE ph tz fz (umB hz ps at_) UN (umS hz ps at_) = ooE tz fz (umB hz ps at_) UN (umS hz ps at_) from by unfold oqE; rw [if_neg hif])
    have HRQ0 := hid (show oqR ph tz fz (umB hz ps at_) UN (umS hz ps at_) = ooR tz fz (umB hz ps at_) UN (umS hz ps at_) from by unfold oqR; rw [if_neg hif])
    have HPQ := hid (show oqP ph tz (umB hz ps at_) (umN hz ps at_ high) (umS hz ps at_) = ooP ph tz (umB hz ps at_) UN (umS hz ps at_) from by unfold oqP; rw [if_neg hif, HUN.out])
    have HTQ := hid (show oqT ph tz (umB hz ps at_) (umN hz ps at_ high) (umS hz ps at_) = ooT tz (umB hz ps at_) UN (umS hz ps at_) from by unfold oqT; rw [if_neg hif, HUN.out])
    have HFQ := hid (show oqF ph tz fz (umB hz ps at_) (umN hz ps at_ high) (umS hz ps at_) = ooF tz fz (umB hz ps at_) UN (umS hz ps at_) from by unfold oqF; rw [if_neg hif, HUN.out])
    clear hif hph
    go_wp2_with fail
    refine (other_any g ⟨ha, 16, hc_⟩ p f ⟨ba, bn, bc2⟩ ⟨sa, sn, sc⟩ ph UN hz tz fz (umB hz ps at_) (umS hz ps at_) w4 O4.out IB4.out IS4.out HBN.out.1 HBN.out.2 HSN.out.1 HSN.out.2 HSC.out NR.out.1 NR.out.2).mono ?_
    rintro e w5 ⟨⟨xa, xn, xc⟩, p', f', rfl, k5, r5, o5⟩
    have BB5 := hid (show BB w5 gx ⟨ba, bn, bc2⟩ UN ⟨sa, sn, sc⟩ from (k5.block gx (lt_of_block BB4.out) NGX.out).trans BB4.out)
    have O5 := hid o5
    have K5 := hid (show Keep (fun i => i = g) w w5 from (Keep.ofQ Q4.out).trans k5)
    have R5 := hid r5
    have HEQ := hid (show oqE ph tz fz (umB hz ps at_) (umN hz ps at_ high) (umS hz ps at_) = ooE tz fz (umB hz ps at_) UN (umS hz ps at_) from by rw [HUN.out]; exact HEQ0.out)
    have HRQ := hid (show oqR ph tz fz (umB hz ps at_) (umN hz ps at_ high) (umS hz ps at_) = ooR tz fz (umB hz ps at_) UN (umS hz ps at_) from by rw [HUN.out]; exact HRQ0.out)
    clear r5 k5 o5 d0 d1 d2 HEQ0 HRQ0
    generalize ooE tz fz (umB hz ps at_) UN (umS hz ps at_) = E at *
    generalize ooR tz fz (umB hz ps at_) UN (umS hz ps at_) = RR at *
    by_cases hE : E = 0
    · subst hE
      have RX := hid (show Row w5 ⟨xa, xn, xc⟩ (if (0 : Int) = 0 then RR else []) from by rw [if_pos rfl]; exact R5.out)
      have g1 := BB5.out.c1
      go_wp2
      go_ret3
      unfold OAns
      exact ⟨⟨xa, xn, xc⟩, p', f', by rw [HEQ.out, if_pos rfl, HUN.out]; rfl, K5.out, by rw [HEQ.out, HRQ.out]; exact RX.out, by rw [HPQ.out, HTQ.out, HFQ.out]; exact O5.out⟩
    · have hne : (E != 0) = true := by simp [hE]
      go_wp2
      go_ret3
      unfold OAns
      exact ⟨nilS, p', f', by rw [HEQ.out, if_neg hE]; rfl, K5.out, by rw [HEQ.out, if_neg hE]; exact sub_nil _ _ _, by rw [HPQ.out, HTQ.out, HFQ.out]; exact O5.out⟩
end Go.Proofs.Ytihmlfpfpadfpaa

/-
  What the law's own opened does: a contract that the statements' walks use.
-/
namespace Go.Proofs.Ytihmlfpfpadfpaa
open Go.RowKit
set_option linter.unusedVariables false
set_option maxRecDepth 20000

set_option maxHeartbeats 8000000 in
theorem opened_any (pk t h : Sv) (i : Int) (ps tz hz : List Int) (w : World) (hp : In w pk ps) (ht : In w t tz) (hh : In w h hz) (lt : t.n = 16) (lh : h.n = 16) (b3 : 22 ≤ pk.n) (b4 : pk.n ≤ 16402) (bc : pk.n ≤ pk.c) (i0 : 0 ≤ i) (i1 : i ≤ 1000) :
    Calls Try.prog 29 #[.slice pk.a pk.n pk.c, .slice t.a t.n t.c, .slice h.a h.n h.c, .int .i64 i] w fun e w' => e = .returned (.bool (nxE tz (umB hz ps 2) (umN hz ps 2 (i - 1)) (umS hz ps 2) != 71)) ∧ Q w w' := by
  have HP := hid hp
  have HT := hid ht
  have HH := hid hh
  have LT := hid (show tz.length = 16 from by rw [ht.l, lt])
  have HBC := hid bc
  clear hp ht hh bc
  obtain ⟨pa, pn, pc⟩ := pk
  obtain ⟨ta, tn, tc⟩ := t
  obtain ⟨ha, hn, hc⟩ := h
  dsimp only at *
  subst lt lh
  have hl : ps.length = pn := HP.out.l
  have LB := hid (umB_len hz ps 2 (by omega))
  have LS := hid (umS_len hz ps 2)
  have WR := hid (umW_range hz ps 2)
  have NR := hid (umN_range hz ps 2 (i - 1))
  have FB := hid (umB_fst hz ps 2 (by omega) (by omega))
  have FL := hid (umF_lt hz HP.out.z 2)
  go_enter Try.func29, Try.ntmps29
  go_wp2_with fail
  refine (rnext_any ⟨ta, 16, tc⟩ tz w HT.out).mono ?_
  rintro e w1 ⟨⟨na, nn, nc⟩, rfl, q1, r1⟩
  have R1 := hid (show Row w1 ⟨na, nn, nc⟩ (kuL tz) from by have h := r1; unfold if16 at h; rw [if_pos LT.out] at h; exact h)
  have I1 := hid (row_in R1.out (exL_lt _ _ _))
  have NN := hid (show nn = 16 from by have h := Row.len R1.out; rw [show (kuL tz).length = 16 from exL_len _ _ _] at h; exact h.symm)
  obtain rfl := NN.out
  have Q1 := hid q1
  clear q1 r1 NN R1
  dsimp only
  go_wp2_with fail
  refine (rmake_any ⟨na, 16, nc⟩ (kuL tz) w1 I1.out).mono ?_
  rintro e w2 ⟨⟨ka, kn, kc⟩, ⟨ia, n, ic⟩, ⟨xa, xn, xc⟩, rfl, q2, k2⟩
  have K2 := hid (show KI w2 ⟨ka, kn, kc⟩ ⟨ia, n, ic⟩ ⟨xa, xn, xc⟩ (kyL (kuL tz)) (ivL (kuL tz)) (hpL (kuL tz)) from by
    have h := k2
    have h16 : (kuL tz).length = 16 := exL_len _ _ _
    unfold if16 at h
    rw [if_pos h16, if_pos h16, if_pos h16] at h
    exact h)
  have Q2 := hid (Q1.out.trans q2)
  clear q2 k2 Q1 I1
  dsimp only
  go_wp2_with (refine wpList_store_row rfl 33 _ _ rfl w2.heap.size (kcells ⟨ka, kn, kc⟩ ⟨ia, n, ic⟩ ⟨xa, xn, xc⟩) rfl rfl 33 _ (heap_alloc_new w2 _) (kinfo33 _ _ _) rfl (kc_one _ _ _) ?_; refine Hid.out ?_)
  refine hid ?_
  generalize hw3 : World.setRow _ _ _ = w3
  have Q23 := hid (show Q w2 w3 from by
    have k3 : Keep (fun i => i = w2.heap.size) w2 w3 := by rw [← hw3]; exact ((Keep.refl (fun i => i = w2.heap.size) w2).alloc _).setRow _ _ (.inl rfl)
    exact k3.below (Q.refl _) (Nat.le_refl _) (fun i e => by omega))
  have KB3 := hid (show KB w3 w2.heap.size 33 ⟨ka, kn, kc⟩ ⟨ia, n, ic⟩ ⟨xa, xn, xc⟩ from by rw [← hw3]; exact setRow_heap _ _ _ _ 33 _ (heap_alloc_new w2 _))
  clear hw3
  generalize w2.heap.size = gx at *
  have Q3 := hid (Q2.out.trans Q23.out)
  have K3 := hid (K2.out.q Q23.out)
  have hkn : kn = 16 := by have := K3.out.k.l; rw [show (kyL (kuL tz)).length = 16 from exL_len _ _ _] at this; exact this.symm
  have hnn : n = 12 := by have := K3.out.i.l; rw [show (ivL (kuL tz)).length = 12 from exL_len _ _ _] at this; exact this.symm
  subst hkn hnn
  have c0 := KB3.out.c0
  have c1 := KB3.out.c1
  dsimp only at c0 c1
  obtain ⟨m1, hm1, KM⟩ : ∃ m1 : Int, i - 1 = m1 ∧ Hid (m1 = i - 1) := ⟨i - 1, rfl, hid rfl⟩
  have hwm : IntKind.i64.wrap m1 = m1 := by rw [wrap_i64]; omega
  rw [hm1] at NR
  have CM := hid (fun u (hu : Q w3 u) => show Calls Try.prog 55 #[.slice ha 16 hc, .slice pa pn pc, .int .i64 2, .int .i64 m1] u _ from runmask_any ⟨ha, 16, hc⟩ ⟨pa, pn, pc⟩ hz ps 2 m1 u ((HH.out.q Q3.out).q hu) ((HP.out.q Q3.out).q hu) rfl (by omega) (by omega) (by show 2 + 20 ≤ pn; omega) (by show pn ≤ 2 + 16400; omega) HBC.out)
  have CS := hid (fun (b s : Sv) u (hu : Q w3 u) (ib : In u b (umB hz ps 2)) (is_ : In u s (umS hz ps 2)) (hsc : s.n ≤ s.c) => runseal_any (umF hz ps 2) (umN hz ps 2 m1) b s ⟨ka, 16, kc⟩ ⟨ia, 12, ic⟩ (umB hz ps 2) (umS hz ps 2) (kyL (kuL tz)) (ivL (kuL tz)) u ib is_ (K3.out.k.q hu) (K3.out.i.q hu) FB.out FL.out rfl rfl (by have h1 := ib.l; rw [LB.out] at h1; have := WR.out; omega) (by have h1 := is_.l; rw [LS.out] at h1; have := WR.out; omega) (by have h1 := is_.l; rw [LS.out] at h1; have := WR.out; omega) hsc NR.out.1 NR.out.2)
  have s1 : Q w3 w3 := Q.refl _
  go_wp2
  go_region_held3 (fun u => Q w3 u ∧ u.cell? ⟨gx, 0, none⟩ = some (.slice ka 16 kc) ∧ u.cell? ⟨gx, 1, none⟩ = some (.slice ia 12 ic)) (repeat (first | (with_reducible assumption) | (with_reducible apply Q.drew) | (with_reducible apply Q.drewN) | (with_reducible refine dcel ?_) | (with_reducible refine dcelN ?_) | (with_reducible apply And.intro)))
    (first
      | (go_at_call 55; refine (CM.out _ (by repeat (first | (with_reducible assumption) | (with_reducible exact Q.refl _) | (with_reducible apply Q.drew) | (with_reducible apply Q.drewN) | (with_reducible apply Q.alloc)))).mono ?_; rintro e w4 ⟨⟨ba, bn, bc⟩, ⟨sa, sn, sc⟩, rfl, q4, ib, is_, hsc⟩; have j4 : Q w3 w4 := Q.trans (by repeat (first | (with_reducible assumption) | (with_reducible exact Q.refl _) | (with_reducible apply Q.drew) | (with_reducible apply Q.drewN) | (with_reducible apply Q.alloc))) q4; have k4 := KB3.out.q j4; have e0 := k4.c0; have e1 := k4.c1; dsimp only at e0 e1; have IB := hid ib; have IS := hid is_; have HSC := hid hsc; clear ib is_ hsc)
      | (go_at_call 56; refine (CS.out ⟨ba, bn, bc⟩ ⟨sa, sn, sc⟩ _ (by repeat (first | (with_reducible assumption) | (with_reducible exact Q.refl _) | (with_reducible apply Q.drew) | (with_reducible apply Q.drewN) | (with_reducible apply Q.alloc))) (IB.out.q (by repeat (first | (with_reducible assumption) | (with_reducible exact Q.refl _) | (with_reducible apply Q.drew) | (with_reducible apply Q.drewN) | (with_reducible apply Q.alloc)))) (IS.out.q (by repeat (first | (with_reducible assumption) | (with_reducible exact Q.refl _) | (with_reducible apply Q.drew) | (with_reducible apply Q.drewN) | (with_reducible apply Q.alloc)))) HSC.out).mono ?_; rintro e w5 ⟨⟨ya, yn, yc⟩, rfl, q5, r5⟩; have j5 : Q w3 w5 := Q.trans (by repeat (first | (with_reducible assumption) | (with_reducible exact Q.refl _) | (with_reducible apply Q.drew) | (with_reducible apply Q.drewN) | (with_reducible apply Q.alloc))) q5; have k5 := KB3.out.q j5; have g0 := k5.c0; have g1 := k5.c1; dsimp only at g0 g1))
  all_goals (
    have Q5 := hid (Q3.out.trans j5)
    have HNX := hid (show nxE tz (umB hz ps 2) (umN hz ps 2 (i - 1)) (umS hz ps 2) = usE (kyL (kuL tz)) (ivL (kuL tz)) (umB hz ps 2) (umN hz ps 2 m1) (umS hz ps 2) from by rw [hm1]; rfl)
    clear r5 q5 j5 k5 g0 g1 q4 j4 k4 e0 e1 c0 c1 s1 CM CS
    generalize usE (kyL (kuL tz)) (ivL (kuL tz)) (umB hz ps 2) (umN hz ps 2 m1) (umS hz ps 2) = E at *
    go_wp2
    go_ret
    exact ⟨by rw [HNX.out]; rfl, Q5.out⟩)
end Go.Proofs.Ytihmlfpfpadfpaa

/-
  Packets under secrets each of which is the next one of the last, as plain mathematics. Nothing is proved of a statement here.
-/
namespace Go.Proofs.Ytihmlfpfpadfpaa
open Go.RowKit
set_option linter.unusedVariables false
set_option maxRecDepth 20000

/-- The secret of a turn. -/
def sqL (z : List Int) : Nat → List Int
  | 0 => z
  | k + 1 => kuL (sqL z k)
/-- The header of a turn, and its packet. -/
def hdT (i : Nat) : List Int := [64 + 4 * ((i : Int) % 2), 9]
def pkT (z hz : List Int) (i : Nat) (ps : List Int) : List Int := proL (kyL (sqL z i)) (ivL (sqL z i)) hz (hdT i) (i : Int) 1 ps
theorem sq_len {z : List Int} (h : z.length = 16) : ∀ i, (sqL z i).length = 16
  | 0 => h
  | k + 1 => exL_len _ _ _
theorem hdT_by (i : Nat) : By (hdT i) := by
  intro y hy
  unfold hdT at hy
  simp only [List.mem_cons, List.not_mem_nil, or_false] at hy
  rcases hy with rfl | rfl
  · omega
  · omega
theorem exp_self {i : Nat} (hi : i ≤ 40) : expM (i : Int) ((i : Int) % 256 ^ (1 : Int).toNat) 1 = i := by
  have h : ∀ n : Fin 41, expM (n.1 : Int) ((n.1 : Int) % 256 ^ (1 : Int).toNat) 1 = n.1 := by decide
  exact h ⟨i, by omega⟩
theorem pkT_len (z hz : List Int) (i : Nat) (ps : List Int) : (pkT z hz i ps).length = 2 + 1 + ps.length + 16 := by
  unfold pkT
  rw [proL_len]
  show 2 + 1 + (ps.length + 16) = _
  omega
/-- The packet of a turn is opened by its own secret, whether its number or the one ahead is the greatest so far. -/
theorem tr_all {z hz ps : List Int} {i : Nat} {high : Int} (h : hz.length = 16) (zp : By ps) (p0 : 4 ≤ ps.length) (p1 : ps.length ≤ 100) (hi : i ≤ 40) (hh : high = (i : Int) - 1 ∨ high = i) :
    umN hz (pkT z hz i ps) 2 high = i ∧ phs ((umB hz (pkT z hz i ps) 2).getD 0 0) = (i : Int) % 2 ∧ usE (kyL (sqL z i)) (ivL (sqL z i)) (umB hz (pkT z hz i ps) 2) i (umS hz (pkT z hz i ps) 2) = 0 ∧
      usR (kyL (sqL z i)) (ivL (sqL z i)) (umB hz (pkT z hz i ps) 2) i (umS hz (pkT z hz i ps) 2) = ps ∧ chP (pkT z hz i ps).length 2 high = 0 := by
  have hk : (kyL (sqL z i)).length = 16 := exL_len _ _ _
  have hv : (ivL (sqL z i)).length = 12 := exL_len _ _ _
  have he : ptE (kyL (sqL z i)).length (ivL (sqL z i)).length hz.length (hdT i).length (i : Int) 1 ps.length = 0 := by
    rw [hk, hv, h]
    show ptE 16 12 16 2 (i : Int) 1 ps.length = 0
    unfold ptE kyE
    rw [if_neg (by simp), if_neg (by omega), if_neg (by omega), if_neg (by omega)]
  have hf : (hdT i).getD 0 0 = 64 + 4 * ((i : Int) % 2) := rfl
  have hx : expM high ((i : Int) % 256 ^ (1 : Int).toNat) 1 = i := by
    rcases hh with rfl | rfl
    · exact exp_back (by omega) (by omega) (by omega) (by omega)
    · exact exp_self hi
  obtain ⟨u1, u2, u3, u4, u5⟩ := un_pro (hz := hz) (high := high) he (hdT_by i) zp (by rw [hf]; omega) (by omega) (by omega) hx
  have us := us_seal he zp (by
    rw [hf]
    unfold rsv
    rw [if_neg (by omega)]
    simp
    omega)
  have e1 : pkT z hz i ps = proL (kyL (sqL z i)) (ivL (sqL z i)) hz (hdT i) (i : Int) (1 : Int).toNat ps := rfl
  have e2 : (hdT i).length = 2 := rfl
  rw [e2, ← e1] at u2 u3 u4 u5
  rw [u3, u4]
  refine ⟨u2, ?_, us.1, us.2, u5⟩
  show phs ((hdT i ++ _).getD 0 0) = _
  show phs (64 + 4 * ((i : Int) % 2)) = _
  unfold phs
  split <;> omega
/-- Turning to the next secret, by its packet. -/
theorem tr_turn {z hz ps : List Int} {i : Nat} {fz : Option (List Int)} (h : hz.length = 16) (zp : By ps) (p0 : 4 ≤ ps.length) (p1 : ps.length ≤ 100) (hi : i + 1 ≤ 40) :
    let b := umB hz (pkT z hz (i + 1) ps) 2
    let n := umN hz (pkT z hz (i + 1) ps) 2 (i : Int)
    let s := umS hz (pkT z hz (i + 1) ps) 2
    n = (i : Int) + 1 ∧ oqE ((i : Int) % 2) (sqL z i) fz b n s = 0 ∧ oqR ((i : Int) % 2) (sqL z i) fz b n s = ps ∧ oqP ((i : Int) % 2) (sqL z i) b n s = ((i : Int) + 1) % 2 ∧ oqT ((i : Int) % 2) (sqL z i) b n s = sqL z (i + 1) ∧ oqF ((i : Int) % 2) (sqL z i) fz b n s = some (sqL z i) := by
  obtain ⟨a1, a2, a3, a4, a5⟩ := tr_all (z := z) (ps := ps) (i := i + 1) (high := (i : Int)) h zp p0 p1 hi (.inl (by omega))
  have e : ((i + 1 : Nat) : Int) = (i : Int) + 1 := by omega
  rw [e] at a1 a2 a3 a4
  have hne : ¬ phs ((umB hz (pkT z hz (i + 1) ps) 2).getD 0 0) = (i : Int) % 2 := by rw [a2]; omega
  have hx : nxE (sqL z i) (umB hz (pkT z hz (i + 1) ps) 2) ((i : Int) + 1) (umS hz (pkT z hz (i + 1) ps) 2) = 0 := a3
  have h71 : ¬ nxE (sqL z i) (umB hz (pkT z hz (i + 1) ps) 2) ((i : Int) + 1) (umS hz (pkT z hz (i + 1) ps) 2) = 71 := by rw [hx]; omega
  dsimp only
  rw [a1]
  refine ⟨rfl, ?_, ?_, ?_, ?_, ?_⟩
  · unfold oqE ooE; rw [if_neg hne, if_neg h71]; exact hx
  · unfold oqR ooR; rw [if_neg hne, if_neg h71]; exact a4
  · unfold oqP ooP; rw [if_neg hne, if_pos hx]; exact a2
  · unfold oqT ooT; rw [if_neg hne, if_pos hx]; rfl
  · unfold oqF ooF; rw [if_neg hne, if_pos hx]
/-- The late packet of the turn ahead, where the next secret does not open it. -/
theorem tr_late {z hz ps : List Int} {i : Nat} (h : hz.length = 16) (zp : By ps) (p0 : 4 ≤ ps.length) (p1 : ps.length ≤ 100) (hi : i ≤ 40)
    (hn : nxE (sqL z (i + 1)) (umB hz (pkT z hz i ps) 2) (umN hz (pkT z hz i ps) 2 (i : Int)) (umS hz (pkT z hz i ps) 2) = 71) :
    let b := umB hz (pkT z hz i ps) 2
    let n := umN hz (pkT z hz i ps) 2 (i : Int)
    let s := umS hz (pkT z hz i ps) 2
    let ph := ((i : Int) + 1) % 2
    n = (i : Int) ∧ oqE ph (sqL z (i + 1)) (some (sqL z i)) b n s = 0 ∧ oqP ph (sqL z (i + 1)) b n s = ph ∧ oqT ph (sqL z (i + 1)) b n s = sqL z (i + 1) ∧ oqF ph (sqL z (i + 1)) (some (sqL z i)) b n s = some (sqL z i) := by
  obtain ⟨a1, a2, a3, a4, a5⟩ := tr_all (z := z) (ps := ps) (i := i) (high := (i : Int)) h zp p0 p1 hi (.inr rfl)
  have hne : ¬ phs ((umB hz (pkT z hz i ps) 2).getD 0 0) = ((i : Int) + 1) % 2 := by rw [a2]; omega
  rw [a1] at hn
  dsimp only
  rw [a1]
  refine ⟨rfl, ?_, ?_, ?_, ?_⟩
  · unfold oqE ooE; rw [if_neg hne, if_pos hn]; exact a3
  · unfold oqP ooP; rw [if_neg hne, if_neg (by rw [hn]; omega)]
  · unfold oqT ooT; rw [if_neg hne, if_neg (by rw [hn]; omega)]
  · unfold oqF ooF; rw [if_neg hne, if_neg (by rw [hn]; omega)]
/-- The first packet. -/
theorem tr_first {z hz ps : List Int} (h : hz.length = 16) (zp : By ps) (p0 : 4 ≤ ps.length) (p1 : ps.length ≤ 100) :
    let b := umB hz (pkT z hz 0 ps) 2
    let n := umN hz (pkT z hz 0 ps) 2 (-1)
    let s := umS hz (pkT z hz 0 ps) 2
    n = 0 ∧ oqE 0 z none b n s = 0 ∧ oqR 0 z none b n s = ps ∧ oqP 0 z b n s = 0 ∧ oqT 0 z b n s = z ∧ oqF 0 z none b n s = none := by
  obtain ⟨a1, a2, a3, a4, a5⟩ := tr_all (z := z) (ps := ps) (i := 0) (high := -1) h zp p0 p1 (by omega) (.inl (by omega))
  have hne : phs ((umB hz (pkT z hz 0 ps) 2).getD 0 0) = 0 := a2
  have b1 : umN hz (pkT z hz 0 ps) 2 (-1) = 0 := a1
  dsimp only
  rw [b1]
  refine ⟨rfl, ?_, ?_, ?_, ?_, ?_⟩
  · unfold oqE; rw [if_pos hne]; exact a3
  · unfold oqR; rw [if_pos hne]; exact a4
  · unfold oqP; rw [if_pos hne]
  · unfold oqT; rw [if_pos hne]
  · unfold oqF; rw [if_pos hne]
end Go.Proofs.Ytihmlfpfpadfpaa

/-
  What Make, Next, Protect, Open and Phase do in the law of the turns: contracts that the statement's walk uses.
-/
namespace Go.Proofs.Ytihmlfpfpadfpaa
open Go.RowKit
set_option linter.unusedVariables false
set_option maxRecDepth 20000

theorem make_16 (t : Sv) (z : List Int) (w : World) (h : In w t z) (hn : t.n = 16) :
    Calls Try.prog 12 #[.slice t.a 16 t.c] w fun e w' => ∃ k i h : Sv, e = .returned (.tuple #[.agg (kcells k i h), .int .i64 0]) ∧ Q w w' ∧ KI w' k i h (kyL z) (ivL z) (hpL z) := by
  have hz : z.length = 16 := by rw [h.l, hn]
  have hm := make_any t z w h
  rw [hn] at hm
  refine hm.mono ?_
  rintro e w' ⟨k, i, h, rfl, q, x⟩
  unfold if16 at x
  rw [if_pos hz, if_pos hz, if_pos hz] at x
  exact ⟨k, i, h, rfl, q, x⟩
theorem next_16 (t : Sv) (z : List Int) (w : World) (h : In w t z) (hn : t.n = 16) :
    Calls Try.prog 14 #[.slice t.a 16 t.c] w fun e w' => ∃ (xa : Option Addr) (xc : Nat), e = .returned (.tuple #[.slice xa 16 xc, .int .i64 0]) ∧ Q w w' ∧ In w' ⟨xa, 16, xc⟩ (kuL z) := by
  have hm := next_any t z w h (by rw [hn]; omega)
  rw [hn] at hm
  refine hm.mono ?_
  rintro e w' ⟨⟨xa, xn, xc⟩, rfl, q, r⟩
  rw [if_pos rfl] at r
  have r' : Row w' ⟨xa, xn, xc⟩ (kuL z) := r
  have hx : xn = 16 := by have h1 := Row.len r'; rw [show (kuL z).length = 16 from exL_len _ _ _] at h1; exact h1.symm
  subst hx
  exact ⟨xa, xc, rfl, q, row_in r' (exL_lt _ _ _)⟩
theorem seg_some {w : World} {a : Option Addr} {zs : List Int} (h : Seg w a zs) (h0 : 0 < zs.length) : ∃ b o, a = some ⟨b, o, none⟩ := by
  obtain ⟨b, o, e, _⟩ := h (by intro e; rw [e] at h0; simp at h0)
  exact ⟨b, o, e⟩
theorem pkT_by (z hz : List Int) (i : Nat) (ps : List Int) (zp : By ps) : By (pkT z hz i ps) := by
  unfold pkT
  exact mskA_lt _ (plnL_lt (hdT_by i) zp _ _) _ _
/-- A packet of a turn in memory. -/
structure PkI (w : World) (x : Sv) (z hz : List Int) (i : Nat) (ps : List Int) : Prop where
  i : In w x (pkT z hz i ps)
  c : x.n ≤ x.c
  p : By ps
  p0 : 4 ≤ ps.length
  p1 : ps.length ≤ 100
theorem PkI.q {w w' : World} {x : Sv} {z hz : List Int} {i : Nat} {ps : List Int} (h : PkI w x z hz i ps) (q : Q w w') : PkI w' x z hz i ps := ⟨h.i.q q, h.c, h.p, h.p0, h.p1⟩
theorem PkI.keepO {w w' : World} {g : Nat} {h p f x : Sv} {ph : Int} {z hz : List Int} {i : Nat} {ps : List Int} (k : PkI w x z hz i ps) (ho : OB w g h p f ph) (kk : Keep (fun i => i = g) w w') : PkI w' x z hz i ps := ⟨in_keepO k.i ho kk, k.c, k.p, k.p0, k.p1⟩
theorem PkI.n {w : World} {x : Sv} {z hz : List Int} {i : Nat} {ps : List Int} (h : PkI w x z hz i ps) : x.n = ps.length + 19 := by
  have := h.i.l; rw [pkT_len] at this; omega
theorem prot_T (k i h hd pl : Sv) (z hz : List Int) (j : Nat) (ps : List Int) (w : World) (hk : KI w k i h (kyL (sqL z j)) (ivL (sqL z j)) hz) (lz : hz.length = 16) (hh : In w hd (hdT j)) (hp : In w pl ps) (p0 : 4 ≤ ps.length) (p1 : ps.length ≤ 100) (hj : j ≤ 40) :
    Calls Try.prog 20 #[.agg (kcells k i h), .slice hd.a hd.n hd.c, .int .i64 (j : Int), .int .i64 1, .slice pl.a pl.n pl.c] w fun e w' => ∃ xb xo xn xc, e = .returned (.tuple #[.slice (some ⟨xb, xo, none⟩) xn xc, .int .i64 0]) ∧ Q w w' ∧ PkI w' ⟨some ⟨xb, xo, none⟩, xn, xc⟩ z hz j ps := by
  have h1 : k.n = 16 := by rw [← hk.k.l]; exact exL_len _ _ _
  have h2 : i.n = 12 := by rw [← hk.i.l]; exact exL_len _ _ _
  have h3 : h.n = 16 := by rw [← hk.h.l]; exact lz
  have h4 : hd.n = 2 := by rw [← hh.l]; rfl
  have he : ptE k.n i.n h.n hd.n (j : Int) 1 pl.n = 0 := by
    rw [h1, h2, h3, h4, ← hp.l]
    unfold ptE kyE
    rw [if_neg (by simp), if_neg (by omega), if_neg (by omega), if_neg (by omega)]
  have hm := protect_any k i h hd pl _ _ _ _ _ (j : Int) 1 w hk hh hp (by omega) (by rw [← hp.l]; omega)
  rw [he] at hm
  refine hm.mono ?_
  rintro e w' ⟨⟨xa, xn, xc⟩, rfl, q, r⟩
  have r' : Row w' ⟨xa, xn, xc⟩ (pkT z hz j ps) := by
    have h5 := r
    unfold ptR at h5
    rw [hk.k.l, hk.i.l, hk.h.l, hh.l, hp.l, he, if_pos rfl] at h5
    exact h5
  obtain ⟨xb, xo, rfl⟩ := seg_some r'.seg (by rw [pkT_len]; omega)
  exact ⟨xb, xo, xn, xc, rfl, q, row_in r' (pkT_by z hz j ps hp.z), Row.cap r', hp.z, p0, p1⟩
/-- The next packet turns the opener. -/
theorem open_turn (g : Nat) (h p f x : Sv) (z hz : List Int) (i : Nat) (fz : Option (List Int)) (ps : List Int) (w : World) (ho : OpI w g h p f ((i : Int) % 2) hz (sqL z i) fz) (lz : hz.length = 16) (hx : PkI w x z hz (i + 1) ps) (hi : i + 1 ≤ 40) :
    Calls Try.prog 26 #[.pointer (some ⟨g, 0, none⟩), .slice x.a x.n x.c, .int .i64 2, .int .i64 (i : Int)] w fun e w' => ∃ (ya : Option Addr) (yc : Nat) (p' f' : Sv), e = .returned (.tuple #[.int .i64 ((i : Int) + 1), .slice ya ps.length yc, .int .i64 0]) ∧ Keep (fun b => b = g) w w' ∧ OpI w' g h p' f' (((i : Int) + 1) % 2) hz (sqL z (i + 1)) (some (sqL z i)) := by
  have lh : h.n = 16 := by rw [← ho.ih.l]; exact lz
  have hn := hx.n
  have hch := (tr_all (z := z) (ps := ps) (i := i + 1) (high := (i : Int)) lz hx.p hx.p0 hx.p1 hi (.inl (by omega))).2.2.2.2
  rw [hx.i.l] at hch
  obtain ⟨t1, t2, t3, t4, t5, t6⟩ := tr_turn (z := z) (ps := ps) (i := i) (fz := fz) lz hx.p hx.p0 hx.p1 hi
  refine (oopen_ok g h p f x ((i : Int) % 2) (i : Int) 2 hz (sqL z i) fz _ w ho lh hx.i (by have := hx.p1; omega) hx.c hch).mono ?_
  rintro e w' ⟨⟨ya, yn, yc⟩, p', f', rfl, kk, r, o⟩
  rw [t2, if_pos rfl, t3] at r
  rw [t4, t5, t6] at o
  have hy : yn = ps.length := (Row.len r).symm
  subst hy
  rw [t2, if_pos rfl, t1]
  exact ⟨ya, yc, p', f', rfl, kk, o⟩
/-- The first packet. -/
theorem open_first (g : Nat) (h p x : Sv) (z hz : List Int) (ps : List Int) (w : World) (ho : OpI w g h p nilS 0 hz z none) (lz : hz.length = 16) (hx : PkI w x z hz 0 ps) :
    Calls Try.prog 26 #[.pointer (some ⟨g, 0, none⟩), .slice x.a x.n x.c, .int .i64 2, .int .i64 (-1)] w fun e w' => ∃ (ya : Option Addr) (yc : Nat) (p' f' : Sv), e = .returned (.tuple #[.int .i64 0, .slice ya ps.length yc, .int .i64 0]) ∧ Keep (fun b => b = g) w w' ∧ OpI w' g h p' f' 0 hz z none := by
  have lh : h.n = 16 := by rw [← ho.ih.l]; exact lz
  have hn := hx.n
  have hch := (tr_all (z := z) (ps := ps) (i := 0) (high := -1) lz hx.p hx.p0 hx.p1 (by omega) (.inl (by omega))).2.2.2.2
  rw [hx.i.l] at hch
  obtain ⟨t1, t2, t3, t4, t5, t6⟩ := tr_first (z := z) (ps := ps) lz hx.p hx.p0 hx.p1
  refine (oopen_ok g h p nilS x 0 (-1) 2 hz z none _ w ho lh hx.i (by have := hx.p1; omega) hx.c hch).mono ?_
  rintro e w' ⟨⟨ya, yn, yc⟩, p', f', rfl, kk, r, o⟩
  rw [t2, if_pos rfl, t3] at r
  rw [t4, t5, t6] at o
  have hy : yn = ps.length := (Row.len r).symm
  subst hy
  rw [t2, if_pos rfl, t1]
  exact ⟨ya, yc, p', f', rfl, kk, o⟩
/-- The late packet. -/
theorem open_late (g : Nat) (h p f x : Sv) (z hz : List Int) (i : Nat) (ps : List Int) (w : World) (ho : OpI w g h p f (((i : Int) + 1) % 2) hz (sqL z (i + 1)) (some (sqL z i))) (lz : hz.length = 16) (hx : PkI w x z hz i ps) (hi : i + 1 ≤ 40)
    (hn71 : nxE (sqL z (i + 1)) (umB hz (pkT z hz i ps) 2) (umN hz (pkT z hz i ps) 2 (i : Int)) (umS hz (pkT z hz i ps) 2) = 71) :
    Calls Try.prog 26 #[.pointer (some ⟨g, 0, none⟩), .slice x.a x.n x.c, .int .i64 2, .int .i64 (i : Int)] w fun e w' => ∃ (y p' f' : Sv), e = .returned (.tuple #[.int .i64 (i : Int), .slice y.a y.n y.c, .int .i64 0]) ∧ Keep (fun b => b = g) w w' ∧ OpI w' g h p' f' (((i : Int) + 1) % 2) hz (sqL z (i + 1)) (some (sqL z i)) := by
  have lh : h.n = 16 := by rw [← ho.ih.l]; exact lz
  have hn := hx.n
  have hch := (tr_all (z := z) (ps := ps) (i := i) (high := (i : Int)) lz hx.p hx.p0 hx.p1 (by omega) (.inr rfl)).2.2.2.2
  rw [hx.i.l] at hch
  obtain ⟨t1, t2, t4, t5, t6⟩ := tr_late (z := z) (ps := ps) (i := i) lz hx.p hx.p0 hx.p1 (by omega) hn71
  refine (oopen_ok g h p f x (((i : Int) + 1) % 2) (i : Int) 2 hz (sqL z (i + 1)) (some (sqL z i)) _ w ho lh hx.i (by have := hx.p1; omega) hx.c hch).mono ?_
  rintro e w' ⟨y, p', f', rfl, kk, r, o⟩
  rw [t4, t5, t6] at o
  rw [t2, if_pos rfl, t1]
  exact ⟨y, p', f', rfl, kk, o⟩
/-- Would the next secret open the late packet? -/
theorem late_29 (x t h : Sv) (z hz : List Int) (i : Nat) (ps : List Int) (w : World) (hx : PkI w x z hz i ps) (ht : In w t (sqL z (i + 1))) (hh : In w h hz) (tn : t.n = 16) (lz : hz.length = 16) (hi : i + 1 ≤ 40) :
    Calls Try.prog 29 #[.slice x.a x.n x.c, .slice t.a t.n t.c, .slice h.a h.n h.c, .int .i64 ((i : Int) + 1)] w fun e w' => e = .returned (.bool (nxE (sqL z (i + 1)) (umB hz (pkT z hz i ps) 2) (umN hz (pkT z hz i ps) 2 (i : Int)) (umS hz (pkT z hz i ps) 2) != 71)) ∧ Q w w' := by
  have hn := hx.n
  have h0 := hx.p0
  have h1 := hx.p1
  have hm := opened_any x t h ((i : Int) + 1) _ _ _ w hx.i ht hh tn (by rw [← hh.l]; exact lz) (by omega) (by omega) hx.c (by omega) (by omega)
  rw [show (i : Int) + 1 - 1 = (i : Int) by omega] at hm
  exact hm
end Go.Proofs.Ytihmlfpfpadfpaa

/-
  How an argument that is a slice of numbers is opened. Used by the statements' last steps.
-/
namespace Go.Proofs.Ytihmlfpfpadfpaa
open Go.ChangeShapes Go.WideShapes Go.ChangeAt Go.RowKit
set_option linter.unusedVariables false
set_option maxRecDepth 20000

theorem bytes3 : Try.prog.bytesOf 3 = 8 := by kernel_rfl
theorem open_nums {H : Type} {enc : TypeId × Value → H} {W : World} {a : Option Addr} {len cap : Nat} {d : DataW H} {p : List MemPlace}
    (h : DataW.Trod enc Try.prog W 0 (fun _ => true) true 71 (.slice a len cap) d p) :
    ∃ zs : List Int, zs.length = len ∧ SegN W a zs ∧ True ∧ len ≤ cap ∧ (a = none → len = 0 ∧ cap = 0) ∧ (len = 0 ∨ ∃ elems spare, d = .slice elems spare ∧ len ≤ elems.length + spare.length) := by
  obtain ⟨fuel, hf⟩ := h
  rcases open_ints Try.underlying71 Try.underlying3 cells3 hf with ⟨hcs, _⟩ | ⟨x, l, c, zs, hcs, _, hl, hm, hz, hx, hcell, hwz⟩
  · simp [Value.cells] at hcs
    obtain ⟨rfl, rfl, rfl⟩ := hcs
    exact ⟨[], rfl, fun h => absurd rfl h, trivial, Nat.le_refl _, fun _ => ⟨rfl, rfl⟩, .inl rfl⟩
  · simp [Value.cells] at hcs
    obtain ⟨rfl, rfl, rfl⟩ := hcs
    simp only [Prod.mk.injEq] at hx
    obtain ⟨rfl, _⟩ := hx
    have hz' : zs.length = cap := by simpa using hz
    refine ⟨zs.take len, by simp; omega, ?_, trivial, hl, (fun h => by cases h), .inr ⟨_, _, rfl, by simp [lits]; omega⟩⟩
    intro hne
    have hlen : 0 < len := by
      cases len with
      | zero => simp at hne
      | succ k => omega
    obtain ⟨b, off, spot⟩ := x
    have hc := hcell 0 (by omega)
    have hspot : spot = none := by simpa [Addr.add] using World.cell?_spot hc
    subst hspot
    refine ⟨b, off, rfl, fun i hi => ?_⟩
    have hi' : i < len := by have := List.length_take_le len zs; omega
    have := hcell i (by omega)
    rw [addr_add] at this
    rw [this]
    simp [hi']

theorem len_le_nums {H : Type} {ts : List TypeId} {ds : List (DataW H)} {j len : Nat} {d : DataW H} (hsz : (DataW.weightsEach Try.prog ts ds).all (· ≤ reachBytes) = true) (ht : ts[j]? = some 71) (hd : ds[j]? = some d)
    (h : len = 0 ∨ ∃ elems spare, d = .slice elems spare ∧ len ≤ elems.length + spare.length) : len * 8 ≤ 140737488351232 := by
  rcases h with rfl | ⟨elems, spare, rfl, h⟩
  · omega
  · have := sized_slice hsz (j := j) (t := 71) (e := 3) ht hd Try.underlying71
    rw [bytes3] at this
    simp only [reachBytes] at this
    omega
end Go.Proofs.Ytihmlfpfpadfpaa

/-
  Between the calls of the law of the turns. Nothing is proved of the statement here.
-/
namespace Go.Proofs.Ytihmlfpfpadfpaa
open Go.RowKit
set_option linter.unusedVariables false
set_option maxRecDepth 20000

theorem i64_and63 (n : Int) : bits .and .i64 n 63 = n % 64 := by
  have h63 : (BitVec.ofInt 64 63).toNat = 2 ^ 6 - 1 := by decide
  have key : (BitVec.ofInt 64 n &&& BitVec.ofInt 64 63).toNat = (n % ((2 ^ 64 : Nat) : Int)).toNat % 2 ^ 6 := by
    rw [BitVec.toNat_and, BitVec.toNat_ofInt, h63, Nat.and_two_pow_sub_one_eq_mod]
  show IntKind.i64.wrap ((BitVec.ofInt 64 n &&& BitVec.ofInt 64 63).toNat : Nat) = n % 64
  rw [key, IntKind.wrap_i64]
  omega
theorem i64_and1 (n : Int) : bits .and .i64 n 1 = n % 2 := by
  have h1 : (BitVec.ofInt 64 1).toNat = 2 ^ 1 - 1 := by decide
  have key : (BitVec.ofInt 64 n &&& BitVec.ofInt 64 1).toNat = (n % ((2 ^ 64 : Nat) : Int)).toNat % 2 ^ 1 := by
    rw [BitVec.toNat_and, BitVec.toNat_ofInt, h1, Nat.and_two_pow_sub_one_eq_mod]
  show IntKind.i64.wrap ((BitVec.ofInt 64 n &&& BitVec.ofInt 64 1).toNat : Nat) = n % 2
  rw [key, IntKind.wrap_i64]
  omega
/-- What stays throughout: the first header keys' block, the secret of the turn. -/
structure TBs (w : World) (g kb : Nat) (h0 t : Sv) (hz sz : List Int) (u : World) : Prop where
  q : Q w u
  bk : ∃ k0 i0, KB u kb 30 k0 i0 h0
  hh : In u h0 hz
  ti : In u t sz
  ne : kb ≠ g
  ge : w.heap.size ≤ g
theorem TBs.q' {w : World} {g kb : Nat} {h0 t : Sv} {hz sz : List Int} {u v : World} (x : TBs w g kb h0 t hz sz u) (q : Q u v) : TBs w g kb h0 t hz sz v := by
  obtain ⟨k0, i0, b⟩ := x.bk
  exact ⟨x.q.trans q, ⟨k0, i0, b.q q⟩, x.hh.q q, x.ti.q q, x.ne, x.ge⟩
theorem TBs.k' {w : World} {g kb : Nat} {h0 t h p f : Sv} {ph : Int} {hz sz : List Int} {u v : World} (x : TBs w g kb h0 t hz sz u) (o : OB u g h p f ph) (k : Keep (fun i => i = g) u v) : TBs w g kb h0 t hz sz v := by
  obtain ⟨k0, i0, b⟩ := x.bk
  exact ⟨k.below x.q x.q.size (fun i e => by have := x.ge; omega), ⟨k0, i0, (k.block kb (lt_of_block b) x.ne).trans b⟩, in_keepO x.hh o k, in_keepO x.ti o k, x.ne, x.ge⟩
theorem TBs.c2 {w : World} {g kb : Nat} {h0 t : Sv} {hz sz : List Int} {u : World} (x : TBs w g kb h0 t hz sz u) : u.cell? ⟨kb, 2, none⟩ = some (.slice h0.a h0.n h0.c) := by
  obtain ⟨k0, i0, b⟩ := x.bk
  exact b.c2
/-- The opener and the late packet ahead of a turn. -/
def TSt (g : Nat) (h : Sv) (tz hz : List Int) (i : Nat) (l : Sv) (u : World) : Prop :=
  (i = 0 ∧ l = nilS ∧ ∃ p, OpI u g h p nilS 0 hz tz none) ∨ (∃ (j : Nat) (ps : List Int) (p f : Sv) (fz : Option (List Int)) (lb lo ln lc : Nat), i = j + 1 ∧ l = ⟨some ⟨lb, lo, none⟩, ln, lc⟩ ∧ PkI u l tz hz j ps ∧ OpI u g h p f ((j : Int) % 2) hz (sqL tz j) fz)
theorem zeros_by (n : Nat) : By (List.replicate n (0 : Int)) := by
  intro y hy
  have := List.eq_of_mem_replicate hy
  omega
theorem own_zeros {w : World} {base g n : Nat} (h : w.ownsRow base 5 1 (.slice (some ⟨g, 0, none⟩) n n) n (madeCells (Value.int IntKind.u8 0).cells (n * 1)).toList) : In w ⟨some ⟨g, 0, none⟩, n, n⟩ (List.replicate n 0) := by
  rw [made_zero] at h
  have o : Own w base (some ⟨g, 0, none⟩) n n (List.replicate n 0) := h
  exact ⟨o.seg, by simp, zeros_by n⟩
theorem hd_in {w : World} {i : Nat} {cs : Array Value} {n : Nat} (hn : w.heap.size = n) (e : cs = #[.int .u8 (64 + 4 * ((i : Int) % 2)), .int .u8 9]) : In (w.alloc (.cells cs 5)) ⟨some ⟨n, 0, none⟩, 2, 2⟩ (hdT i) := by
  subst e hn
  exact ⟨seg_lit w (hdT i), rfl, hdT_by i⟩
theorem kset2 {w : World} {g t : Nat} {k i h x : Sv} (b : KB w g t k i h) : KB (w.setCell ⟨g, 2, none⟩ (.slice x.a x.n x.c)) g t k i x := by
  have := heap_setCell_same w g 2 _ t (.slice x.a x.n x.c) b
  simpa [KB] using this
/-- The turn's own packet, as the law calls Open. -/
theorem opn_i (g : Nat) (h l : Sv) (tz hz : List Int) (i mm : Nat) (lz : hz.length = 16) (hi : i ≤ 40) (W : World) (x : Sv) (w0 : World) (hs : TSt g h tz hz i l W) (hx : PkI W x tz hz i (List.replicate (4 + mm) 0)) (H : Int) (hH : H = (i : Int) - 1) :
    Calls Try.prog 26 #[.pointer (some ⟨g, 0, none⟩), .slice x.a x.n x.c, .int .i64 2, .int .i64 H] W fun e w' => ∃ (ya : Option Addr) (yc : Nat) (p p' f' : Sv) (fz : Option (List Int)), e = .returned (.tuple #[.int .i64 (i : Int), .slice ya (4 + mm) yc, .int .i64 0]) ∧ Keep (fun b => b = g) W w' ∧ (∃ f ph, OB W g h p f ph) ∧ OpI w' g h p' f' ((i : Int) % 2) hz (sqL tz i) fz ∧ (∀ j, i = j + 1 → fz = some (sqL tz j)) := by
  rcases hs with ⟨e0, -, p, ho⟩ | ⟨j, ps, p, f, fz, lb, lo, ln, lc, ej, -, -, ho⟩
  · subst e0
    have hH' : H = -1 := by omega
    subst hH'
    refine (open_first g h p x tz hz _ W ho lz hx).mono ?_
    rintro e w' ⟨ya, yc, p', f', rfl, kk, o⟩
    rw [List.length_replicate]
    exact ⟨ya, yc, p, p', f', none, rfl, kk, ⟨_, _, ho.o⟩, o, fun j hj => by omega⟩
  · subst ej
    have hH' : H = (j : Int) := by omega
    subst hH'
    refine (open_turn g h p f x tz hz j fz _ W ho lz hx hi).mono ?_
    rintro e w' ⟨ya, yc, p', f', rfl, kk, o⟩
    rw [List.length_replicate]
    refine ⟨ya, yc, p, p', f', some (sqL tz j), ?_, kk, ⟨_, _, ho.o⟩, ?_, ?_⟩
    · rw [show ((j + 1 : Nat) : Int) = (j : Int) + 1 by omega]
    · rw [show ((j + 1 : Nat) : Int) = (j : Int) + 1 by omega]; exact o
    · intro j' hj
      have e5 : j' = j := by omega
      rw [e5]
end Go.Proofs.Ytihmlfpfpadfpaa
namespace Go.Proofs.Ytihmlfpfpadfpaa.guardTurns
open Go.ChangeShapes Go.WideShapes Go.ChangeAt Go.RowKit
open Go.ChangeMaps (open_string shut_string)
set_option linter.unusedVariables false

set_option maxRecDepth 20000
set_option maxHeartbeats 8000000 in
theorem walk_no (a : Option Addr) (n c : Nat) (tz : List Int) (a2 : Option Addr) (m c2 : Nat) (w : World) (hl : tz.length = n) (hz : ∀ y ∈ tz, 0 ≤ y ∧ y < 256) (hn : n ≤ 140737488351232) (hs : Seg w a tz) (h16 : ¬ n = 16) :
    Calls Try.prog 8 #[.slice a n c, .slice a2 m c2] w fun r w' => r = .returned (.bool true) ∧ Below w.heap.size w w' := by
  have HL := hid hl
  have HS := hid hs
  have HZ := hid hz
  have HAW := hid awake_any
  have hb1 : ((n : Int) != 16) = true := by simp; omega
  have HN := hid h16
  clear hl hs hz h16
  go_enter Try.func8, Try.ntmps8
  go_wp2_with (first
    | (go_at_call 10; refine (rcopy_any a n c tz _ HL.out (by omega) HS.out).mono ?_; rintro e w1 ⟨g1, rfl, q1, o1, -⟩; have Q1 := hid q1; have O1 := hid o1; clear q1 o1)
    | (go_at_call 25; refine (newOpener_no ⟨some ⟨g1, 0, none⟩, n, n⟩ tz w1 ⟨O1.out.seg, HL.out, HZ.out⟩ HN.out).mono ?_; rintro e w2 ⟨rfl, q2⟩; have Q2 := hid (Q1.out.trans q2); clear q2)
    | (go_at_call 16; refine (HAW.out _).mono ?_; rintro e w3 ⟨rfl, q3⟩; have Q3 := hid (Q2.out.trans q3); clear q3))
  go_ret
  exact ⟨rfl, Q3.out⟩
set_option maxHeartbeats 16000000 in
theorem walk_yes (a : Option Addr) (c : Nat) (tz : List Int) (a2 : Option Addr) (m c2 : Nat) (zs : List Int) (w : World) (hl : tz.length = 16) (hz : ∀ y ∈ tz, 0 ≤ y ∧ y < 256) (hs : Seg w a tz) (hl2 : zs.length = m) (hm8 : m ≤ 140737488351232) (hs2 : SegN w a2 zs) :
    Calls Try.prog 8 #[.slice a 16 c, .slice a2 m c2] w fun r w' => r = .returned (.bool true) ∧ Below w.heap.size w w' := by
  have HL := hid hl
  have HS := hid hs
  have HZ := hid hz
  have HL2 := hid hl2
  have HS2 := hid hs2
  have HAW := hid awake_any
  have LZ := hid (show (hpL tz).length = 16 from exL_len _ _ _)
  clear hl hs hz hl2 hs2
  go_enter Try.func8, Try.ntmps8
  go_wp2_with (first
    | (go_at_call 10; refine (rcopy_any a 16 c tz _ HL.out (by omega) HS.out).mono ?_; rintro e w1 ⟨g1, rfl, q1, o1, -⟩; have Q1 := hid q1; have O1 := hid o1; clear q1 o1)
    | (go_at_call 25; refine (newOpener_ok ⟨some ⟨g1, 0, none⟩, 16, 16⟩ tz w1 ⟨O1.out.seg, HL.out, HZ.out⟩ rfl).mono ?_; rintro e w2 ⟨g, h, p, rfl, q2, b2, i2, j2, ge2⟩; have Q2 := hid (Q1.out.trans q2); have GE := hid (Nat.le_trans Q1.out.size ge2); have O2 := hid (show OpI w2 g h p nilS 0 (hpL tz) tz none from ⟨b2, i2, j2, by have h5 := j2.l; have h6 := HL.out; omega, rfl⟩); clear q2 b2 i2 j2 ge2; refine Hid.out ?_))
  refine hid ?_
  clear Q1 O1
  go_wp2_with (first
    | (go_at_call 10; refine (rcopy_any a 16 c tz _ HL.out (by omega) (HS.out.q Q2.out)).mono ?_; rintro e w3 ⟨g3, rfl, q3, o3, -⟩; have Q3 := hid (Q2.out.trans q3); have O3 := hid (O2.out.q q3); have I3 := hid o3; clear q3 o3)
    | (go_at_call 12; refine (make_16 ⟨some ⟨g3, 0, none⟩, 16, 16⟩ tz w3 ⟨I3.out.seg, HL.out, HZ.out⟩ rfl).mono ?_; rintro e w4 ⟨k0, i0, h0, rfl, q4, k4⟩; have Q4 := hid (Q3.out.trans q4); have O4 := hid (O3.out.q q4); have K4 := hid k4; clear q4 k4)
    | (refine wpList_store_row rfl 30 _ _ rfl w4.heap.size (kcells k0 i0 h0) rfl rfl 30 _ (heap_alloc_new w4 _) (kinfo30 _ _ _) rfl (kc_one _ _ _) ?_; refine Hid.out ?_))
  refine hid ?_
  generalize hw5 : World.setRow _ _ _ = w5
  have q5 : Q w4 w5 := by rw [← hw5]; exact (((Keep.refl (fun _ => False) w4).alloc _).setRow _ _ (.inr (Nat.le_refl _))).toQ (fun _ _ h => h)
  have B5 := hid (show KB w5 w4.heap.size 30 k0 i0 h0 from by rw [← hw5]; exact setRow_heap _ _ _ _ 30 _ (heap_alloc_new w4 _))
  clear hw5
  have NE := hid (show w4.heap.size ≠ g from by have h5 := lt_of_block O4.out.o; omega)
  have Q5 := hid (Q4.out.trans q5)
  have O5 := hid (O4.out.q q5)
  have H5 := hid (K4.out.h.q q5)
  clear q5 Q2 O2 Q3 O3 I3 Q4 O4 K4
  generalize w4.heap.size = kb at *
  clear w4
  go_wp2_with (go_at_call 10; refine (rcopy_any a 16 c tz _ HL.out (by omega) (HS.out.q Q5.out)).mono ?_; rintro e w6 ⟨g6, rfl, q6, o6, -⟩; have T6 := hid (show TBs w g kb h0 ⟨some ⟨g6, 0, none⟩, 16, 16⟩ (hpL tz) tz w6 from ⟨Q5.out.trans q6, ⟨k0, i0, B5.out.q q6⟩, H5.out.q q6, ⟨o6.seg, HL.out, HZ.out⟩, NE.out, GE.out⟩); have S6 := hid (show TSt g h tz (hpL tz) 0 nilS w6 from .inl ⟨rfl, rfl, p, O5.out.q q6⟩); clear q6 o6)
  clear Q5 O5 H5 B5 NE GE
  generalize hpL tz = hz at *
  go_loopw [9, 10, 55] (fun s9 s10 s55 wr => ∃ (i : Nat) (ta : Option Addr) (tc : Nat) (l : Sv), s9 = .slice ta 16 tc ∧ s10 = .slice l.a l.n l.c ∧ s55 = .int .i64 (i : Int) ∧ i ≤ m ∧ i ≤ 41 ∧ TBs w g kb h0 ⟨ta, 16, tc⟩ hz (sqL tz i) wr ∧ TSt g h tz hz i l wr) (fun _ _ s55 _ => ((m : Int) - intOf s55).toNat)
  case atStart => exact ⟨0, some ⟨g6, 0, none⟩, 16, nilS, rfl, rfl, rfl, Nat.zero_le _, by omega, T6.out, S6.out⟩
  case round =>
    obtain ⟨i, ta, tc, l, rfl, rfl, rfl, him, hi41, ht, hst⟩ := hrel
    have HT := hid ht
    have HST := hid hst
    clear ht hst T6 S6
    by_cases hlt : i < m
    · have hki : (i : Int) < (m : Int) := by omega
      have h0i : (0 : Int) ≤ (i : Int) := by omega
      obtain ⟨sb, so, hsa, hsc⟩ := HS2.out (by intro e; have h5 := HL2.out; rw [e] at h5; simp at h5; omega)
      have cs0 := hsc i (by rw [HL2.out]; exact hlt)
      have cs : wr.cell? ⟨sb, so + i, none⟩ = some (.int .i64 (zs.getD i 0)) := by rw [HT.out.q.cell (lt_of_cell cs0)]; exact cs0
      subst hsa
      clear hsc cs0
      generalize zs.getD i 0 = nn at *
      by_cases h40 : 40 < i
      · have hb1 : decide ((i : Int) > 40) = true := by simp; omega
        have hb1' : decide ((40 : Int) < (i : Int)) = true := by simp; omega
        go_wp2_with (go_at_call 16; refine (HAW.out _).mono ?_; rintro e w7 ⟨rfl, q7⟩)
        go_ret
        exact ⟨rfl, HT.out.q.trans q7⟩
      · have hb1 : decide ((i : Int) > 40) = false := by simp; omega
        have hb1' : decide ((40 : Int) < (i : Int)) = false := by simp; omega
        have HI := hid (show i ≤ 40 by omega)
        clear h40
        obtain ⟨mm, hmm, hm63⟩ : ∃ mm : Nat, bits .and .i64 nn 63 = (mm : Int) ∧ mm ≤ 63 := ⟨(nn % 64).toNat, by rw [i64_and63]; omega, by omega⟩
        have hpar := i64_and1 (i : Int)
        rcases HST.out with ⟨e0, el, P0, op0⟩ | ⟨j, ps, pp, ff, fz, lb, lo, ln, lc, ej, el, xj, oj⟩
        · have HI0 := hid e0
          have OP0 := hid op0
          have hp2 : (i : Int) % 2 = 0 := by omega
          clear op0 e0
          subst el
          clear HST
          obtain ⟨i5, hi5, hz0, hz1, hz2⟩ := info_parts info5
          have HPP := hid (show (i : Int) % 2 = 0 from hp2)
          have HPR := hid (show 64 + 4 * ((i : Int) % 2) = 64 from by omega)
          rw [hp2] at hpar
          clear hp2
          have HQS := hid (fun (u : World) (q : Q wr u) => show TSt g h tz hz i nilS u from .inl ⟨HI0.out, rfl, P0, OP0.out.q q⟩)
          have HQL := hid (fun (u v : World) (q : Q wr u) (p f : Sv) (ph : Int) (o : OB u g h p f ph) (k : Keep (fun b => b = g) u v) => trivial)
          go_wp2_with (first
            | (go_at_call 12; refine (make_16 ⟨ta, 16, tc⟩ (sqL tz i) wr HT.out.ti rfl).mono ?_; rintro e w1 ⟨k1, i1, h1, rfl, q1, k1'⟩; have T1 := hid (HT.out.q' q1); have S1 := hid (HQS.out w1 q1); have K1 := hid k1'; clear k1')
            | (refine wpList_store_row rfl 30 _ _ rfl w1.heap.size (kcells k1 i1 h1) rfl rfl 30 _ (heap_alloc_new w1 _) (kinfo30 _ _ _) rfl (kc_one _ _ _) ?_; refine Hid.out ?_))
          refine hid ?_
          generalize hw2 : World.setRow _ _ _ = w2
          have q2 : Q w1 w2 := by rw [← hw2]; exact (((Keep.refl (fun _ => False) w1).alloc _).setRow _ _ (.inr (Nat.le_refl _))).toQ (fun _ _ h => h)
          have B2 := hid (show KB w2 w1.heap.size 30 k1 i1 h1 from by rw [← hw2]; exact setRow_heap _ _ _ _ 30 _ (heap_alloc_new w1 _))
          clear hw2
          have c2 := (T1.out.q' q2).c2
          have d2 := B2.out.c2
          have fz2 : w2.frozen? ⟨w1.heap.size, 2, none⟩ = false := frozen_of_row w2 _ 2 _ 30 B2.out
          have hmb : w1.heap.size ≠ kb := by
            obtain ⟨k9, i9, b9⟩ := T1.out.bk
            have := lt_of_block b9
            omega
          go_upto_region 17 with fail
          generalize hw3 : World.setCell w2 _ _ = w3
          have B3 := hid (show KB w3 w1.heap.size 30 k1 i1 h0 from by rw [← hw3]; exact kset2 B2.out)
          have k3 : Keep (fun b => b = w1.heap.size) w2 w3 := by rw [← hw3]; exact (Keep.refl _ w2).setCell _ _ _ (.inl rfl)
          have q3 : Q w1 w3 := k3.below q2 q2.size (fun b e => by omega)
          clear hw3 k3 c2 d2 fz2 hmb
          have T3 := hid (T1.out.q' q3)
          have S3 := hid (HQS.out w3 (q1.trans q3))
          have K3 := hid (show KI w3 k1 i1 h0 (kyL (sqL tz i)) (ivL (sqL tz i)) hz from ⟨K1.out.k.q q3, K1.out.i.q q3, T3.out.hh⟩)
          have j3 : Q wr w3 := q1.trans q3
          clear q1 q2 q3 T1 S1 K1 B2
          generalize w1.heap.size = mb at *
          clear w1 w2
          go_upto_region 19 with (at_make; refine wpList_make_full _ rfl _ _ 22 rfl w3.heap.size 5 i5 (.int .u8 0) 1 Try.underlying22 hi5 hz0 hz1 .i64 .i64 _ _ (4 + mm) rfl rfl rfl rfl (by rw [hz2]; omega) (by unfold maxLen; omega) (Nat.le_refl _) ?_; intro w4 hown hgr)
          have q4 : Q w3 w4 := (Below.refl _ _).grown hgr (Nat.le_refl _) (by intro k hk; cases hk)
          have P4 := hid (own_zeros hown)
          clear hown hgr
          generalize hw5 : World.alloc w4 _ = w5
          have q5 : Q w4 w5 := by rw [← hw5]; exact (Q.refl w4).alloc _
          have D5 := hid (show In w5 ⟨some ⟨w4.heap.size, 0, none⟩, 2, 2⟩ (hdT i) from by rw [← hw5]; exact hd_in rfl (by rw [HPR.out]; rfl))
          clear hw5
          have P5 := hid (P4.out.q q5)
          have q35 : Q w3 w5 := q4.trans q5
          have T5 := hid (T3.out.q' q35)
          have S5 := hid (HQS.out w5 (j3.trans q35))
          have K5 := hid (K3.out.q q35)
          have B5 := hid (B3.out.q q35)
          have j5 : Q wr w5 := j3.trans q35
          clear q4 q5 q35 P4 T3 S3 K3 B3 j3
          generalize w4.heap.size = db at *
          generalize w3.heap.size = pb at *
          clear w3 w4
          go_wp2_with (first
            | (refine wpList_load_row rfl 30 _ rfl mb rfl 30 (kcells k1 i1 h0) (0, 0) _ B5.out Try.underlying30 rfl (kinfo30 _ _ _) ?_)
            | (go_at_call 20; refine (prot_T k1 i1 h0 ⟨some ⟨db, 0, none⟩, 2, 2⟩ ⟨some ⟨pb, 0, none⟩, 4 + mm, 4 + mm⟩ tz hz i (List.replicate (4 + mm) 0) w5 K5.out LZ.out D5.out P5.out (by rw [List.length_replicate]; omega) (by rw [List.length_replicate]; omega) HI.out).mono ?_; rintro e w6 ⟨xb, xo, xn, xc, rfl, q6, x6⟩; have T6 := hid (T5.out.q' q6); have S6 := hid (HQS.out w6 (j5.trans q6)); have X6 := hid x6; have j6 : Q wr w6 := j5.trans q6; clear q6 x6)
            | (go_at_call 26; refine (opn_i g h nilS tz hz i mm LZ.out HI.out w6 ⟨some ⟨xb, xo, none⟩, xn, xc⟩ w S6.out X6.out _ (by omega)).mono ?_; rintro e w7 ⟨ya, yc, p, p7, f7, fz7, rfl, k7, ⟨f6, ph6, o6⟩, o7, hf7⟩; have T7 := hid (T6.out.k' o6 k7); have X7 := hid (X6.out.keepO o6 k7); have O7 := hid o7; have F7 := hid hf7; clear k7 o6 o7 hf7; rw [HPP.out] at O7)
            | (go_at_call 28; refine (ophase_any g h p7 f7 0 w7 O7.out.o).mono ?_; rintro e w8 ⟨rfl, rfl⟩; refine Hid.out ?_))
          refine hid ?_
          clear T5 S5 K5 B5 D5 P5 j5 T6 S6 X6 j6
          have TA := T7
          have OA := O7
          have XA := X7
          go_wp2_with (go_at_call 14; refine (next_16 ⟨ta, 16, tc⟩ (sqL tz i) _ TA.out.ti rfl).mono ?_; rintro e w9 ⟨na, nc, rfl, q9, n9⟩; have T9 := hid (TA.out.q' q9); have O9 := hid (OA.out.q q9); have X9 := hid (XA.out.q q9); have N9 := hid n9; clear q9 n9)
          refine ⟨⟨i + 1, na, nc, ⟨some ⟨xb, xo, none⟩, xn, xc⟩, rfl, rfl, by go_num, by omega, by have := HI.out; omega, ?_, ?_⟩, by simp [intOf]; omega⟩
          · exact ⟨T9.out.q, T9.out.bk, T9.out.hh, N9.out, T9.out.ne, T9.out.ge⟩
          · exact .inr ⟨i, _, _, _, _, xb, xo, xn, xc, rfl, rfl, X9.out, by rw [HPP.out]; exact O9.out⟩
        · subst el
          have EJ := hid ej
          have XJ := hid xj
          have OJ := hid oj
          clear HST xj oj ej
          rcases (show (i : Int) % 2 = 0 ∨ (i : Int) % 2 = 1 by omega) with hp2 | hp2
          · obtain ⟨i5, hi5, hz0, hz1, hz2⟩ := info_parts info5
            have HPP := hid (show (i : Int) % 2 = 0 from hp2)
            have HPR := hid (show 64 + 4 * ((i : Int) % 2) = 64 from by omega)
            rw [hp2] at hpar
            clear hp2
            have HQS := hid (fun (u : World) (q : Q wr u) => show TSt g h tz hz i ⟨some ⟨lb, lo, none⟩, ln, lc⟩ u from .inr ⟨j, ps, pp, ff, fz, lb, lo, ln, lc, EJ.out, rfl, XJ.out.q q, OJ.out.q q⟩)
            have HQL := hid (fun (u v : World) (q : Q wr u) (p f : Sv) (ph : Int) (o : OB u g h p f ph) (k : Keep (fun b => b = g) u v) => (XJ.out.q q).keepO o k)
            go_wp2_with (first
              | (go_at_call 12; refine (make_16 ⟨ta, 16, tc⟩ (sqL tz i) wr HT.out.ti rfl).mono ?_; rintro e w1 ⟨k1, i1, h1, rfl, q1, k1'⟩; have T1 := hid (HT.out.q' q1); have S1 := hid (HQS.out w1 q1); have K1 := hid k1'; clear k1')
              | (refine wpList_store_row rfl 30 _ _ rfl w1.heap.size (kcells k1 i1 h1) rfl rfl 30 _ (heap_alloc_new w1 _) (kinfo30 _ _ _) rfl (kc_one _ _ _) ?_; refine Hid.out ?_))
            refine hid ?_
            generalize hw2 : World.setRow _ _ _ = w2
            have q2 : Q w1 w2 := by rw [← hw2]; exact (((Keep.refl (fun _ => False) w1).alloc _).setRow _ _ (.inr (Nat.le_refl _))).toQ (fun _ _ h => h)
            have B2 := hid (show KB w2 w1.heap.size 30 k1 i1 h1 from by rw [← hw2]; exact setRow_heap _ _ _ _ 30 _ (heap_alloc_new w1 _))
            clear hw2
            have c2 := (T1.out.q' q2).c2
            have d2 := B2.out.c2
            have fz2 : w2.frozen? ⟨w1.heap.size, 2, none⟩ = false := frozen_of_row w2 _ 2 _ 30 B2.out
            have hmb : w1.heap.size ≠ kb := by
              obtain ⟨k9, i9, b9⟩ := T1.out.bk
              have := lt_of_block b9
              omega
            go_upto_region 17 with fail
            generalize hw3 : World.setCell w2 _ _ = w3
            have B3 := hid (show KB w3 w1.heap.size 30 k1 i1 h0 from by rw [← hw3]; exact kset2 B2.out)
            have k3 : Keep (fun b => b = w1.heap.size) w2 w3 := by rw [← hw3]; exact (Keep.refl _ w2).setCell _ _ _ (.inl rfl)
            have q3 : Q w1 w3 := k3.below q2 q2.size (fun b e => by omega)
            clear hw3 k3 c2 d2 fz2 hmb
            have T3 := hid (T1.out.q' q3)
            have S3 := hid (HQS.out w3 (q1.trans q3))
            have K3 := hid (show KI w3 k1 i1 h0 (kyL (sqL tz i)) (ivL (sqL tz i)) hz from ⟨K1.out.k.q q3, K1.out.i.q q3, T3.out.hh⟩)
            have j3 : Q wr w3 := q1.trans q3
            clear q1 q2 q3 T1 S1 K1 B2
            generalize w1.heap.size = mb at *
            clear w1 w2
            go_upto_region 19 with (at_make; refine wpList_make_full _ rfl _ _ 22 rfl w3.heap.size 5 i5 (.int .u8 0) 1 Try.underlying22 hi5 hz0 hz1 .i64 .i64 _ _ (4 + mm) rfl rfl rfl rfl (by rw [hz2]; omega) (by unfold maxLen; omega) (Nat.le_refl _) ?_; intro w4 hown hgr)
            have q4 : Q w3 w4 := (Below.refl _ _).grown hgr (Nat.le_refl _) (by intro k hk; cases hk)
            have P4 := hid (own_zeros hown)
            clear hown hgr
            generalize hw5 : World.alloc w4 _ = w5
            have q5 : Q w4 w5 := by rw [← hw5]; exact (Q.refl w4).alloc _
            have D5 := hid (show In w5 ⟨some ⟨w4.heap.size, 0, none⟩, 2, 2⟩ (hdT i) from by rw [← hw5]; exact hd_in rfl (by rw [HPR.out]; rfl))
            clear hw5
            have P5 := hid (P4.out.q q5)
            have q35 : Q w3 w5 := q4.trans q5
            have T5 := hid (T3.out.q' q35)
            have S5 := hid (HQS.out w5 (j3.trans q35))
            have K5 := hid (K3.out.q q35)
            have B5 := hid (B3.out.q q35)
            have j5 : Q wr w5 := j3.trans q35
            clear q4 q5 q35 P4 T3 S3 K3 B3 j3
            generalize w4.heap.size = db at *
            generalize w3.heap.size = pb at *
            clear w3 w4
            go_wp2_with (first
              | (refine wpList_load_row rfl 30 _ rfl mb rfl 30 (kcells k1 i1 h0) (0, 0) _ B5.out Try.underlying30 rfl (kinfo30 _ _ _) ?_)
              | (go_at_call 20; refine (prot_T k1 i1 h0 ⟨some ⟨db, 0, none⟩, 2, 2⟩ ⟨some ⟨pb, 0, none⟩, 4 + mm, 4 + mm⟩ tz hz i (List.replicate (4 + mm) 0) w5 K5.out LZ.out D5.out P5.out (by rw [List.length_replicate]; omega) (by rw [List.length_replicate]; omega) HI.out).mono ?_; rintro e w6 ⟨xb, xo, xn, xc, rfl, q6, x6⟩; have T6 := hid (T5.out.q' q6); have S6 := hid (HQS.out w6 (j5.trans q6)); have X6 := hid x6; have j6 : Q wr w6 := j5.trans q6; clear q6 x6)
              | (go_at_call 26; refine (opn_i g h ⟨some ⟨lb, lo, none⟩, ln, lc⟩ tz hz i mm LZ.out HI.out w6 ⟨some ⟨xb, xo, none⟩, xn, xc⟩ w S6.out X6.out _ (by omega)).mono ?_; rintro e w7 ⟨ya, yc, p, p7, f7, fz7, rfl, k7, ⟨f6, ph6, o6⟩, o7, hf7⟩; have T7 := hid (T6.out.k' o6 k7); have X7 := hid (X6.out.keepO o6 k7); have O7 := hid o7; have F7 := hid hf7; have L7 := hid (HQL.out w6 w7 j6 p f6 ph6 o6 k7); clear k7 o6 o7 hf7; rw [HPP.out] at O7)
              | (go_at_call 28; refine (ophase_any g h p7 f7 0 w7 O7.out.o).mono ?_; rintro e w8 ⟨rfl, rfl⟩; refine Hid.out ?_))
            refine hid ?_
            clear T5 S5 K5 B5 D5 P5 j5 T6 S6 X6 j6
            have hF := F7.out j EJ.out
            rw [hF] at O7
            cases hb : (nxE (sqL tz (j + 1)) (umB hz (pkT tz hz j ps) 2) (umN hz (pkT tz hz j ps) 2 (j : Int)) (umS hz (pkT tz hz j ps) 2) != 71) with
            | true =>
              have HC29 := hid (fun (u : World) (q : Q w7 u) (I : Int) (hI : I = (j : Int) + 1) => show Calls Try.prog 29 #[.slice (some ⟨lb, lo, none⟩) ln lc, .slice ta 16 tc, .slice h0.a h0.n h0.c, .int .i64 I] u fun e w' => e = .returned (.bool true) ∧ Q u w' from by
                subst hI
                have h5 := late_29 ⟨some ⟨lb, lo, none⟩, ln, lc⟩ ⟨ta, 16, tc⟩ h0 tz hz j ps u (L7.out.q q) (by have h6 := (T7.out.q' q).ti; rw [EJ.out] at h6; exact h6) (T7.out.q' q).hh rfl LZ.out (by have := HI.out; have := EJ.out; omega)
                rw [hb] at h5
                exact h5)
              have c2 := T7.out.c2
              go_wp2_with (go_at_call 29; refine (HC29.out _ (Q.refl _) _ (by have := EJ.out; omega)).mono ?_; rintro e wA ⟨rfl, qA⟩; have TA := hid (T7.out.q' qA); have OA := hid (O7.out.q qA); have XA := hid (X7.out.q qA); clear qA; refine Hid.out ?_)
              refine hid ?_
              clear c2
              go_wp2_with (go_at_call 14; refine (next_16 ⟨ta, 16, tc⟩ (sqL tz i) _ TA.out.ti rfl).mono ?_; rintro e w9 ⟨na, nc, rfl, q9, n9⟩; have T9 := hid (TA.out.q' q9); have O9 := hid (OA.out.q q9); have X9 := hid (XA.out.q q9); have N9 := hid n9; clear q9 n9)
              refine ⟨⟨i + 1, na, nc, ⟨some ⟨xb, xo, none⟩, xn, xc⟩, rfl, rfl, by go_num, by omega, by have := HI.out; omega, ?_, ?_⟩, by simp [intOf]; omega⟩
              · exact ⟨T9.out.q, T9.out.bk, T9.out.hh, N9.out, T9.out.ne, T9.out.ge⟩
              · exact .inr ⟨i, _, _, _, _, xb, xo, xn, xc, rfl, rfl, X9.out, by rw [HPP.out]; exact O9.out⟩
            | false =>
              have HC29 := hid (fun (u : World) (q : Q w7 u) (I : Int) (hI : I = (j : Int) + 1) => show Calls Try.prog 29 #[.slice (some ⟨lb, lo, none⟩) ln lc, .slice ta 16 tc, .slice h0.a h0.n h0.c, .int .i64 I] u fun e w' => e = .returned (.bool false) ∧ Q u w' from by
                subst hI
                have h5 := late_29 ⟨some ⟨lb, lo, none⟩, ln, lc⟩ ⟨ta, 16, tc⟩ h0 tz hz j ps u (L7.out.q q) (by have h6 := (T7.out.q' q).ti; rw [EJ.out] at h6; exact h6) (T7.out.q' q).hh rfl LZ.out (by have := HI.out; have := EJ.out; omega)
                rw [hb] at h5
                exact h5)
              have h71 : nxE (sqL tz (j + 1)) (umB hz (pkT tz hz j ps) 2) (umN hz (pkT tz hz j ps) 2 (j : Int)) (umS hz (pkT tz hz j ps) 2) = 71 := by simpa using hb
              have HCL := hid (fun (u : World) (q : Q w7 u) (I : Int) (hI : I = (j : Int)) => show Calls Try.prog 26 #[.pointer (some ⟨g, 0, none⟩), .slice (some ⟨lb, lo, none⟩) ln lc, .int .i64 2, .int .i64 I] u fun e w' => ∃ (y p' f' : Sv), e = .returned (.tuple #[.int .i64 ((i : Int) - 1), .slice y.a y.n y.c, .int .i64 0]) ∧ Keep (fun b => b = g) u w' ∧ OpI w' g h p' f' 0 hz (sqL tz i) (some (sqL tz j)) from by
                subst hI
                have eij := EJ.out
                have hpp := HPP.out
                refine (open_late g h p7 f7 ⟨some ⟨lb, lo, none⟩, ln, lc⟩ tz hz j ps u (by have h6 := O7.out.q q; rw [eij] at h6; rw [show ((j : Int) + 1) % 2 = 0 by omega]; exact h6) LZ.out (L7.out.q q) (by have := HI.out; omega) h71).mono ?_
                rintro e w' ⟨y, p', f', rfl, kk, o⟩
                rw [show ((j : Int) + 1) % 2 = 0 by omega] at o
                rw [eij]
                exact ⟨y, p', f', by rw [show ((j + 1 : Nat) : Int) - 1 = (j : Int) by omega], kk, o⟩)
              have c2 := T7.out.c2
              go_wp2_with (first
                | (go_at_call 29; refine (HC29.out _ (Q.refl _) _ (by have := EJ.out; omega)).mono ?_; rintro e wA ⟨rfl, qA⟩; have TA' := hid (T7.out.q' qA); have OA' := hid (O7.out.q qA); have XA' := hid (X7.out.q qA))
                | (go_at_call 26; refine (HCL.out _ qA _ (by have := EJ.out; omega)).mono ?_; rintro e wB ⟨yB, pB, fB, rfl, kB', oB⟩; have TA := hid (TA'.out.k' OA'.out.o kB'); have OA := hid oB; have XA := hid (XA'.out.keepO OA'.out.o kB'); clear kB' oB)
                | (go_at_call 28; refine (ophase_any g h pB fB 0 wB OA.out.o).mono ?_; rintro e wC ⟨rfl, rfl⟩; refine Hid.out ?_))
              refine hid ?_
              clear c2
              go_wp2_with (go_at_call 14; refine (next_16 ⟨ta, 16, tc⟩ (sqL tz i) _ TA.out.ti rfl).mono ?_; rintro e w9 ⟨na, nc, rfl, q9, n9⟩; have T9 := hid (TA.out.q' q9); have O9 := hid (OA.out.q q9); have X9 := hid (XA.out.q q9); have N9 := hid n9; clear q9 n9)
              refine ⟨⟨i + 1, na, nc, ⟨some ⟨xb, xo, none⟩, xn, xc⟩, rfl, rfl, by go_num, by omega, by have := HI.out; omega, ?_, ?_⟩, by simp [intOf]; omega⟩
              · exact ⟨T9.out.q, T9.out.bk, T9.out.hh, N9.out, T9.out.ne, T9.out.ge⟩
              · exact .inr ⟨i, _, _, _, _, xb, xo, xn, xc, rfl, rfl, X9.out, by rw [HPP.out]; exact O9.out⟩
          · obtain ⟨i5, hi5, hz0, hz1, hz2⟩ := info_parts info5
            have HPP := hid (show (i : Int) % 2 = 1 from hp2)
            have HPR := hid (show 64 + 4 * ((i : Int) % 2) = 68 from by omega)
            rw [hp2] at hpar
            clear hp2
            have HQS := hid (fun (u : World) (q : Q wr u) => show TSt g h tz hz i ⟨some ⟨lb, lo, none⟩, ln, lc⟩ u from .inr ⟨j, ps, pp, ff, fz, lb, lo, ln, lc, EJ.out, rfl, XJ.out.q q, OJ.out.q q⟩)
            have HQL := hid (fun (u v : World) (q : Q wr u) (p f : Sv) (ph : Int) (o : OB u g h p f ph) (k : Keep (fun b => b = g) u v) => (XJ.out.q q).keepO o k)
            go_wp2_with (first
              | (go_at_call 12; refine (make_16 ⟨ta, 16, tc⟩ (sqL tz i) wr HT.out.ti rfl).mono ?_; rintro e w1 ⟨k1, i1, h1, rfl, q1, k1'⟩; have T1 := hid (HT.out.q' q1); have S1 := hid (HQS.out w1 q1); have K1 := hid k1'; clear k1')
              | (refine wpList_store_row rfl 30 _ _ rfl w1.heap.size (kcells k1 i1 h1) rfl rfl 30 _ (heap_alloc_new w1 _) (kinfo30 _ _ _) rfl (kc_one _ _ _) ?_; refine Hid.out ?_))
            refine hid ?_
            generalize hw2 : World.setRow _ _ _ = w2
            have q2 : Q w1 w2 := by rw [← hw2]; exact (((Keep.refl (fun _ => False) w1).alloc _).setRow _ _ (.inr (Nat.le_refl _))).toQ (fun _ _ h => h)
            have B2 := hid (show KB w2 w1.heap.size 30 k1 i1 h1 from by rw [← hw2]; exact setRow_heap _ _ _ _ 30 _ (heap_alloc_new w1 _))
            clear hw2
            have c2 := (T1.out.q' q2).c2
            have d2 := B2.out.c2
            have fz2 : w2.frozen? ⟨w1.heap.size, 2, none⟩ = false := frozen_of_row w2 _ 2 _ 30 B2.out
            have hmb : w1.heap.size ≠ kb := by
              obtain ⟨k9, i9, b9⟩ := T1.out.bk
              have := lt_of_block b9
              omega
            go_upto_region 17 with fail
            generalize hw3 : World.setCell w2 _ _ = w3
            have B3 := hid (show KB w3 w1.heap.size 30 k1 i1 h0 from by rw [← hw3]; exact kset2 B2.out)
            have k3 : Keep (fun b => b = w1.heap.size) w2 w3 := by rw [← hw3]; exact (Keep.refl _ w2).setCell _ _ _ (.inl rfl)
            have q3 : Q w1 w3 := k3.below q2 q2.size (fun b e => by omega)
            clear hw3 k3 c2 d2 fz2 hmb
            have T3 := hid (T1.out.q' q3)
            have S3 := hid (HQS.out w3 (q1.trans q3))
            have K3 := hid (show KI w3 k1 i1 h0 (kyL (sqL tz i)) (ivL (sqL tz i)) hz from ⟨K1.out.k.q q3, K1.out.i.q q3, T3.out.hh⟩)
            have j3 : Q wr w3 := q1.trans q3
            clear q1 q2 q3 T1 S1 K1 B2
            generalize w1.heap.size = mb at *
            clear w1 w2
            go_upto_region 19 with (at_make; refine wpList_make_full _ rfl _ _ 22 rfl w3.heap.size 5 i5 (.int .u8 0) 1 Try.underlying22 hi5 hz0 hz1 .i64 .i64 _ _ (4 + mm) rfl rfl rfl rfl (by rw [hz2]; omega) (by unfold maxLen; omega) (Nat.le_refl _) ?_; intro w4 hown hgr)
            have q4 : Q w3 w4 := (Below.refl _ _).grown hgr (Nat.le_refl _) (by intro k hk; cases hk)
            have P4 := hid (own_zeros hown)
            clear hown hgr
            generalize hw5 : World.alloc w4 _ = w5
            have q5 : Q w4 w5 := by rw [← hw5]; exact (Q.refl w4).alloc _
            have D5 := hid (show In w5 ⟨some ⟨w4.heap.size, 0, none⟩, 2, 2⟩ (hdT i) from by rw [← hw5]; exact hd_in rfl (by rw [HPR.out]; rfl))
            clear hw5
            have P5 := hid (P4.out.q q5)
            have q35 : Q w3 w5 := q4.trans q5
            have T5 := hid (T3.out.q' q35)
            have S5 := hid (HQS.out w5 (j3.trans q35))
            have K5 := hid (K3.out.q q35)
            have B5 := hid (B3.out.q q35)
            have j5 : Q wr w5 := j3.trans q35
            clear q4 q5 q35 P4 T3 S3 K3 B3 j3
            generalize w4.heap.size = db at *
            generalize w3.heap.size = pb at *
            clear w3 w4
            go_wp2_with (first
              | (refine wpList_load_row rfl 30 _ rfl mb rfl 30 (kcells k1 i1 h0) (0, 0) _ B5.out Try.underlying30 rfl (kinfo30 _ _ _) ?_)
              | (go_at_call 20; refine (prot_T k1 i1 h0 ⟨some ⟨db, 0, none⟩, 2, 2⟩ ⟨some ⟨pb, 0, none⟩, 4 + mm, 4 + mm⟩ tz hz i (List.replicate (4 + mm) 0) w5 K5.out LZ.out D5.out P5.out (by rw [List.length_replicate]; omega) (by rw [List.length_replicate]; omega) HI.out).mono ?_; rintro e w6 ⟨xb, xo, xn, xc, rfl, q6, x6⟩; have T6 := hid (T5.out.q' q6); have S6 := hid (HQS.out w6 (j5.trans q6)); have X6 := hid x6; have j6 : Q wr w6 := j5.trans q6; clear q6 x6)
              | (go_at_call 26; refine (opn_i g h ⟨some ⟨lb, lo, none⟩, ln, lc⟩ tz hz i mm LZ.out HI.out w6 ⟨some ⟨xb, xo, none⟩, xn, xc⟩ w S6.out X6.out _ (by omega)).mono ?_; rintro e w7 ⟨ya, yc, p, p7, f7, fz7, rfl, k7, ⟨f6, ph6, o6⟩, o7, hf7⟩; have T7 := hid (T6.out.k' o6 k7); have X7 := hid (X6.out.keepO o6 k7); have O7 := hid o7; have F7 := hid hf7; have L7 := hid (HQL.out w6 w7 j6 p f6 ph6 o6 k7); clear k7 o6 o7 hf7; rw [HPP.out] at O7)
              | (go_at_call 28; refine (ophase_any g h p7 f7 1 w7 O7.out.o).mono ?_; rintro e w8 ⟨rfl, rfl⟩; refine Hid.out ?_))
            refine hid ?_
            clear T5 S5 K5 B5 D5 P5 j5 T6 S6 X6 j6
            have hF := F7.out j EJ.out
            rw [hF] at O7
            cases hb : (nxE (sqL tz (j + 1)) (umB hz (pkT tz hz j ps) 2) (umN hz (pkT tz hz j ps) 2 (j : Int)) (umS hz (pkT tz hz j ps) 2) != 71) with
            | true =>
              have HC29 := hid (fun (u : World) (q : Q w7 u) (I : Int) (hI : I = (j : Int) + 1) => show Calls Try.prog 29 #[.slice (some ⟨lb, lo, none⟩) ln lc, .slice ta 16 tc, .slice h0.a h0.n h0.c, .int .i64 I] u fun e w' => e = .returned (.bool true) ∧ Q u w' from by
                subst hI
                have h5 := late_29 ⟨some ⟨lb, lo, none⟩, ln, lc⟩ ⟨ta, 16, tc⟩ h0 tz hz j ps u (L7.out.q q) (by have h6 := (T7.out.q' q).ti; rw [EJ.out] at h6; exact h6) (T7.out.q' q).hh rfl LZ.out (by have := HI.out; have := EJ.out; omega)
                rw [hb] at h5
                exact h5)
              have c2 := T7.out.c2
              go_wp2_with (go_at_call 29; refine (HC29.out _ (Q.refl _) _ (by have := EJ.out; omega)).mono ?_; rintro e wA ⟨rfl, qA⟩; have TA := hid (T7.out.q' qA); have OA := hid (O7.out.q qA); have XA := hid (X7.out.q qA); clear qA; refine Hid.out ?_)
              refine hid ?_
              clear c2
              go_wp2_with (go_at_call 14; refine (next_16 ⟨ta, 16, tc⟩ (sqL tz i) _ TA.out.ti rfl).mono ?_; rintro e w9 ⟨na, nc, rfl, q9, n9⟩; have T9 := hid (TA.out.q' q9); have O9 := hid (OA.out.q q9); have X9 := hid (XA.out.q q9); have N9 := hid n9; clear q9 n9)
              refine ⟨⟨i + 1, na, nc, ⟨some ⟨xb, xo, none⟩, xn, xc⟩, rfl, rfl, by go_num, by omega, by have := HI.out; omega, ?_, ?_⟩, by simp [intOf]; omega⟩
              · exact ⟨T9.out.q, T9.out.bk, T9.out.hh, N9.out, T9.out.ne, T9.out.ge⟩
              · exact .inr ⟨i, _, _, _, _, xb, xo, xn, xc, rfl, rfl, X9.out, by rw [HPP.out]; exact O9.out⟩
            | false =>
              have HC29 := hid (fun (u : World) (q : Q w7 u) (I : Int) (hI : I = (j : Int) + 1) => show Calls Try.prog 29 #[.slice (some ⟨lb, lo, none⟩) ln lc, .slice ta 16 tc, .slice h0.a h0.n h0.c, .int .i64 I] u fun e w' => e = .returned (.bool false) ∧ Q u w' from by
                subst hI
                have h5 := late_29 ⟨some ⟨lb, lo, none⟩, ln, lc⟩ ⟨ta, 16, tc⟩ h0 tz hz j ps u (L7.out.q q) (by have h6 := (T7.out.q' q).ti; rw [EJ.out] at h6; exact h6) (T7.out.q' q).hh rfl LZ.out (by have := HI.out; have := EJ.out; omega)
                rw [hb] at h5
                exact h5)
              have h71 : nxE (sqL tz (j + 1)) (umB hz (pkT tz hz j ps) 2) (umN hz (pkT tz hz j ps) 2 (j : Int)) (umS hz (pkT tz hz j ps) 2) = 71 := by simpa using hb
              have HCL := hid (fun (u : World) (q : Q w7 u) (I : Int) (hI : I = (j : Int)) => show Calls Try.prog 26 #[.pointer (some ⟨g, 0, none⟩), .slice (some ⟨lb, lo, none⟩) ln lc, .int .i64 2, .int .i64 I] u fun e w' => ∃ (y p' f' : Sv), e = .returned (.tuple #[.int .i64 ((i : Int) - 1), .slice y.a y.n y.c, .int .i64 0]) ∧ Keep (fun b => b = g) u w' ∧ OpI w' g h p' f' 1 hz (sqL tz i) (some (sqL tz j)) from by
                subst hI
                have eij := EJ.out
                have hpp := HPP.out
                refine (open_late g h p7 f7 ⟨some ⟨lb, lo, none⟩, ln, lc⟩ tz hz j ps u (by have h6 := O7.out.q q; rw [eij] at h6; rw [show ((j : Int) + 1) % 2 = 1 by omega]; exact h6) LZ.out (L7.out.q q) (by have := HI.out; omega) h71).mono ?_
                rintro e w' ⟨y, p', f', rfl, kk, o⟩
                rw [show ((j : Int) + 1) % 2 = 1 by omega] at o
                rw [eij]
                exact ⟨y, p', f', by rw [show ((j + 1 : Nat) : Int) - 1 = (j : Int) by omega], kk, o⟩)
              have c2 := T7.out.c2
              go_wp2_with (first
                | (go_at_call 29; refine (HC29.out _ (Q.refl _) _ (by have := EJ.out; omega)).mono ?_; rintro e wA ⟨rfl, qA⟩; have TA' := hid (T7.out.q' qA); have OA' := hid (O7.out.q qA); have XA' := hid (X7.out.q qA))
                | (go_at_call 26; refine (HCL.out _ qA _ (by have := EJ.out; omega)).mono ?_; rintro e wB ⟨yB, pB, fB, rfl, kB', oB⟩; have TA := hid (TA'.out.k' OA'.out.o kB'); have OA := hid oB; have XA := hid (XA'.out.keepO OA'.out.o kB'); clear kB' oB)
                | (go_at_call 28; refine (ophase_any g h pB fB 1 wB OA.out.o).mono ?_; rintro e wC ⟨rfl, rfl⟩; refine Hid.out ?_))
              refine hid ?_
              clear c2
              go_wp2_with (go_at_call 14; refine (next_16 ⟨ta, 16, tc⟩ (sqL tz i) _ TA.out.ti rfl).mono ?_; rintro e w9 ⟨na, nc, rfl, q9, n9⟩; have T9 := hid (TA.out.q' q9); have O9 := hid (OA.out.q q9); have X9 := hid (XA.out.q q9); have N9 := hid n9; clear q9 n9)
              refine ⟨⟨i + 1, na, nc, ⟨some ⟨xb, xo, none⟩, xn, xc⟩, rfl, rfl, by go_num, by omega, by have := HI.out; omega, ?_, ?_⟩, by simp [intOf]; omega⟩
              · exact ⟨T9.out.q, T9.out.bk, T9.out.hh, N9.out, T9.out.ne, T9.out.ge⟩
              · exact .inr ⟨i, _, _, _, _, xb, xo, xn, xc, rfl, rfl, X9.out, by rw [HPP.out]; exact O9.out⟩
    · have hk : i = m := by omega
      have hki : ¬ (i : Int) < (m : Int) := by omega
      go_wp2_with (go_at_call 16; refine (HAW.out _).mono ?_; rintro e w7 ⟨rfl, q7⟩)
      go_ret
      exact ⟨rfl, HT.out.q.trans q7⟩
theorem walk (a : Option Addr) (n c : Nat) (tz : List Int) (a2 : Option Addr) (m c2 : Nat) (zs : List Int) (w : World) (hl : tz.length = n) (hz : ∀ y ∈ tz, 0 ≤ y ∧ y < 256) (hn : n ≤ 140737488351232) (hs : Seg w a tz) (hl2 : zs.length = m) (hm8 : m ≤ 140737488351232) (hs2 : SegN w a2 zs) :
    Calls Try.prog 8 #[.slice a n c, .slice a2 m c2] w fun r w' => r = .returned (.bool true) ∧ Below w.heap.size w w' := by
  by_cases h16 : n = 16
  · subst h16
    exact walk_yes a c tz a2 m c2 zs w hl hz hs hl2 hm8 hs2
  · exact walk_no a n c tz a2 m c2 w hl hz hn hs h16

set_option maxRecDepth 100000 in
theorem lifted (os : Os) (started : os.Started) (H : Type) (enc : TypeId × Value → H) :
    ReturnsInHanded {} Try.checked os 8 .any (Rows.guardTurnsSpec.pre6 enc Try.prog Try.f8 Rows.guardTurnsRow.domain false) (Rows.guardTurnsSpec.post enc Try.prog Try.f8 false true false false) := by
  refine returnsInHanded_of_change_sized (C := Try.checked) own_knob started (by kernel_rfl) Try.func8
    (ChangeSpec.witness6 (enc := enc) (C := Try.checked) false ⟨#[], #[.slice none 0 0, .slice none 0 0], []⟩ 8 (by kernel_rfl) (by kernel_rfl) (by kernel_rfl) (by kernel_rfl)) ?_
  intro W base args ds gs before hval0 hW hcnd hsz0 _
  have hval : ∀ (j : Nat) t v, Try.f8.params[j]? = some t → args[j]? = some v → Value.okWide Try.prog W .any base t v := hval0
  have hsz : (DataW.weightsEach Try.prog (Try.f8.params.toList ++ Rows.guardTurnsSpec.plain.varTypes Try.prog) (ds ++ gs)).all (· ≤ reachBytes) = true := hsz0
  have hW' := hW
  obtain ⟨p, q, hA0, hV, rfl, hfz, hnd⟩ := hW
  have hA : DataW.TrodAll enc Try.prog W 0 (fun _ => true) true Try.f8.params.toList args.toList ds p := hA0
  rw [Try.params8] at hA hval hsz
  obtain ⟨v0, vs0, d0, ds0, p0, q0, hargs, rfl, rfl, h0, r0⟩ := trodAll_cons hA
  obtain ⟨v1, vs1, d1, ds1, p1, q1, rfl, rfl, rfl, h1, r1⟩ := trodAll_cons r0
  obtain ⟨rfl, rfl, rfl⟩ := trodAll_nil r1
  obtain rfl : args = #[v0, v1] := by cases args; simp_all
  obtain ⟨rfl, rfl⟩ := trodVars_none hV
  obtain ⟨a0, len0, cap0, rfl⟩ := okWide_slice Try.underlying22 (hval 0 22 v0 rfl rfl)
  have k0 := h0
  have lt0 : ∀ x ∈ p0, x.block < W.heap.size := by obtain ⟨m, hm⟩ := k0; exact DataW.trod_lt m _ _ _ hm
  obtain ⟨z0, zl0, zs0, zb0, zc0, ze0, zd0⟩ := open_bytes h0
  have zn0 := len_le_bytes hsz (j := 0) rfl rfl zd0
  obtain ⟨a1, len1, cap1, rfl⟩ := okWide_slice Try.underlying71 (hval 1 71 v1 rfl rfl)
  have k1 := h1
  have lt1 : ∀ x ∈ p1, x.block < W.heap.size := by obtain ⟨m, hm⟩ := k1; exact DataW.trod_lt m _ _ _ hm
  obtain ⟨z1, zl1, zs1, zb1, zc1, ze1, zd1⟩ := open_nums h1
  have zn1 := len_le_nums hsz (j := 1) rfl rfl zd1
  clear hA0 hval0
  refine (walk a0 len0 cap0 z0 a1 len1 cap1 z1 W zl0 zb0 (by omega) zs0 zl1 (by omega) zs1).mono fun e W' ⟨he, bel⟩ => ?_
  subst he
  exact ⟨_, rfl, _, _, _, [], _, [], hW', trodAll_mk1 (shut_bool Try.underlying4 _), (trodAll_cons_mk (Below.trod laid_out (by kernel_rfl) (of_decide_eq_true (by kernel_rfl)) k0 bel lt0) (trodAll_cons_mk (Below.trod laid_out (by kernel_rfl) (of_decide_eq_true (by kernel_rfl)) k1 bel lt1) trodAll_mk0)), rfl, bel.frame _, fun h => by cases h⟩

theorem over : Rows.guardTurnsRow.holds Try.pinned (OpenSpec.ofChange Rows.guardTurnsSpec) :=
  OpenClaim.holds_of_wide 8 Try.f8 rfl rfl rfl rfl rfl rfl rfl ⟨rfl, rfl, rfl, rfl, rfl⟩ rfl rfl rfl rfl rfl (by kernel_rfl) Try.func8 (by kernel_rfl)
    (of_decide_eq_true (by kernel_rfl)) (by unfold Func.isWrapper; first | (rw [if_pos (by decide +kernel)]; kernel_rfl) | (rw [if_neg (by decide +kernel)]; exact ⟨rfl, rfl⟩))
    (fun os started H enc _ => lifted os started H enc)

end Go.Proofs.Ytihmlfpfpadfpaa.guardTurns
namespace Go.Proofs.Ytihmlfpfpadfpaa

/-- The statement. -/
theorem guardTurns_holds : Rows.GuardTurnsSaid := guardTurns.over
#print axioms guardTurns_holds
end Go.Proofs.Ytihmlfpfpadfpaa
