/-
  What the document's own tag does: a contract that the statements' walks use.
-/
import Derived.Test.YtihmlfpfpadfpaaRTxt
namespace Go.Proofs.Ytihmlfpfpadfpaa
open Go.RowKit
set_option linter.unusedVariables false
set_option maxRecDepth 20000

theorem in_byte (w : World) (x : Int) (h0 : 0 ≤ x) (h1 : x < 256) : In (w.alloc (.cells #[.int .u8 x] 5)) ⟨some ⟨w.heap.size, 0, none⟩, 1, 1⟩ [x] := ⟨seg_lit1 w x, rfl, one_byte x h0 h1⟩
theorem in6 {w : World} {x0 x1 x2 x3 x4 x5 : Sv} {z0 z1 z2 z3 z4 z5 : List Int} (h0 : In w x0 z0) (h1 : In w x1 z1) (h2 : In w x2 z2) (h3 : In w x3 z3) (h4 : In w x4 z4) (h5 : In w x5 z5) : ∀ j, j < [x0, x1, x2, x3, x4, x5].length → In w ([x0, x1, x2, x3, x4, x5].getD j nilS) ([z0, z1, z2, z3, z4, z5].getD j []) := by
  intro j hj
  rcases (show j = 0 ∨ j = 1 ∨ j = 2 ∨ j = 3 ∨ j = 4 ∨ j = 5 by simp at hj; omega) with rfl | rfl | rfl | rfl | rfl | rfl
  · exact h0
  · exact h1
  · exact h2
  · exact h3
  · exact h4
  · exact h5
theorem in4 {w : World} {x0 x1 x2 x3 : Sv} {z0 z1 z2 z3 : List Int} (h0 : In w x0 z0) (h1 : In w x1 z1) (h2 : In w x2 z2) (h3 : In w x3 z3) : ∀ j, j < [x0, x1, x2, x3].length → In w ([x0, x1, x2, x3].getD j nilS) ([z0, z1, z2, z3].getD j []) := by
  intro j hj
  rcases (show j = 0 ∨ j = 1 ∨ j = 2 ∨ j = 3 by simp at hj; omega) with rfl | rfl | rfl | rfl
  · exact h0
  · exact h1
  · exact h2
  · exact h3
set_option maxHeartbeats 4000000 in
theorem rtag_any (k n ad c : Sv) (ks ns az cs : List Int) (w : World) (hk : In w k ks) (hn : In w n ns) (ha : In w ad az) (hc : In w c cs) (bk : k.n ≤ 255) (bn : n.n ≤ 255) (ba : ad.n ≤ 16384) (bc : c.n ≤ 16384) :
    Calls Try.prog 74 #[.slice k.a k.n k.c, .slice n.a n.n n.c, .slice ad.a ad.n ad.c, .slice c.a c.n c.c] w fun e w' => ∃ g, e = .returned (.slice (some ⟨g, 0, none⟩) 16 16) ∧ Q w w' ∧ Row w' ⟨some ⟨g, 0, none⟩, 16, 16⟩ (tagL ks ns az cs) := by
  obtain ⟨ka, kn, kc⟩ := k
  obtain ⟨na, nn, nc⟩ := n
  obtain ⟨aa, an, ac⟩ := ad
  obtain ⟨ca, cn, cc⟩ := c
  dsimp only at *
  have HK := hid hk
  have HN := hid hn
  have HA := hid ha
  have HC := hid hc
  have HT := hid (show tagL ks ns az cs = dg (([[2], tx ks, tx ns, wrd an, az, cs] : List (List Int)).flatten) from by
    unfold tagL pre; rw [show az.length = an from ha.l]; simp)
  have HLN := hid (show (([[2], tx ks, tx ns, wrd an, az, cs] : List (List Int)).flatten).length ≤ 1000000 from by
    have e1 : ks.length = kn := hk.l
    have e2 : ns.length = nn := hn.l
    have e3 : az.length = an := ha.l
    have e4 : cs.length = cn := hc.l
    simp [tx, wrd, e1, e2, e3, e4]; omega)
  clear hk hn ha hc
  go_enter Try.func74, Try.ntmps74
  go_wp2_with fail
  generalize hw1 : World.alloc w _ = w1
  have Q1 := hid (show Q w w1 from by rw [← hw1]; exact (Q.refl w).alloc _)
  have I1 := hid (show In w1 ⟨some ⟨w.heap.size, 0, none⟩, 1, 1⟩ [2] from by rw [← hw1]; exact in_byte w 2 (by omega) (by omega))
  clear hw1
  generalize w.heap.size = b1 at *
  refine (rtext_any ⟨ka, kn, kc⟩ ks w1 (HK.out.q Q1.out) (by show kn ≤ _; omega)).mono ?_
  rintro e w2 ⟨⟨ta, tn, tc⟩, rfl, q2, i2⟩
  have Q2 := hid (Q1.out.trans q2)
  have J2 := hid (I1.out.q q2)
  have T2 := hid i2
  clear q2 i2 Q1 I1
  go_wp2_with fail
  refine (rtext_any ⟨na, nn, nc⟩ ns w2 (HN.out.q Q2.out) (by show nn ≤ _; omega)).mono ?_
  rintro e w3 ⟨⟨ua, un, uc⟩, rfl, q3, i3⟩
  have Q3 := hid (Q2.out.trans q3)
  have J3 := hid (J2.out.q q3)
  have T3 := hid (T2.out.q q3)
  have U3 := hid i3
  clear q3 i3 Q2 J2 T2
  go_wp2_with fail
  refine (rword_any an w3 (by omega) (by omega)).mono ?_
  rintro e w4 ⟨⟨va, vn, vc⟩, rfl, q4, i4⟩
  have Q4 := hid (Q3.out.trans q4)
  have J4 := hid (J3.out.q q4)
  have T4 := hid (T3.out.q q4)
  have U4 := hid (U3.out.q q4)
  have V4 := hid i4
  clear q4 i4 Q3 J3 T3 U3
  go_wp2_with fail
  refine (join_lit w4 [⟨some ⟨b1, 0, none⟩, 1, 1⟩, ⟨ta, tn, tc⟩, ⟨ua, un, uc⟩, ⟨va, vn, vc⟩, ⟨aa, an, ac⟩, ⟨ca, cn, cc⟩] [[2], tx ks, tx ns, wrd an, az, cs] rfl (in6 J4.out T4.out U4.out V4.out (HA.out.q Q4.out) (HC.out.q Q4.out)) (by show 6 ≤ 100; omega) HLN.out).mono ?_
  rintro e w5 ⟨⟨ja, jn, jc⟩, rfl, q5, i5, r5, n5⟩
  have Q5 := hid (Q4.out.trans q5)
  have J5 := hid i5
  clear q5 i5 r5 n5 Q4 J4 T4 U4 V4
  go_wp2_with fail
  refine (rdigest_any ja jn jc _ w5 J5.out.l (by have h1 := J5.out.l; have h2 := HLN.out; dsimp only at h1; omega) J5.out.z J5.out.s).mono ?_
  rintro e w6 ⟨g6, rfl, q6, r6, n6⟩
  rw [← HT.out] at r6
  have K6 := hid (Q5.out.trans q6)
  have R6 := hid r6
  clear q6 r6 n6 J5 Q5 HT
  go_wp2
  go_ret
  exact ⟨g6, rfl, K6.out, R6.out⟩
end Go.Proofs.Ytihmlfpfpadfpaa
