/-
  What the document's own Seal and Open do: contracts that the statements' walks use.
-/
import Derived.Test.YtihmlfpfpadfpaaRTurn
import Derived.Test.YtihmlfpfpadfpaaOpM
namespace Go.Proofs.Ytihmlfpfpadfpaa
open Go.RowKit
set_option linter.unusedVariables false
set_option maxRecDepth 20000

theorem in_two {w : World} {x0 x1 : Sv} {z0 z1 : List Int} (h0 : In w x0 z0) (h1 : In w x1 z1) : ∀ j, j < [x0, x1].length → In w ([x0, x1].getD j nilS) ([z0, z1].getD j []) := by
  intro j hj
  rcases (show j = 0 ∨ j = 1 by simp at hj; omega) with rfl | rfl
  · exact h0
  · exact h1
set_option maxHeartbeats 4000000 in
theorem rseal_any (k n ad d : Sv) (ks ns az ds : List Int) (w : World) (hk : In w k ks) (hn : In w n ns) (ha : In w ad az) (hd : In w d ds) (bd : d.n ≤ 140737488355328) :
    Calls Try.prog 45 #[.slice k.a k.n k.c, .slice n.a n.n n.c, .slice ad.a ad.n ad.c, .slice d.a d.n d.c] w fun e w' => ∃ x : Sv, e = .returned (.tuple #[.slice x.a x.n x.c, .int .i64 (chkE k.n n.n ad.n d.n)]) ∧ Q w w' ∧ Row w' x (if chkE k.n n.n ad.n d.n = 0 then sealL ks ns az ds else []) := by
  have HK := hid hk
  have HN := hid hn
  have HA := hid ha
  have HD := hid hd
  clear hk hn ha hd
  obtain ⟨ka, kn, kc⟩ := k
  obtain ⟨na, nn, nc⟩ := n
  obtain ⟨aa, an, ac⟩ := ad
  obtain ⟨da, dn, dc⟩ := d
  dsimp only at *
  by_cases h1 : (255 : Int) < (kn : Int)
  · have HE := hid (show chkE kn nn an dn = 70 from by unfold chkE; rw [if_pos (by omega)])
    rw [HE.out, if_neg (by decide)]
    go_enter Try.func45, Try.ntmps45
    go_wp2
    go_ret2
    exact ⟨nilS, rfl, Q.refl _, sub_nil _ _ _⟩
  by_cases h2 : (255 : Int) < (nn : Int)
  · have HE := hid (show chkE kn nn an dn = 70 from by unfold chkE; rw [if_pos (by omega)])
    rw [HE.out, if_neg (by decide)]
    go_enter Try.func45, Try.ntmps45
    go_wp2
    go_ret2
    exact ⟨nilS, rfl, Q.refl _, sub_nil _ _ _⟩
  by_cases h3 : (16384 : Int) < (an : Int)
  · have HE := hid (show chkE kn nn an dn = 52 from by unfold chkE; rw [if_neg (by omega), if_pos (by omega)])
    rw [HE.out, if_neg (by decide)]
    go_enter Try.func45, Try.ntmps45
    go_wp2
    go_ret2
    exact ⟨nilS, rfl, Q.refl _, sub_nil _ _ _⟩
  by_cases h4 : (16384 : Int) < (dn : Int)
  · have HE := hid (show chkE kn nn an dn = 52 from by unfold chkE; rw [if_neg (by omega), if_pos (by omega)])
    rw [HE.out, if_neg (by decide)]
    go_enter Try.func45, Try.ntmps45
    go_wp2
    go_ret2
    exact ⟨nilS, rfl, Q.refl _, sub_nil _ _ _⟩
  have HE := hid (show chkE kn nn an dn = 0 from by unfold chkE; rw [if_neg (by omega), if_neg (by omega)])
  rw [HE.out, if_pos rfl]
  have Ld := hid (show ds.length = dn from HD.out.l)
  go_enter Try.func45, Try.ntmps45
  go_wp2_with fail
  refine (turn_any ⟨ka, kn, kc⟩ ⟨na, nn, nc⟩ ⟨da, dn, dc⟩ ks ns ds w HK.out HN.out HD.out (by show kn ≤ _; omega) (by show nn ≤ _; omega) (by show dn ≤ _; omega)).mono ?_
  rintro e w1 ⟨g, rfl, q1, r1⟩
  dsimp only at r1
  have Q1 := hid q1
  have I1 := hid (show In w1 ⟨some ⟨g, 0, none⟩, dn, dn⟩ (ovl ks ns ds) from ⟨Row.seg r1, Row.len r1, ovl_lt HD.out.z⟩)
  clear q1 r1
  go_wp2_with fail
  refine (rtag_any ⟨ka, kn, kc⟩ ⟨na, nn, nc⟩ ⟨aa, an, ac⟩ ⟨some ⟨g, 0, none⟩, dn, dn⟩ ks ns az (ovl ks ns ds) w1 (HK.out.q Q1.out) (HN.out.q Q1.out) (HA.out.q Q1.out) I1.out (by show kn ≤ _; omega) (by show nn ≤ _; omega) (by show an ≤ _; omega) (by show dn ≤ _; omega)).mono ?_
  rintro e w2 ⟨gt, rfl, q2, r2⟩
  have Q2 := hid (Q1.out.trans q2)
  have I2 := hid (I1.out.q q2)
  have T2 := hid (show In w2 ⟨some ⟨gt, 0, none⟩, 16, 16⟩ (tagL ks ns az (ovl ks ns ds)) from ⟨Row.seg r2, Row.len r2, tagL_lt _ _ _ _⟩)
  have HLN := hid (show (([ovl ks ns ds, tagL ks ns az (ovl ks ns ds)] : List (List Int)).flatten).length ≤ 1000000 from by
    have h1 := Ld.out; have h2 := tagL_len ks ns az (ovl ks ns ds)
    simp [ovl_len, h1, h2]; omega)
  have HSL := hid (show sealL ks ns az ds = ([ovl ks ns ds, tagL ks ns az (ovl ks ns ds)] : List (List Int)).flatten from by unfold sealL; simp)
  clear q2 r2 Q1 I1
  go_wp2_with fail
  refine (join_lit w2 [⟨some ⟨g, 0, none⟩, dn, dn⟩, ⟨some ⟨gt, 0, none⟩, 16, 16⟩] [ovl ks ns ds, tagL ks ns az (ovl ks ns ds)] rfl (in_two I2.out T2.out) (by show 2 ≤ 100; omega) HLN.out).mono ?_
  rw [← HSL.out]
  rintro e w3 ⟨x, rfl, q3, i3, r3, n3⟩
  have Q3 := hid (Q2.out.trans q3)
  have R3 := hid r3
  clear q3 i3 r3 n3 Q2 I2 T2
  go_wp2
  go_ret2
  exact ⟨x, rfl, Q3.out, R3.out⟩

set_option maxHeartbeats 8000000 in
theorem ropen_any (k n ad d : Sv) (ks ns az ds : List Int) (w : World) (hk : In w k ks) (hn : In w n ns) (ha : In w ad az) (hd : In w d ds) (bd : d.n ≤ 140737488355328) (bc : d.n ≤ d.c) :
    Calls Try.prog 80 #[.slice k.a k.n k.c, .slice n.a n.n n.c, .slice ad.a ad.n ad.c, .slice d.a d.n d.c] w fun e w' => ∃ x : Sv, e = .returned (.tuple #[.slice x.a x.n x.c, .int .i64 (opnE ks ns az ds)]) ∧ Q w w' ∧ Row w' x (opnR ks ns az ds) := by
  have HK := hid hk
  have HN := hid hn
  have HA := hid ha
  have HD := hid hd
  have HOE := hid (show opnE ks ns az ds = if chkE k.n n.n ad.n ((d.n : Int) - 16) ≠ 0 then chkE k.n n.n ad.n ((d.n : Int) - 16) else if d.n < 16 then 12 else if tagL ks ns az (ds.take (d.n - 16)) = ds.drop (d.n - 16) then 0 else 71 from by
    unfold opnE; rw [hk.l, hn.l, ha.l, hd.l])
  have HOR := hid (show opnR ks ns az ds = if opnE ks ns az ds = 0 then ovl ks ns (ds.take (d.n - 16)) else [] from by unfold opnR; rw [hd.l])
  clear hk hn ha hd
  obtain ⟨ka, kn, kc⟩ := k
  obtain ⟨na, nn, nc⟩ := n
  obtain ⟨aa, an, ac⟩ := ad
  obtain ⟨da, dn, dc⟩ := d
  dsimp only at *
  generalize opnE ks ns az ds = OE at *
  generalize opnR ks ns az ds = OR at *
  by_cases h1 : (255 : Int) < (kn : Int)
  · have HE := hid (show chkE kn nn an ((dn : Int) - 16) = 70 from by unfold chkE; rw [if_pos (by omega)])
    have hoe : OE = 70 := by rw [HOE.out, HE.out, if_pos (by decide)]
    have hor : OR = [] := by rw [HOR.out, if_neg (by rw [hoe]; decide)]
    subst hoe
    subst hor
    go_enter Try.func80, Try.ntmps80
    go_wp2
    go_ret2
    exact ⟨nilS, rfl, Q.refl _, sub_nil _ _ _⟩
  by_cases h2 : (255 : Int) < (nn : Int)
  · have HE := hid (show chkE kn nn an ((dn : Int) - 16) = 70 from by unfold chkE; rw [if_pos (by omega)])
    have hoe : OE = 70 := by rw [HOE.out, HE.out, if_pos (by decide)]
    have hor : OR = [] := by rw [HOR.out, if_neg (by rw [hoe]; decide)]
    subst hoe
    subst hor
    go_enter Try.func80, Try.ntmps80
    go_wp2
    go_ret2
    exact ⟨nilS, rfl, Q.refl _, sub_nil _ _ _⟩
  by_cases h3 : (16384 : Int) < (an : Int)
  · have HE := hid (show chkE kn nn an ((dn : Int) - 16) = 52 from by unfold chkE; rw [if_neg (by omega), if_pos (by omega)])
    have hoe : OE = 52 := by rw [HOE.out, HE.out, if_pos (by decide)]
    have hor : OR = [] := by rw [HOR.out, if_neg (by rw [hoe]; decide)]
    subst hoe
    subst hor
    go_enter Try.func80, Try.ntmps80
    go_wp2
    go_ret2
    exact ⟨nilS, rfl, Q.refl _, sub_nil _ _ _⟩
  by_cases h4 : (16400 : Int) < (dn : Int)
  · have HE := hid (show chkE kn nn an ((dn : Int) - 16) = 52 from by unfold chkE; rw [if_neg (by omega), if_pos (by omega)])
    have hoe : OE = 52 := by rw [HOE.out, HE.out, if_pos (by decide)]
    have hor : OR = [] := by rw [HOR.out, if_neg (by rw [hoe]; decide)]
    subst hoe
    subst hor
    go_enter Try.func80, Try.ntmps80
    go_wp2
    go_ret2
    exact ⟨nilS, rfl, Q.refl _, sub_nil _ _ _⟩
  have HE := hid (show chkE kn nn an ((dn : Int) - 16) = 0 from by unfold chkE; rw [if_neg (by omega), if_neg (by omega)])
  rw [HE.out, if_neg (by simp)] at HOE
  by_cases h16 : (dn : Int) < 16
  · have hoe : OE = 12 := by rw [HOE.out, if_pos (by omega)]
    have hor : OR = [] := by rw [HOR.out, if_neg (by rw [hoe]; decide)]
    subst hoe
    subst hor
    go_enter Try.func80, Try.ntmps80
    go_wp2
    go_ret2
    exact ⟨nilS, rfl, Q.refl _, sub_nil _ _ _⟩
  obtain ⟨m, rfl⟩ : ∃ m, dn = m + 16 := ⟨dn - 16, by omega⟩
  rw [if_neg (by omega), show m + 16 - 16 = m by omega] at HOE
  rw [show m + 16 - 16 = m by omega] at HOR
  obtain ⟨b, o, e, hcc⟩ := HD.out.s (by intro e; have h1 := HD.out.l; simp [e] at h1)
  dsimp only at e
  subst e
  clear hcc
  have hdl : ds.length = m + 16 := HD.out.l
  have hm : ((m + 16 : Nat) : Int) - 16 = (m : Int) := by omega
  have hmc : (m : Int) ≤ (dc : Int) := by omega
  have g4 : ¬ (16400 : Int) < (m : Int) + 16 := by omega
  have g16 : ¬ (m : Int) + 16 < 16 := by omega
  have gm : (m : Int) ≤ 16384 := by omega
  have HM := hid (show In w ⟨some ⟨b, o, none⟩, m, dc⟩ (ds.take m) from HD.out.cut m dc (by show m ≤ m + 16; omega))
  have HDR := hid (show Seg w (some ⟨b, o + m, none⟩) (ds.drop m) from seg_drop HD.out.s m)
  have HDL := hid (show (ds.drop m).length = 16 by simp [hdl])
  have HTG := hid (fun u (hu : Q w u) => rtag_any ⟨ka, kn, kc⟩ ⟨na, nn, nc⟩ ⟨aa, an, ac⟩ ⟨some ⟨b, o, none⟩, m, dc⟩ ks ns az (ds.take m) u (HK.out.q hu) (HN.out.q hu) (HA.out.q hu) (HM.out.q hu) (by show kn ≤ _; omega) (by show nn ≤ _; omega) (by show an ≤ _; omega) (by show m ≤ _; omega))
  have HTL := hid (tagL_len ks ns az (ds.take m))
  clear hdl
  generalize tagL ks ns az (ds.take m) = ts at *
  obtain ⟨B, hB⟩ : ∃ B, decide (ts = ds.drop m) = B := ⟨_, rfl⟩
  have HB := hid hB
  have BB := hid (And.intro bd bc)
  clear hB h4 h16 hm bd bc
  go_enter Try.func80, Try.ntmps80
  go_wp2_with fail
  have s0 : Q w w := Q.refl _
  have hml : (m : Int) ≤ ((m + 16 : Nat) : Int) := by omega
  have hml2 : (m : Int) ≤ (m : Int) + 16 := by omega
  have hne : ¬ dc = m := by have := BB.out; omega
  go_region_held3 (fun u => Q w u) (repeat (first | assumption | apply Q.drew | apply Q.drewN))
    (first
      | (go_at_call 74; refine (HTG.out _ (by repeat (first | assumption | apply Q.drew | apply Q.drewN))).mono ?_; rintro e w1 ⟨gt, rfl, q1, r1⟩; have k1 : Q w w1 := Q.trans (by repeat (first | assumption | apply Q.drew | apply Q.drewN)) q1; have R1 := hid r1; clear q1 r1)
      | (go_at_call 17; refine (same_any (some ⟨gt, 0, none⟩) (some ⟨b, o + m, none⟩) 16 16 16 (dc - m) ts (ds.drop m) _ HTL.out HDL.out (by omega) (by omega) (Row.seg (Sub.q R1.out (by repeat (first | exact Q.refl _ | apply Q.drewN | apply Q.drew)))) (HDR.out.q (by repeat (first | assumption | apply Q.drew | apply Q.drewN)))).mono ?_; rw [HB.out]; rintro e w2 ⟨rfl, q2⟩; have k2 : Q w w2 := Q.trans (by repeat (first | assumption | apply Q.drew | apply Q.drewN)) q2; clear q2))
  have K2 := hid k2
  clear s0 k1 k2 R1 hml hml2 hne g4 g16
  cases B
  · have hoe : OE = 71 := by rw [HOE.out, if_neg (of_decide_eq_false HB.out)]
    have hor : OR = [] := by rw [HOR.out, if_neg (by rw [hoe]; decide)]
    subst hoe
    subst hor
    go_wp2
    go_ret2
    exact ⟨nilS, rfl, K2.out, sub_nil _ _ _⟩
  · have hoe : OE = 0 := by rw [HOE.out, if_pos (of_decide_eq_true HB.out)]
    have hor : OR = ovl ks ns (ds.take m) := by rw [HOR.out, if_pos hoe]
    subst hoe
    subst hor
    go_wp2_with fail
    refine (turn_any ⟨ka, kn, kc⟩ ⟨na, nn, nc⟩ ⟨some ⟨b, o, none⟩, m, dc⟩ ks ns (ds.take m) w2 (HK.out.q K2.out) (HN.out.q K2.out) (HM.out.q K2.out) (by show kn ≤ _; omega) (by show nn ≤ _; omega) (by show m ≤ _; omega)).mono ?_
    rintro e w3 ⟨g3, rfl, q3, r3⟩
    have K3 := hid (K2.out.trans q3)
    have R3 := hid r3
    clear q3 r3
    go_wp2
    go_ret2
    exact ⟨⟨some ⟨g3, 0, none⟩, m, m⟩, rfl, K3.out, R3.out⟩
end Go.Proofs.Ytihmlfpfpadfpaa
