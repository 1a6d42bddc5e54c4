/-
  Seal and Open answer as the document says for any bytes, and leave them as they were.
-/
import Derived.Test.YtnoapfhbckebiaaRows
import Derived.Test.YtnoapfhbckebiaaAwake
import Derived.Test.YtnoapfhbckebiaaOpn
import Derived.Test.YtnoapfhbckebiaaOpM
import Derived.Test.YtnoapfhbckebiaaRSeal
import Derived.Test.YtnoapfhbckebiaaOpenB
import Derived.Test.YtnoapfhbckebiaaBxs
import Derived.WalkKit
import Derived.ProofKit
import Derived.OpenShut
import Derived.ShutString
import Derived.ChangeOld
import Derived.Below
import Derived.SizedLaws
namespace Go.Proofs.Ytnoapfhbckebiaa.primSeals
open Go.ChangeShapes Go.WideShapes Go.ChangeAt Go.RowKit
open Go.ChangeMaps (open_string shut_string)
set_option linter.unusedVariables false

theorem opnR_lt {ks ns az ds : List Int} (h : ∀ y ∈ ds, 0 ≤ y ∧ y < 256) : ∀ y ∈ opnR ks ns az ds, 0 ≤ y ∧ y < 256 := by
  unfold opnR
  split
  · exact ovl_lt (fun y hy => h y (List.mem_of_mem_take hy))
  · intro y hy; cases hy
theorem opnR_len (ks ns az ds : List Int) : (opnR ks ns az ds).length ≤ ds.length := by
  unfold opnR
  split
  · rw [ovl_len, List.length_take]; omega
  · simp
set_option maxRecDepth 20000
set_option maxHeartbeats 16000000 in
theorem walk (k n a d : Sv) (ks ns az ds : List Int) (w : World) (hb : Bx w k n a d ks ns az ds) (bk : k.n ≤ 140737488351232) (bn : n.n ≤ 140737488351232) (ba : a.n ≤ 140737488351232) (bd : d.n ≤ 140737488351232) (cd_ : d.n ≤ d.c) :
    Calls Try.prog 5 #[.agg (bcells k n a d)] w fun r w' => r = .returned (.bool true) ∧ Below w.heap.size w w' := by
  have HB := hid hb
  clear hb
  obtain ⟨ka, kn, kc⟩ := k
  obtain ⟨na, nn, nc⟩ := n
  obtain ⟨aa, an, ac⟩ := a
  obtain ⟨da, dn, dc⟩ := d
  dsimp only at bk bn ba bd cd_
  go_enter Try.func5, Try.ntmps5
  go_wp2_with fail
  generalize hw1 : World.alloc w _ = w1
  have Q1 := hid (show Q w w1 from by rw [← hw1]; exact (Q.refl w).alloc _)
  have X1 := hid (show BB w1 w.heap.size ⟨ka, kn, kc⟩ ⟨na, nn, nc⟩ ⟨aa, an, ac⟩ ⟨da, dn, dc⟩ from by rw [← hw1]; exact heap_alloc_new w _)
  clear hw1
  generalize w.heap.size = bx at *
  refine (copied_any ⟨ka, kn, kc⟩ ⟨na, nn, nc⟩ ⟨aa, an, ac⟩ ⟨da, dn, dc⟩ ks ns az ds w1 (HB.out.q Q1.out) bk bn ba bd).mono ?_
  rintro e w2 ⟨gk, gn, ga, gd, rfl, q2, y2⟩
  dsimp only at y2
  have Q2 := hid (Q1.out.trans q2)
  have X2 := hid (X1.out.q q2)
  have Y2 := hid y2
  clear q2 y2 Q1 X1
  dsimp only [bcells]
  go_wp2_with fail
  generalize hw3 : World.alloc w2 _ = w3
  have q3 : Q w2 w3 := by rw [← hw3]; exact (Q.refl w2).alloc _
  have P3 := hid (show BB w3 w2.heap.size ⟨some ⟨gk, 0, none⟩, kn, kn⟩ ⟨some ⟨gn, 0, none⟩, nn, nn⟩ ⟨some ⟨ga, 0, none⟩, an, an⟩ ⟨some ⟨gd, 0, none⟩, dn, dn⟩ from by rw [← hw3]; exact heap_alloc_new w2 _)
  have Q3 := hid (Q2.out.trans q3)
  have X3 := hid (X2.out.q q3)
  have Y3 := hid (Y2.out.q q3)
  clear hw3 q3 Q2 X2 Y2
  generalize w2.heap.size = cx at *
  refine (seal_any ⟨some ⟨gk, 0, none⟩, kn, kn⟩ ⟨some ⟨gn, 0, none⟩, nn, nn⟩ ⟨some ⟨ga, 0, none⟩, an, an⟩ ⟨some ⟨gd, 0, none⟩, dn, dn⟩ ks ns az ds w3 Y3.out.ik Y3.out.in_ Y3.out.ia Y3.out.id_ (by show dn ≤ _; omega)).mono ?_
  rintro e w4 ⟨⟨sa, sn, sc⟩, rfl, q4, r4, n4⟩
  dsimp only at r4
  have Q4 := hid (Q3.out.trans q4)
  have X4 := hid (X3.out.q q4)
  have P4 := hid (P3.out.q q4)
  have Y4 := hid (Y3.out.q q4)
  have R4 := hid r4
  clear q4 r4 n4 Q3 X3 P3 Y3
  try dsimp only
  generalize hE : chkE kn nn an dn = E at *
  have HE := hid hE
  clear hE
  have x0 := X4.out.c0
  have x1 := X4.out.c1
  have x2 := X4.out.c2
  have x3 := X4.out.c3
  dsimp only at x0
  dsimp only at x1
  dsimp only at x2
  dsimp only at x3
  go_wp2_with fail
  refine (rseal_any ⟨ka, kn, kc⟩ ⟨na, nn, nc⟩ ⟨aa, an, ac⟩ ⟨da, dn, dc⟩ ks ns az ds w4 (HB.out.q Q4.out).ik (HB.out.q Q4.out).in_ (HB.out.q Q4.out).ia (HB.out.q Q4.out).id_ (by show dn ≤ _; omega)).mono ?_
  dsimp only
  rw [HE.out]
  rintro e w5 ⟨⟨ta, tn, tc⟩, rfl, q5, r5⟩
  have Q5 := hid (Q4.out.trans q5)
  have X5 := hid (X4.out.q q5)
  have P5 := hid (P4.out.q q5)
  have Y5 := hid (Y4.out.q q5)
  have S5 := hid (show Row w5 ⟨sa, sn, sc⟩ (if E = 0 then sealL ks ns az ds else []) from R4.out.q q5)
  have T5 := hid (show Row w5 ⟨ta, tn, tc⟩ (if E = 0 then sealL ks ns az ds else []) from r5)
  clear q5 r5 Q4 X4 P4 Y4 R4 x0 x1 x2 x3
  have p0 := P5.out.c0
  have p1 := P5.out.c1
  have p2 := P5.out.c2
  have p3 := P5.out.c3
  dsimp only at p0
  dsimp only at p1
  dsimp only at p2
  dsimp only at p3
  go_wp2_with fail
  refine (open_any ⟨some ⟨gk, 0, none⟩, kn, kn⟩ ⟨some ⟨gn, 0, none⟩, nn, nn⟩ ⟨some ⟨ga, 0, none⟩, an, an⟩ ⟨some ⟨gd, 0, none⟩, dn, dn⟩ ks ns az ds w5 Y5.out.ik Y5.out.in_ Y5.out.ia Y5.out.id_ (by show dn ≤ _; omega) (Nat.le_refl _)).mono ?_
  rintro e w6 ⟨⟨ua, un, uc⟩, rfl, q6, r6⟩
  have Q6 := hid (Q5.out.trans q6)
  have X6 := hid (X5.out.q q6)
  have P6 := hid (P5.out.q q6)
  have Y6 := hid (Y5.out.q q6)
  have S6 := hid (show Row w6 ⟨sa, sn, sc⟩ (if E = 0 then sealL ks ns az ds else []) from S5.out.q q6)
  have T6 := hid (show Row w6 ⟨ta, tn, tc⟩ (if E = 0 then sealL ks ns az ds else []) from T5.out.q q6)
  have U6 := hid (show Row w6 ⟨ua, un, uc⟩ (opnR ks ns az ds) from r6)
  clear q6 r6 Q5 X5 P5 Y5 S5 T5 p0 p1 p2 p3
  generalize hO : opnE ks ns az ds = O at *
  have HO := hid hO
  clear hO
  have x0 := X6.out.c0
  have x1 := X6.out.c1
  have x2 := X6.out.c2
  have x3 := X6.out.c3
  dsimp only at x0
  dsimp only at x1
  dsimp only at x2
  dsimp only at x3
  go_wp2_with fail
  refine (ropen_any ⟨ka, kn, kc⟩ ⟨na, nn, nc⟩ ⟨aa, an, ac⟩ ⟨da, dn, dc⟩ ks ns az ds w6 (HB.out.q Q6.out).ik (HB.out.q Q6.out).in_ (HB.out.q Q6.out).ia (HB.out.q Q6.out).id_ (by show dn ≤ _; omega) cd_).mono ?_
  rw [HO.out]
  rintro e w7 ⟨⟨va, vn, vc⟩, rfl, q7, r7⟩
  have Q7 := hid (Q6.out.trans q7)
  have X7 := hid (X6.out.q q7)
  have P7 := hid (P6.out.q q7)
  have Y7 := hid (Y6.out.q q7)
  have S7 := hid (show Row w7 ⟨sa, sn, sc⟩ (if E = 0 then sealL ks ns az ds else []) from S6.out.q q7)
  have T7 := hid (show Row w7 ⟨ta, tn, tc⟩ (if E = 0 then sealL ks ns az ds else []) from T6.out.q q7)
  have U7 := hid (show Row w7 ⟨ua, un, uc⟩ (opnR ks ns az ds) from U6.out.q q7)
  have V7 := hid (show Row w7 ⟨va, vn, vc⟩ (opnR ks ns az ds) from r7)
  clear q7 r7 Q6 X6 P6 Y6 S6 T6 U6 x0 x1 x2 x3
  have Ld := hid (show ds.length = dn from HB.out.id_.l)
  have ZS := hid (show ∀ y ∈ (if E = 0 then sealL ks ns az ds else []), 0 ≤ y ∧ y < 256 from by
    split
    · exact sealL_lt HB.out.id_.z
    · intro y hy; cases hy)
  have LS := hid (show (if E = 0 then sealL ks ns az ds else []).length ≤ 140737488355328 from by
    split
    · rw [sealL_len, Ld.out]; omega
    · simp)
  have ZO := hid (opnR_lt (ks := ks) (ns := ns) (az := az) HB.out.id_.z)
  have LO := hid (show (opnR ks ns az ds).length ≤ 140737488355328 from by
    have h := opnR_len ks ns az ds
    have := Ld.out
    omega)
  generalize (if E = 0 then sealL ks ns az ds else []) = ss at *
  generalize opnR ks ns az ds = os at *
  go_wp2_with fail
  refine (awake_any w7).mono ?_
  rintro r w8 ⟨rfl, q8⟩
  have Q8 := hid (Q7.out.trans q8)
  have X8 := hid (X7.out.q q8)
  have P8 := hid (P7.out.q q8)
  have Y8 := hid (Y7.out.q q8)
  have SM1 := hid (same_in (w := w8) (x := ⟨sa, sn, sc⟩) (y := ⟨ta, tn, tc⟩) (zs := ss) (Row.in_ (show Row w8 ⟨sa, sn, sc⟩ ss from S7.out.q q8) ZS.out) (Row.in_ (show Row w8 ⟨ta, tn, tc⟩ ss from T7.out.q q8) ZS.out) (by have h1 : ss.length = sn := Row.len S7.out; have := LS.out; show sn ≤ _; omega))
  have U8 := hid (show Row w8 ⟨ua, un, uc⟩ os from U7.out.q q8)
  have V8 := hid (show Row w8 ⟨va, vn, vc⟩ os from V7.out.q q8)
  clear q8 Q7 X7 P7 Y7 S7 T7 U7 V7
  go_wp2_with fail
  refine SM1.out.mono ?_
  rintro r w9 ⟨rfl, q9⟩
  have Q9 := hid (Q8.out.trans q9)
  have X9 := hid (X8.out.q q9)
  have P9 := hid (P8.out.q q9)
  have Y9 := hid (Y8.out.q q9)
  have SM2 := hid (same_in (w := w9) (x := ⟨ua, un, uc⟩) (y := ⟨va, vn, vc⟩) (zs := os) (Row.in_ (show Row w9 ⟨ua, un, uc⟩ os from U8.out.q q9) ZO.out) (Row.in_ (show Row w9 ⟨va, vn, vc⟩ os from V8.out.q q9) ZO.out) (by have h1 : os.length = un := Row.len U8.out; have := LO.out; show un ≤ _; omega))
  clear q9 Q8 X8 P8 Y8 U8 V8 SM1
  go_wp2_with fail
  refine SM2.out.mono ?_
  rintro r wa ⟨rfl, qa⟩
  have Qa := hid (Q9.out.trans qa)
  have Xa := hid (X9.out.q qa)
  have Pa := hid (P9.out.q qa)
  have Ya := hid (Y9.out.q qa)
  clear qa Q9 X9 P9 Y9 SM2
  have x0 := Xa.out.c0
  have x1 := Xa.out.c1
  have x2 := Xa.out.c2
  have x3 := Xa.out.c3
  have p0 := Pa.out.c0
  have p1 := Pa.out.c1
  have p2 := Pa.out.c2
  have p3 := Pa.out.c3
  dsimp only at x0
  dsimp only at x1
  dsimp only at x2
  dsimp only at x3
  dsimp only at p0
  dsimp only at p1
  dsimp only at p2
  dsimp only at p3
  have SB := hid (sameB_any ⟨some ⟨gk, 0, none⟩, kn, kn⟩ ⟨some ⟨gn, 0, none⟩, nn, nn⟩ ⟨some ⟨ga, 0, none⟩, an, an⟩ ⟨some ⟨gd, 0, none⟩, dn, dn⟩ ⟨ka, kn, kc⟩ ⟨na, nn, nc⟩ ⟨aa, an, ac⟩ ⟨da, dn, dc⟩ ks ns az ds wa Ya.out (HB.out.q Qa.out) bk bn ba bd)
  dsimp only [bcells] at SB
  go_wp2_with fail
  refine SB.out.mono ?_
  rintro r wb ⟨rfl, qb⟩
  have Qb := hid (Qa.out.trans qb)
  clear qb SB
  go_wp2
  go_ret
  exact ⟨by first | rfl | simp, Qb.out⟩

set_option maxRecDepth 100000 in
theorem lifted (os : Os) (started : os.Started) (H : Type) (enc : TypeId × Value → H) :
    ReturnsInHanded {} Try.checked os 5 .any (Rows.primSealsSpec.pre6 enc Try.prog Try.f5 Rows.primSealsRow.domain false) (Rows.primSealsSpec.post enc Try.prog Try.f5 false true false false) := by
  refine returnsInHanded_of_change_sized (C := Try.checked) own_knob started (by kernel_rfl) Try.func5
    (ChangeSpec.witness6 (enc := enc) (C := Try.checked) false ⟨#[], #[.agg #[.slice none 0 0, .slice none 0 0, .slice none 0 0, .slice none 0 0]], []⟩ 8 (by kernel_rfl) (by kernel_rfl) (by kernel_rfl) (by kernel_rfl)) ?_
  intro W base args ds gs before hval0 hW hcnd hsz0 _
  have hval : ∀ (j : Nat) t v, Try.f5.params[j]? = some t → args[j]? = some v → Value.okWide Try.prog W .any base t v := hval0
  have hsz : (DataW.weightsEach Try.prog (Try.f5.params.toList ++ Rows.primSealsSpec.plain.varTypes Try.prog) (ds ++ gs)).all (· ≤ reachBytes) = true := hsz0
  have hW' := hW
  obtain ⟨p, q, hA0, hV, rfl, hfz, hnd⟩ := hW
  have hA : DataW.TrodAll enc Try.prog W 0 (fun _ => true) true Try.f5.params.toList args.toList ds p := hA0
  rw [Try.params5] at hA hval hsz
  obtain ⟨v0, vs0, d0, ds0, p0, q0, hargs, rfl, rfl, h0, r0⟩ := trodAll_cons hA
  obtain ⟨rfl, rfl, rfl⟩ := trodAll_nil r0
  obtain rfl : args = #[v0] := by cases args; simp_all
  obtain ⟨rfl, rfl⟩ := trodVars_none hV
  obtain ⟨cs0, rfl, hcs0⟩ := okWide_struct Try.underlying36 (hval 0 36 v0 rfl rfl)
  have k0 := h0
  have lt0 : ∀ x ∈ p0, x.block < W.heap.size := by obtain ⟨m, hm⟩ := k0; exact DataW.trod_lt m _ _ _ hm
  obtain ⟨kb0, nb0, ab0, db0, kz0, nz0, az0, dz0, rfl, hc0⟩ := open_box h0 hcs0
  have ft0 := box_fit hsz (j := 0) rfl rfl hc0
  clear hA0 hval0
  refine (walk kb0 nb0 ab0 db0 kz0 nz0 az0 dz0 W hc0.h ft0.1 ft0.2.1 ft0.2.2.1 ft0.2.2.2 hc0.c.2.2.2).mono fun e W' ⟨he, bel⟩ => ?_
  subst he
  exact ⟨_, rfl, _, _, _, [], _, [], hW', trodAll_mk1 (shut_bool Try.underlying4 _), (trodAll_cons_mk (Below.trod laid_out (by kernel_rfl) (of_decide_eq_true (by kernel_rfl)) k0 bel lt0) trodAll_mk0), rfl, bel.frame _, fun h => by cases h⟩

theorem over : Rows.primSealsRow.holds Try.pinned (OpenSpec.ofChange Rows.primSealsSpec) :=
  OpenClaim.holds_of_wide 5 Try.f5 rfl rfl rfl rfl rfl rfl rfl ⟨rfl, rfl, rfl, rfl, rfl⟩ rfl rfl rfl rfl rfl (by kernel_rfl) Try.func5 (by kernel_rfl)
    (of_decide_eq_true (by kernel_rfl)) (by unfold Func.isWrapper; first | (rw [if_pos (by decide +kernel)]; kernel_rfl) | (rw [if_neg (by decide +kernel)]; exact ⟨rfl, rfl⟩))
    (fun os started H enc _ => lifted os started H enc)

end Go.Proofs.Ytnoapfhbckebiaa.primSeals
namespace Go.Proofs.Ytnoapfhbckebiaa

/-- The statement. -/
theorem primSeals_holds : Rows.PrimSealsSaid := primSeals.over
#print axioms primSeals_holds
end Go.Proofs.Ytnoapfhbckebiaa
