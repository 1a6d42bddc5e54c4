/-
  LossOnce: a packet that was sent is told just once, as acked, lost or dropped, and what is under way are the sizes of those that were not told yet and elicit. No condition.
-/
import Derived.Test.YtjhihcmemnhbbaaRows
import Derived.Test.YtjhihcmemnhbbaaOnA
import Derived.Test.YtjhihcmemnhbbaaOpen
import Derived.Test.YtjhihcmemnhbbaaCpy
import Derived.Test.YtjhihcmemnhbbaaRim
import Derived.WalkKit
import Derived.Deep.RegionHeld3
import Derived.StillTailTactics
import Derived.BigRegion
import Derived.Deep.Cut
import Derived.Deep.CutRange
import Derived.ProofKit
import Derived.OpenShut
import Derived.ShutString
import Derived.ChangeOld
import Derived.Below
import Derived.SizedLaws
namespace Go.Proofs.Ytjhihcmemnhbbaa.lossOnce
open Go.ChangeShapes Go.WideShapes Go.ChangeAt Go.RowKit
open Go.ChangeMaps (open_string shut_string)
set_option linter.unusedVariables false

set_option maxRecDepth 20000

theorem rowI_small {w : World} {x : Sv} {l : List Int} (h : RowI w x l) : x.n ≤ 9223372036854775807 := by
  rcases h.2 with ⟨_, e, _⟩ | ⟨_, _, _, _, _, g1, g2, _⟩
  · omega
  · simp only [maxLen] at g1 g2; omega

set_option maxHeartbeats 16000000 in
theorem walk (a : Option Addr) (len cap : Nat) (z : Nat → Cl) (w : World) (hseg : SegO w a len z) (hgood : ∀ i, i < len → Good w (z i)) (hlen : len * 72 ≤ 140737488351232 ∧ ∀ i, i < len → (z i).dn * 16 ≤ 140737488351232) :
    Calls Try.prog 4 #[.slice a len cap] w fun e w' => e = .returned (.bool true) ∧ Below w.heap.size w w' := by
  have AW := hid (fun w1 => awake_any w1)
  have A := hid (new_ok 25 w (by omega))
  have HSEG := hid hseg
  have HG := hid hgood
  have HLN := hid hlen
  clear hseg hgood hlen
  go_enter Try.func4, Try.ntmps4
  go_wp2_with fail
  refine A.out.mono ?_
  rintro e w1 ⟨rfl, hL, q1⟩
  obtain ⟨bb, hbb⟩ : ∃ bb, bb = w1.heap.size := ⟨_, rfl⟩
  have INI := hid (show LO w bb 0 (w1.alloc (Obj.cells #[Value.slice none 0 0, Value.int IntKind.i64 0] 37)) from ⟨nilR, newLo 25, nilS, [], 0, ⟨hL.q ((Q.refl _).alloc _), q1.alloc _, fun b e => by
    rcases e with rfl | ⟨i, _, e⟩
    · have := hL.hd.lt; exact ⟨Nat.le_refl _, by omega, by simp [nilS, blk]⟩
    · simp [nilR, nilS, blk] at e, ⟨by rw [hbb]; exact heap_alloc_new w1 _, sub_nil _ 43 3, by simp [nilS, blk]⟩, by have := hL.hd.lt; omega, fun b e => by simp [nilS, blk] at e⟩, ok_new 25 (by omega) (by omega), br_new 25⟩)
  have HBB := hid hbb.symm
  clear hL q1 hbb A
  go_wp2_with fail
  rw [HBB.out]
  go_loopw [38] (fun i wr => ∃ j : Nat, j ≤ len ∧ i = .int .i64 j ∧ LO w bb j wr) (fun i _ => len - (intOf i).toNat)
  case atStart => exact ⟨0, Nat.zero_le _, rfl, INI.out⟩
  case round =>
    obtain ⟨j, hj, rfl, r, S, d, l, U, hM, hO, hR⟩ := hrel
    have hl72 := HLN.out.1
    by_cases hlt : j < len
    · have hlt' : (j : Int) < (len : Int) := by omega
      have hwi : IntKind.i64.wrap ((j : Int) + 1) = ((j + 1 : Nat) : Int) := by rw [IntKind.wrap_i64]; omega
      obtain ⟨gb, go, rfl, hc⟩ := (HSEG.out.q hM.q) (by omega)
      have hc := hc j hlt
      have c0 := hc.c0
      have c1 := hc.c1
      have c2 := hc.c2
      have c3 := hc.c3
      have c4 := hc.c4
      have c5 := hc.c5
      have c6 := hc.c6
      obtain ⟨c, hcz⟩ : ∃ c, c = z j := ⟨_, rfl⟩
      rw [← hcz] at c0 c1 c2 c3 c4 c5 c6
      have GC := hid (show Good w c from by rw [hcz]; exact HG.out j hlt)
      have NC := hid (show c.dn * 16 ≤ 140737488351232 from by rw [hcz]; exact HLN.out.2 j hlt)
      have NJ := hid (show j ≤ 4398046511103 from by omega)
      obtain ⟨kd, sp, nu, sz, nw, el, da, dn, dc, zs⟩ := c
      simp only at c0 c1 c2 c3 c4 c5 c6
      obtain ⟨wa, hwa⟩ : ∃ wa, wa = wr.alloc (.cells #[.int .i64 kd, .int .i64 sp, .int .i64 nu, .int .i64 sz, .int .i64 nw, .bool el, .slice da dn dc] 40) := ⟨_, rfl⟩
      have qa : Q wr wa := by rw [hwa]; exact (Q.refl wr).alloc _
      have bxa : wa.heap[wr.heap.size]? = some (.cells #[.int .i64 kd, .int .i64 sp, .int .i64 nu, .int .i64 sz, .int .i64 nw, .bool el, .slice da dn dc] 40 (0, 0)) := by rw [hwa]; exact heap_alloc_new wr _
      have BA := hid (hM.qr qa)
      have OK := hid hO
      have RR := hid hR
      have HWA := hid hwa.symm
      have BXA := hid bxa
      have FRB := hid (show ∀ b, Fp w.heap.size r b → b < wr.heap.size from hM.la.lt)
      have OB := hid (show wr.heap.size ≠ bb ∧ bb < wa.heap.size ∧ wr.heap.size < wa.heap.size from by have h1 := lt_of_block hM.bk.hd; have h2 := qa.size; have h3 := lt_of_block bxa; exact ⟨by omega, by omega, h3⟩)
      clear hc hcz hM hO hR hwa qa bxa hl72
      go_upto_region 8 with fail
      rw [HWA.out]
      clear c0 c1 c2 c3 c4 c5 c6
      generalize wr.heap.size = ob at *
      have e0 : wa.cell? ⟨ob, 0, none⟩ = some (.int .i64 kd) := by rw [cell_of_row _ _ _ _ 40 (0, 0) BXA.out]; rfl
      have e1 : wa.cell? ⟨ob, 1, none⟩ = some (.int .i64 sp) := by rw [cell_of_row _ _ _ _ 40 (0, 0) BXA.out]; rfl
      have e2 : wa.cell? ⟨ob, 2, none⟩ = some (.int .i64 nu) := by rw [cell_of_row _ _ _ _ 40 (0, 0) BXA.out]; rfl
      have e3 : wa.cell? ⟨ob, 3, none⟩ = some (.int .i64 sz) := by rw [cell_of_row _ _ _ _ 40 (0, 0) BXA.out]; rfl
      have e4 : wa.cell? ⟨ob, 4, none⟩ = some (.int .i64 nw) := by rw [cell_of_row _ _ _ _ 40 (0, 0) BXA.out]; rfl
      have e5 : wa.cell? ⟨ob, 5, none⟩ = some (.bool el) := by rw [cell_of_row _ _ _ _ 40 (0, 0) BXA.out]; rfl
      have e6 : wa.cell? ⟨ob, 6, none⟩ = some (.slice da dn dc) := by rw [cell_of_row _ _ _ _ 40 (0, 0) BXA.out]; rfl
      have NOB := hid (show ¬ Fp w.heap.size r ob from fun e => by have := FRB.out _ e; omega)
      go_cut [43] from 42 to 202 (fun v wc => v = .int .i64 kd ∧ wc = wa)
      case first =>
        go_wp2_with fail
        go_meet
        case rel => exact ⟨rfl, by first | rfl | trivial⟩
      case rest =>
      obtain ⟨rfl, hwc⟩ := hcut
      replace hwc := hwc.symm
      subst hwc
      clear e0
      refine ‹∀ (a : Act) (w : World), Code.wp Try.prog (Code.block 2 _) _ a w → _› _ _ ?_
      go_cut [8, 9, 10, 11, 13, 15, 16, 17, 18, 19, 20, 21, 23] from 44 to 202 (fun _ _ _ _ _ _ _ _ _ _ _ _ _ wc => LO w bb (j + 1) wc)
      case first =>
        by_cases k1 : kd = 1
        · subst k1
          have SN := hid (sent_any BA.out.la OK.out NJ.out sp nu sz el nw)
          by_cases hE : sntE S sp nu sz nw = 0
          · have SB := hid (sent_br RR.out OK.out (el := el) hE)
            rw [hE] at SN
            go_wp2_with fail
            refine SN.out.mono ?_
            rintro e w3 ⟨rfl, r3, W3⟩
            have M3 := BA.out.call W3
            have t1 := W3.kp.cell e1 NOB.out
            have t2 := W3.kp.cell e2 NOB.out
            have t3 := W3.kp.cell e3 NOB.out
            have t5 := W3.kp.cell e5 NOB.out
            have OK3 := hid (ok_sent OK.out sp nu sz el nw)
            have MM := hid M3
            have bd := RR.out.bd OK.out
            have bs := sumB_bound bd.sz
            have hsm := bd.sum
            have hll := bd.len
            have h0s := SB.out.2
            clear W3 e1 e2 e3 e4 e5 e6 hE
            cases el
            · have SB1 := hid (show BR (sntS S sp nu sz false nw) (l ++ [⟨sp, nu, 0⟩]) U from by have h1 := SB.out.1; simpa using h1)
              obtain ⟨d2, w4, hr1, hrow, k4, f4⟩ := rowO_one (w := w3.drew) (d := d) (l := l) ⟨sp, nu, 0⟩ (Sub.q MM.out.bk.row ((Q.refl w3).drew)) (by have := MM.out.bk.row.len; omega)
              have hwU : IntKind.i64.wrap U = U := by rw [IntKind.wrap_i64]; omega
              have cB := MM.out.c0
              have aB := (((Q.refl w3).alloc (.cells #[.int .i64 sp, .int .i64 nu, .int .i64 0] 43)).cell (p := ⟨bb, 0, none⟩) (lt_of_cell cB)).trans cB
              have hb3 : w3.drew.heap[bb]? = some (.cells #[.slice d.a d.n d.c, .int .i64 U] 37 (0, 0)) := MM.out.bk.hd
              have hb4 := (k4.block bb (lt_of_block hb3) (fun e => MM.out.bk.far e)).trans hb3
              have cB4 : w4.cell? ⟨bb, 0, none⟩ = some (.slice d.a d.n d.c) := by rw [cell_of_row _ _ _ _ 37 (0, 0) hb4]; rfl
              have fB4 := frozen_of_row w4 bb 0 _ 37 hb4
              have hb5 := heap_setCell_same w4 bb 0 _ 37 (.slice d2.a d2.n d2.c) hb4
              obtain ⟨w5, hw5⟩ : ∃ w5, w5 = w4.setCell ⟨bb, 0, none⟩ (.slice d2.a d2.n d2.c) := ⟨_, rfl⟩
              rw [← hw5] at hb5
              have cU5 : w5.cell? ⟨bb, 1, none⟩ = some (.int .i64 U) := by rw [cell_of_row _ _ _ _ 37 (0, 0) hb5]; rfl
              have fU5 := frozen_of_row w5 bb 1 _ 37 hb5
              have hb6 := heap_setCell_same w5 bb 1 _ 37 (.int .i64 U) hb5
              have hne : blk d2.a ≠ some bb := fun e => by
                rcases f4 _ e with h1 | h1
                · exact MM.out.bk.far h1
                · have := lt_of_block hb3; omega
              have k6 : Keep (fun b => b = bb) w4 (w5.setCell ⟨bb, 1, none⟩ (.int .i64 U)) := by
                rw [hw5]; exact ((Keep.refl (fun b => b = bb) w4).setCell bb 0 _ (.inl rfl)).setCell bb 1 _ (.inl rfl)
              have B3 := hid (show LO w bb (j + 1) (w5.setCell ⟨bb, 1, none⟩ (.int .i64 U)) from ⟨r3, _, d2, _, _, MM.out.turn' ⟨hb6, Sub.keep hrow k6 (fun b e1 e2 => hne (by rw [← e2]; exact e1)), hne⟩ ((((Keep.refl _ w3).drew).trans (k4.mono (fun b _ e => .inr e))).trans (k6.mono (fun b _ e => .inl e))) f4, OK3.out, SB1.out⟩)
              have R1 := hid hr1
              have HW5 := hid hw5.symm
              clear hr1 hrow k4 f4 hb3 hb4 hb5 hb6 hne k6 hw5 bd bs hsm hll h0s
              obtain ⟨da9, dn9, dc9⟩ := d
              simp only at cB aB cB4 R1
              go_upto_region 14 with fail
              go_cut [] from 44 to 202 (fun wc => wc = w5)
              case first =>
                go_region_law (refine step_append rfl _ _ _ _ rfl (by simp [Act.eval]) (by simp [Act.eval]) R1.out ?_)
                all_goals
                  rw [HW5.out]
                  go_wp2_with fail
                  go_meet
                  case rel => rfl
              case rest =>
                replace hcut := hcut.symm
                subst hcut
                clear cB aB cB4 fB4 t1 t2 t3 t5
                go_wp2_with fail
                clear cU5 fU5
                go_wp2_with fail
                go_meet
                case rel => exact B3.out
            · have SB1 := hid (show BR (sntS S sp nu sz true nw) (l ++ [⟨sp, nu, sz⟩]) (U + sz) from by have h1 := SB.out.1; simpa using h1)
              obtain ⟨d2, w4, hr1, hrow, k4, f4⟩ := rowO_one (w := w3.drew) (d := d) (l := l) ⟨sp, nu, sz⟩ (Sub.q MM.out.bk.row ((Q.refl w3).drew)) (by have := MM.out.bk.row.len; omega)
              have hwU : IntKind.i64.wrap (U + sz) = (U + sz) := by rw [IntKind.wrap_i64]; omega
              have cB := MM.out.c0
              have aB := (((Q.refl w3).alloc (.cells #[.int .i64 sp, .int .i64 nu, .int .i64 sz] 43)).cell (p := ⟨bb, 0, none⟩) (lt_of_cell cB)).trans cB
              have hb3 : w3.drew.heap[bb]? = some (.cells #[.slice d.a d.n d.c, .int .i64 U] 37 (0, 0)) := MM.out.bk.hd
              have hb4 := (k4.block bb (lt_of_block hb3) (fun e => MM.out.bk.far e)).trans hb3
              have cB4 : w4.cell? ⟨bb, 0, none⟩ = some (.slice d.a d.n d.c) := by rw [cell_of_row _ _ _ _ 37 (0, 0) hb4]; rfl
              have fB4 := frozen_of_row w4 bb 0 _ 37 hb4
              have hb5 := heap_setCell_same w4 bb 0 _ 37 (.slice d2.a d2.n d2.c) hb4
              obtain ⟨w5, hw5⟩ : ∃ w5, w5 = w4.setCell ⟨bb, 0, none⟩ (.slice d2.a d2.n d2.c) := ⟨_, rfl⟩
              rw [← hw5] at hb5
              have cU5 : w5.cell? ⟨bb, 1, none⟩ = some (.int .i64 U) := by rw [cell_of_row _ _ _ _ 37 (0, 0) hb5]; rfl
              have fU5 := frozen_of_row w5 bb 1 _ 37 hb5
              have hb6 := heap_setCell_same w5 bb 1 _ 37 (.int .i64 (U + sz)) hb5
              have hne : blk d2.a ≠ some bb := fun e => by
                rcases f4 _ e with h1 | h1
                · exact MM.out.bk.far h1
                · have := lt_of_block hb3; omega
              have k6 : Keep (fun b => b = bb) w4 (w5.setCell ⟨bb, 1, none⟩ (.int .i64 (U + sz))) := by
                rw [hw5]; exact ((Keep.refl (fun b => b = bb) w4).setCell bb 0 _ (.inl rfl)).setCell bb 1 _ (.inl rfl)
              have B3 := hid (show LO w bb (j + 1) (w5.setCell ⟨bb, 1, none⟩ (.int .i64 (U + sz))) from ⟨r3, _, d2, _, _, MM.out.turn' ⟨hb6, Sub.keep hrow k6 (fun b e1 e2 => hne (by rw [← e2]; exact e1)), hne⟩ ((((Keep.refl _ w3).drew).trans (k4.mono (fun b _ e => .inr e))).trans (k6.mono (fun b _ e => .inl e))) f4, OK3.out, SB1.out⟩)
              have R1 := hid hr1
              have HW5 := hid hw5.symm
              clear hr1 hrow k4 f4 hb3 hb4 hb5 hb6 hne k6 hw5 bd bs hsm hll h0s
              obtain ⟨da9, dn9, dc9⟩ := d
              simp only at cB aB cB4 R1
              go_upto_region 14 with fail
              go_cut [] from 44 to 202 (fun wc => wc = w5)
              case first =>
                go_region_law (refine step_append rfl _ _ _ _ rfl (by simp [Act.eval]) (by simp [Act.eval]) R1.out ?_)
                all_goals
                  rw [HW5.out]
                  go_wp2_with fail
                  go_meet
                  case rel => rfl
              case rest =>
                replace hcut := hcut.symm
                subst hcut
                clear cB aB cB4 fB4 t1 t2 t3 t5
                go_wp2_with fail
                clear cU5 fU5
                go_wp2_with fail
                go_meet
                case rel => exact B3.out
          · have SB := hid (sent_no (el := el) hE)
            have hb1 : (sntE S sp nu sz nw == 0) = false := by simpa using hE
            have hb2 : (sntE S sp nu sz nw = 0) = False := by simpa using hE
            generalize sntE S sp nu sz nw = E1 at *
            go_wp2_with fail
            refine SN.out.mono ?_
            rintro e w3 ⟨rfl, r3, W3⟩
            rw [SB.out] at W3
            have B3 := hid (show LO w bb (j + 1) w3 from ⟨r3, S, d, l, U, BA.out.call W3, OK.out.more (Nat.le_succ j), RR.out⟩)
            clear W3 e1 e2 e3 e4 e5 e6 hE
            go_wp2_with fail
            go_meet
            case rel => exact B3.out
        · by_cases k2 : kd = 2
          · as_aux_lemma =>
            subst k2
            have CP := hid (fun (u : World) (qu : Q wa u) => scopy_any ⟨da, dn, dc⟩ zs u GC.out.len (show dn ≤ 8796093022208 from by have h9 : dn * 16 ≤ 140737488351232 := NC.out; omega) ((GC.out.seg.q BA.out.q).q qu))
            have LZ := hid (show zs.length ≤ 4611686018427387904 from by have h8 : zs.length = dn := GC.out.len; have h9 : dn * 16 ≤ 140737488351232 := NC.out; omega)
            have FARL := hid (show ∀ b, Fp w.heap.size r b → wa.heap.size ≤ b → False from fun b e h => by have := BA.out.la.lt b e; omega)
            have s0 : Q wa wa := Q.refl _
            have hob := lt_of_cell e1
            have BLA := hid BA.out.la
            go_wp2_with fail
            go_region_held3 (fun u => u.cell? ⟨ob, 1, none⟩ = some (.int .i64 sp) ∧ u.cell? ⟨ob, 2, none⟩ = some (.int .i64 nu) ∧ u.cell? ⟨ob, 4, none⟩ = some (.int .i64 nw) ∧ u.cell? ⟨ob, 6, none⟩ = some (.slice da dn dc)) (repeat (first | (with_reducible assumption) | (with_reducible refine dcel ?_) | (with_reducible apply And.intro)))
              (first
                | (go_at_call 14; refine (ack_any (N := j) (r := r) (S := S) (l := zs) (BLA.out.q jC) OK.out NJ.out sp (RowS.seg xC) hxl hxn nu nw farC).mono ?_; rintro e wK ⟨xA, yL, r3, rfl, hxA, hyL, W3, nA, nL⟩; have W3' := Wr.ql jC BLA.out W3; have kb := W3'.kp; have nb := NOB.out; have yK1 := kb.cell e1 nb; have yK2 := kb.cell e2 nb; have yK4 := kb.cell e4 nb; have yK6 := kb.cell e6 nb)
                | (go_at_call 15; refine (CP.out _ (by repeat (first | (with_reducible assumption) | (with_reducible exact Q.refl _) | (with_reducible apply Q.drew) | (with_reducible apply Q.drewN)))).mono ?_; rintro e wC ⟨xx, rfl, qC, xC, newC⟩; have hxl := RowS.len xC; have hxn : xx.n ≤ 4611686018427387904 := (by rw [← hxl]; exact LZ.out); have farC : ∀ b, blk xx.a = some b → ¬ Fp w.heap.size r b := fun b e e2 => FARL.out b e2 (newC b e); have jC : Q wa wC := Q.trans (by repeat (first | (with_reducible assumption) | (with_reducible exact Q.refl _) | (with_reducible apply Q.drew) | (with_reducible apply Q.drewN))) qC; have yC1 := (jC.cell (p := ⟨ob, 1, none⟩) hob).trans e1; have yC2 := (jC.cell (p := ⟨ob, 2, none⟩) hob).trans e2; have yC4 := (jC.cell (p := ⟨ob, 4, none⟩) hob).trans e4; have yC6 := (jC.cell (p := ⟨ob, 6, none⟩) hob).trans e6))
            have AP := ack_p OK.out NJ.out sp zs nu nw
            have YC := hid (And.intro yK1 yK6)
            obtain ⟨hin, hout, l1, U1, l2, U2, t1, t2, hR2⟩ := ack_br RR.out AP
            have M3 := BA.out.call W3'
            have HXA := hid hxA
            have HYL := hid hyL
            have NXA := hid (show blk xA.a ≠ some bb from fun e => by have := (nA _ e).1; have := jC.size; have := OB.out; omega)
            have NYL := hid (show blk yL.a ≠ some bb from fun e => by have := (nL _ e).1; have := jC.size; have := OB.out; omega)
            have MK := hid M3
            have IN1 := hid hin
            have IN2 := hid hout
            have T1 := hid t1
            have T2 := hid t2
            have BD0 := hid (RR.out.bd OK.out)
            have BD1 := hid (tkB_bd BD0.out t1)
            have R2 := hid hR2
            have OK2 := hid (AP.ok.more (Nat.le_succ j))
            have SEGZ := hid (GC.out.seg.q M3.q)
            have HZL := hid (show zs.length = dn from GC.out.len)
            have HZN := hid (show dn ≤ 4611686018427387904 from by have h9 : dn * 16 ≤ 140737488351232 := NC.out; omega)
            clear CP hyL hxA W3 W3' kb nb yK1 yK2 yK4 yK6 qC xC newC hxl hxn farC jC yC1 yC2 yC4 yC6 nA nL s0 hob FARL LZ hin hout t1 t2 hR2 M3 AP BLA
            obtain ⟨xa, xn, xc⟩ := xA
            obtain ⟨ya, yn, yc⟩ := yL
            have HXN := hid (rowI_small HXA.out)
            have HYN := hid (rowI_small HYL.out)
            simp only at HXN HYN
            have LXA := hid (show (ackA S sp zs nu nw).length = xn from by have := HXA.out.len; simpa using this)
            have LYL := hid (show (ackL S sp zs nu nw).length = yn from by have := HYL.out.len; simpa using this)
            generalize ackE S sp zs nu nw = EE0 at *
            generalize ackA S sp zs nu nw = AA0 at *
            generalize ackL S sp zs nu nw = LL0 at *
            generalize ackS S sp zs nu nw = SS0 at *
            clear e1 e2 e3 e4 e5 e6
            go_wp2_with fail
            go_loopw [106] (fun i2 wx => ∃ j2 : Nat, j2 ≤ xn ∧ i2 = .int .i64 j2 ∧ Q wK wx) (fun i2 _ => xn - (intOf i2).toNat)
            case atStart => exact ⟨0, Nat.zero_le _, rfl, Q.refl _⟩
            case round =>
              obtain ⟨j2, hj2, rfl, q2⟩ := hrel
              generalize hws : wr = ws at *
              clear hws
              have Q2 := hid q2
              by_cases hl2 : j2 < xn
              · have hl2' : (j2 : Int) < (xn : Int) := by omega
                have hw2 : IntKind.i64.wrap ((j2 : Int) + 1) = ((j2 + 1 : Nat) : Int) := by have := HXN.out; rw [IntKind.wrap_i64]; omega
                obtain ⟨xg, xo, hxa, _, hxc⟩ := (Sub.q HXA.out q2).some_ (show 0 < xn by omega)
                simp only at hxa
                subst hxa
                have cx := hxc j2 (.int .i64 ((AA0.map (·.n)).getD j2 0)) (by
                  have := LXA.out
                  rw [List.getElem?_map, List.getD_eq_getElem?_getD, List.getElem?_eq_getElem (by simp; omega)]; rfl)
                have IV := IN1.out ((AA0.map (·.n)).getD j2 0) (by
                  have := LXA.out
                  rw [List.getD_eq_getElem?_getD, List.getElem?_eq_getElem (by simp; omega)]; exact List.getElem_mem _)
                have z6 := (q2.cell (p := ⟨ob, 6, none⟩) (lt_of_cell YC.out.2)).trans YC.out.2
                generalize (AA0.map (·.n)).getD j2 0 = nv at *
                have IC := hid (in_any (c := dc) (SEGZ.out.q q2) HZL.out HZN.out nv)
                rw [IV] at IC
                clear hxc IV q2
                go_wp2_with fail
                refine IC.out.mono ?_
                rintro e w5 ⟨rfl, q5⟩
                have Q5 := hid (Q2.out.trans q5)
                clear q5
                go_wp2
                go_roundw
                case rel => exact ⟨j2 + 1, by omega, by go_num, Q5.out⟩
                case measure => simp [intOf]; omega
              · obtain rfl : j2 = xn := by omega
                clear hj2 hl2 q2
                go_wp2_with fail
                go_loopw [118] (fun i2 wx => ∃ j3 : Nat, j3 ≤ yn ∧ i2 = .int .i64 j3 ∧ Q wK wx) (fun i2 _ => yn - (intOf i2).toNat)
                case atStart => exact ⟨0, Nat.zero_le _, rfl, Q2.out⟩
                case round =>
                  obtain ⟨j3, hj3, rfl, q3⟩ := hrel
                  have Q3 := hid q3
                  by_cases hl3 : j3 < yn
                  · have hl3' : (j3 : Int) < (yn : Int) := by omega
                    have hw3 : IntKind.i64.wrap ((j3 : Int) + 1) = ((j3 + 1 : Nat) : Int) := by have := HYN.out; rw [IntKind.wrap_i64]; omega
                    obtain ⟨yg, yo, hya, _, hyc⟩ := (Sub.q HYL.out q3).some_ (show 0 < yn by omega)
                    simp only at hya
                    subst hya
                    have cy := hyc j3 (.int .i64 ((LL0.map (·.n)).getD j3 0)) (by
                      have := LYL.out
                      rw [List.getElem?_map, List.getD_eq_getElem?_getD, List.getElem?_eq_getElem (by simp; omega)]; rfl)
                    have IV := IN2.out ((LL0.map (·.n)).getD j3 0) (by
                      have := LYL.out
                      rw [List.getD_eq_getElem?_getD, List.getElem?_eq_getElem (by simp; omega)]; exact List.getElem_mem _)
                    have z6 := (q3.cell (p := ⟨ob, 6, none⟩) (lt_of_cell YC.out.2)).trans YC.out.2
                    generalize (LL0.map (·.n)).getD j3 0 = nv at *
                    have IC := hid (in_any (c := dc) (SEGZ.out.q q3) HZL.out HZN.out nv)
                    rw [IV] at IC
                    clear hyc IV q3
                    go_wp2_with fail
                    refine IC.out.mono ?_
                    rintro e w5 ⟨rfl, q5⟩
                    have Q5 := hid (Q3.out.trans q5)
                    clear q5
                    go_wp2
                    go_roundw
                    case rel => exact ⟨j3 + 1, by omega, by go_num, Q5.out⟩
                    case measure => simp [intOf]; omega
                  · obtain rfl : j3 = yn := by omega
                    have M4 := MK.out.qr q3
                    have z1 := (q3.cell (p := ⟨ob, 1, none⟩) (lt_of_cell YC.out.1)).trans YC.out.1
                    have TA := hid (btake_true M4.bk BD0.out sp (Sub.q HXA.out q3) NXA.out T1.out)
                    have M4h := hid M4
                    clear hj3 hl3 q3 M4
                    go_wp2_with fail
                    refine TA.out.mono ?_
                    rintro e w5 ⟨rfl, d5, B5, k5, f5⟩
                    have M5 := M4h.out.turn B5 k5 f5
                    have z1b := k5.cell z1 OB.out.1
                    have TB2 := hid (btake_true M5.bk BD1.out sp (Sub.keep (Sub.q HYL.out Q3.out) k5 (fun b e1 e2 => NYL.out (by rw [← e2]; exact e1))) NYL.out T2.out)
                    have M5h := hid M5
                    clear M5 B5 k5 f5 z1
                    go_wp2_with fail
                    refine TB2.out.mono ?_
                    rintro e w6 ⟨rfl, d6, B6, k6, f6⟩
                    have B3 := hid (show LO w bb (j + 1) w6 from ⟨_, _, _, _, _, M5h.out.turn B6 k6 f6, OK2.out, R2.out⟩)
                    clear B6 k6 f6 z1b
                    go_wp2_with fail
                    go_meet
                    case rel => exact B3.out
          · by_cases k3 : kd = 3
            · as_aux_lemma =>
              subst k3
              have FR := hid (fire_any BA.out.la OK.out NJ.out nw)
              go_wp2_with fail
              refine FR.out.mono ?_
              rintro e w3 ⟨S3, L3, sp3, pb3, E3, ⟨y3, r3, rfl, hy3, W3, new3⟩, FP3⟩
              obtain ⟨hpb, l1, U1, t1, hR1⟩ := fire_br RR.out FP3
              have M3 := BA.out.call W3
              have NY := hid (show blk y3.a ≠ some bb from fun e => by have := (new3 _ e).1; have := OB.out; omega)
              have TA := hid (btake_true M3.bk (RR.out.bd OK.out) sp3 hy3 NY.out t1)
              have M3h := hid M3
              have R1 := hid hR1
              have OK1 := hid (FP3.ok.more (Nat.le_succ j))
              have HPB := hid (show pb3 = true → y3.n = 0 from fun e => by have h1 := hy3.len; rw [hpb e] at h1; simpa using h1.symm)
              clear hy3 W3 new3 FP3 M3 hR1 t1 hpb e1 e2 e3 e4 e5 e6
              obtain ⟨ya, yn, yc⟩ := y3
              cases pb3
              · go_wp2_with fail
                refine TA.out.mono ?_
                rintro e w6 ⟨rfl, d6, B6, k6, f6⟩
                have B3 := hid (show LO w bb (j + 1) w6 from ⟨_, _, _, _, _, M3h.out.turn B6 k6 f6, OK1.out, R1.out⟩)
                clear B6 k6 f6
                go_wp2_with fail
                go_meet
                case rel => exact B3.out
              · have hy0 : yn = 0 := HPB.out rfl
                subst hy0
                go_wp2_with fail
                refine TA.out.mono ?_
                rintro e w6 ⟨rfl, d6, B6, k6, f6⟩
                have B3 := hid (show LO w bb (j + 1) w6 from ⟨_, _, _, _, _, M3h.out.turn B6 k6 f6, OK1.out, R1.out⟩)
                clear B6 k6 f6
                go_wp2_with fail
                go_meet
                case rel => exact B3.out
            · by_cases k4 : kd = 4
              · as_aux_lemma =>
                subst k4
                have DR := hid (drop_any BA.out.la OK.out sp)
                obtain ⟨l1, U1, t1, hR1, hno⟩ := drop_br (k := sp) RR.out
                have T1 := hid t1
                have R1 := hid hR1
                have NO := hid hno
                have OK1 := hid (ok_drop (OK.out.more (Nat.le_succ j)) sp)
                clear t1 hR1 hno
                go_wp2_with fail
                refine DR.out.mono ?_
                rintro e w3 ⟨y3, r3, rfl, hy3, W3, new3⟩
                have M3 := BA.out.call W3
                have NY := hid (show blk y3.a ≠ some bb from fun e => by have := (new3 _ e).1; have := OB.out; omega)
                have TA := hid (btake_true M3.bk (RR.out.bd OK.out) sp hy3 NY.out T1.out)
                have M3h := hid M3
                have t1 := W3.kp.cell e1 NOB.out
                clear hy3 W3 new3 M3 e1 e2 e3 e4 e5 e6
                obtain ⟨ya, yn, yc⟩ := y3
                go_wp2_with fail
                refine TA.out.mono ?_
                rintro e w6 ⟨rfl, d6, B6, k6, f6⟩
                have M6 := M3h.out.turn B6 k6 f6
                have T6 := hid (k6.cell t1 OB.out.1)
                have cB := M6.c0
                have M6h := hid M6
                have HLE := hid M6.bk.row.len
                have HLQ := hid (R1.out.few OK1.out)
                obtain ⟨xa, xn, xc⟩ := d6
                simp only at cB HLE
                clear B6 k6 f6 t1 M6
                go_wp2_with fail
                go_loopw [185] (fun i2 wx => ∃ j2 : Nat, j2 ≤ xn ∧ i2 = .int .i64 j2 ∧ Q w6 wx) (fun i2 _ => xn - (intOf i2).toNat)
                case atStart => exact ⟨0, Nat.zero_le _, rfl, Q.refl _⟩
                case round =>
                  obtain ⟨j2, hj2, rfl, q2⟩ := hrel
                  generalize hws : wr = ws at *
                  clear hws
                  have Q2 := hid q2
                  by_cases hl2 : j2 < xn
                  · have hl2' : (j2 : Int) < (xn : Int) := by omega
                    have hw2 : IntKind.i64.wrap ((j2 : Int) + 1) = ((j2 + 1 : Nat) : Int) := by have := HLE.out; have := HLQ.out; rw [IntKind.wrap_i64]; omega
                    obtain ⟨xg, xo, hxa, _, hat⟩ := RowO.at_ (d := ⟨xa, xn, xc⟩) (Sub.q M6h.out.bk.row q2) hl2
                    simp only at hxa
                    subst hxa
                    have a0 := hat.c0
                    have a1 := hat.c1
                    have a2 := hat.c2
                    have hne := NO.out (l1.getD j2 noOn) (by have := HLE.out; rw [List.getD_eq_getElem?_getD, List.getElem?_eq_getElem (by omega)]; exact List.getElem_mem _)
                    obtain ⟨y, hy⟩ : ∃ y, y = l1.getD j2 noOn := ⟨_, rfl⟩
                    rw [← hy] at a0 a1 a2 hne
                    obtain ⟨yk, yn2, ys⟩ := y
                    simp only at a0 a1 a2 hne
                    have b1 : (yk == sp) = false := by simpa using hne
                    have b2 : (yk = sp) = False := by simpa using hne
                    obtain ⟨wb, hwb⟩ : ∃ wb, wb = ws.alloc (.cells #[.int .i64 yk, .int .i64 yn2, .int .i64 ys] 43) := ⟨_, rfl⟩
                    have qb : Q ws wb := by rw [hwb]; exact (Q.refl _).alloc _
                    have bxb : wb.heap[ws.heap.size]? = some (.cells #[.int .i64 yk, .int .i64 yn2, .int .i64 ys] 43 (0, 0)) := by rw [hwb]; exact heap_alloc_new _ _
                    have g0 : wb.cell? ⟨ws.heap.size, 0, none⟩ = some (.int .i64 yk) := by rw [cell_of_row _ _ _ _ 43 (0, 0) bxb]; rfl
                    have g1 := ((q2.trans qb).cell (p := ⟨ob, 1, none⟩) (lt_of_cell T6.out)).trans T6.out
                    have HWB := hid hwb.symm
                    have QB := hid (q2.trans qb)
                    clear hat hy hne hwb qb bxb q2
                    go_upto_region 43 with fail
                    rw [HWB.out]
                    clear a0 a1 a2
                    go_wp2
                    go_roundw
                    case rel => exact ⟨j2 + 1, by omega, by go_num, QB.out⟩
                    case measure => simp [intOf]; omega
                  · obtain rfl : j2 = xn := by omega
                    have B3 := hid (show LO w bb (j + 1) ws from ⟨_, _, _, _, _, M6h.out.qr q2, OK1.out, R1.out⟩)
                    clear hj2 hl2 q2 cB
                    go_wp2_with fail
                    go_meet
                    case rel => exact B3.out
              · have b1 : (kd == 1) = false := by simpa using k1
                have b2 : (kd == 2) = false := by simpa using k2
                have b3 : (kd == 3) = false := by simpa using k3
                have b4 : (kd == 4) = false := by simpa using k4
                clear k1 k2 k3 k4
                have B3 := hid (show LO w bb (j + 1) wa from ⟨_, _, _, _, _, BA.out, OK.out.more (Nat.le_succ j), RR.out⟩)
                clear e1 e2 e3 e4 e5 e6
                go_wp2_with fail
                go_meet
                case rel => exact B3.out
      case rest =>
        have B3 := hid hcut
        clear hcut e1 e2 e3 e4 e5 e6
        obtain ⟨r9, S9, d9, l9, U9, m9, ok9, br9⟩ := B3.out
        have UN := hid (show ∀ u, Q wc u → Calls Try.prog 11 #[.pointer (some ⟨w.heap.size, 0, none⟩)] u fun e w' => e = .returned (.int .i64 U9) ∧ Q u w' from fun u qu => by
          have h1 := under_any (m9.la.q qu) ok9
          rw [show undA S9 = U9 from br9.und_.symm] at h1
          exact h1)
        have cU := m9.c1
        have hbu := lt_of_block m9.bk.hd
        have s9 : Q wc wc := Q.refl _
        have M9 := hid m9
        have K9 := hid ok9
        have R9 := hid br9
        clear m9 ok9 br9
        go_wp2_with fail
        go_region_held3 (fun u => u.cell? ⟨bb, 1, none⟩ = some (.int .i64 U9)) (repeat (first | (with_reducible assumption) | (with_reducible refine dcel ?_) | (with_reducible apply And.intro)))
          (first | (go_at_call 11; refine (UN.out _ (by repeat (first | (with_reducible assumption) | (with_reducible exact Q.refl _) | (with_reducible apply Q.drew) | (with_reducible apply Q.drewN)))).mono ?_; rintro e wU ⟨rfl, qU⟩; have jU : Q wc wU := Q.trans (by repeat (first | (with_reducible assumption) | (with_reducible exact Q.refl _) | (with_reducible apply Q.drew) | (with_reducible apply Q.drewN))) qU; have yU := (jU.cell (p := ⟨bb, 1, none⟩) hbu).trans cU))
        have BL := hid (show LO w bb (j + 1) wU from ⟨_, _, _, _, _, M9.out.qr jU, K9.out, R9.out⟩)
        clear qU jU yU cU hbu s9 UN
        go_wp2
        go_roundw
        case rel => exact ⟨j + 1, by omega, by go_num, BL.out⟩
        case measure => simp [intOf]; omega
    · obtain rfl : j = len := by omega
      have BF := hid hM.q
      clear hM hO hR hl72 hlt hj
      go_wp2_with fail
      refine (AW.out wr).mono ?_
      rintro e w6 ⟨rfl, q6⟩
      have Q6 := hid (BF.out.trans q6)
      clear q6
      go_wp2
      go_ret
      exact ⟨rfl, Q6.out⟩

set_option maxRecDepth 100000 in
theorem lifted (os : Os) (started : os.Started) (H : Type) (enc : TypeId × Value → H) :
    ReturnsInHanded {} Try.checked os 4 .any (Rows.lossOnceSpec.pre6 enc Try.prog Try.f4 Rows.lossOnceRow.domain false) (Rows.lossOnceSpec.post enc Try.prog Try.f4 false true false false) := by
  refine returnsInHanded_of_change_sized (C := Try.checked) own_knob started (by kernel_rfl) Try.func4
    (ChangeSpec.witness6 (enc := enc) (C := Try.checked) false ⟨#[], #[.slice none 0 0], []⟩ 8 (by kernel_rfl) (by kernel_rfl) (by kernel_rfl) (by kernel_rfl)) ?_
  intro W base args ds gs before hval0 hW hcnd hsz0 _
  have hval : ∀ (j : Nat) t v, Try.f4.params[j]? = some t → args[j]? = some v → Value.okWide Try.prog W .any base t v := hval0
  have hsz : (DataW.weightsEach Try.prog (Try.f4.params.toList ++ Rows.lossOnceSpec.plain.varTypes Try.prog) (ds ++ gs)).all (· ≤ reachBytes) = true := hsz0
  have hW' := hW
  obtain ⟨p, q, hA0, hV, rfl, hfz, hnd⟩ := hW
  have hA : DataW.TrodAll enc Try.prog W 0 (fun _ => true) true Try.f4.params.toList args.toList ds p := hA0
  rw [Try.params4] at hA hval hsz
  obtain ⟨v0, vs0, d0, ds0, p0, q0, hargs, rfl, rfl, h0, r0⟩ := trodAll_cons hA
  obtain ⟨rfl, rfl, rfl⟩ := trodAll_nil r0
  obtain rfl : args = #[v0] := by cases args; simp_all
  obtain ⟨rfl, rfl⟩ := trodVars_none hV
  obtain ⟨a0, len0, cap0, rfl⟩ := okWide_slice Try.underlying33 (hval 0 33 v0 rfl rfl)
  have k0 := h0
  have lt0 : ∀ x ∈ p0, x.block < W.heap.size := by obtain ⟨m, hm⟩ := k0; exact DataW.trod_lt m _ _ _ hm
  obtain ⟨z0, zl0, zs0, zb0, zc0, ze0, zd0⟩ := open_ops h0
  have zn0 := len_le_ops hsz (j := 0) rfl rfl zd0
  clear hA0 hval0
  refine (walk a0 len0 cap0 z0 W zs0 zl0 zn0).mono fun e W' ⟨he, bel⟩ => ?_
  subst he
  exact ⟨_, rfl, _, _, _, [], _, [], hW', trodAll_mk1 (shut_bool Try.underlying4 _), (trodAll_cons_mk (Below.trod laid_out (by kernel_rfl) (of_decide_eq_true (by kernel_rfl)) k0 bel lt0) trodAll_mk0), rfl, bel.frame _, fun h => by cases h⟩

theorem over : Rows.lossOnceRow.holds Try.pinned (OpenSpec.ofChange Rows.lossOnceSpec) :=
  OpenClaim.holds_of_wide 4 Try.f4 rfl rfl rfl rfl rfl rfl rfl ⟨rfl, rfl, rfl, rfl, rfl⟩ rfl rfl rfl rfl rfl (by kernel_rfl) Try.func4 (by kernel_rfl)
    (of_decide_eq_true (by kernel_rfl)) (by unfold Func.isWrapper; first | (rw [if_pos (by decide +kernel)]; kernel_rfl) | (rw [if_neg (by decide +kernel)]; exact ⟨rfl, rfl⟩))
    (fun os started H enc _ => lifted os started H enc)

end Go.Proofs.Ytjhihcmemnhbbaa.lossOnce
namespace Go.Proofs.Ytjhihcmemnhbbaa

/-- The statement. -/
theorem lossOnce_holds : Rows.LossOnceSaid := lossOnce.over
#print axioms lossOnce_holds
end Go.Proofs.Ytjhihcmemnhbbaa
