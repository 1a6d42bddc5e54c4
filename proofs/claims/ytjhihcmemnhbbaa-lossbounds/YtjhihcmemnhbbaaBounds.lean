/-
  LossBounds: the window never falls below 2400, nothing is lost that is not behind one that was acknowledged, and the least sample is no more than the latest. No condition.
-/
import Derived.Test.YtjhihcmemnhbbaaRows
import Derived.Test.YtjhihcmemnhbbaaWk
import Derived.Test.YtjhihcmemnhbbaaAwk
import Derived.Test.YtjhihcmemnhbbaaOpen
import Derived.Test.YtjhihcmemnhbbaaCpy
import Derived.Test.YtjhihcmemnhbbaaRim
import Derived.WalkKit
import Derived.Deep.RegionHeld3
import Derived.StillTailTactics
import Derived.ProofKit
import Derived.OpenShut
import Derived.ShutString
import Derived.ChangeOld
import Derived.Below
import Derived.SizedLaws
namespace Go.Proofs.Ytjhihcmemnhbbaa.lossBounds
open Go.ChangeShapes Go.WideShapes Go.ChangeAt Go.RowKit
open Go.ChangeMaps (open_string shut_string)
set_option linter.unusedVariables false

set_option maxRecDepth 20000
theorem ar_put {w : World} {b : Nat} {f : Nat → Int} {k : Nat} (h : Ar w b f) (hk : k < 3) (v : Int) : Ar (w.setCell ⟨b, k, none⟩ (.int .i64 v)) b (fun i => if i = k then v else f i) := by
  have := heap_setCell_same w b k _ 55 (.int .i64 v) h
  unfold Ar
  rw [this]
  rcases (show k = 0 ∨ k = 1 ∨ k = 2 by omega) with rfl | rfl | rfl <;> rfl
theorem ar_keep {F : Nat → Prop} {w w' : World} {b : Nat} {f : Nat → Int} (h : Ar w b f) (k : Keep F w w') (hF : ¬ F b) : Ar w' b f := (k.block b (lt_of_block h) hF).trans h
/-- What holds behind j calls. -/
structure LB (w : World) (ab j : Nat) (wr : World) (r : Nat → Sv) (S : Lo) (f : Nat → Int) : Prop where
  la : La wr w.heap.size r S
  ok : Ok j S
  q : Q w wr
  fp : ∀ b, Fp w.heap.size r b → w.heap.size ≤ b ∧ b ≠ ab
  ar : Ar wr ab f
  ab : w.heap.size < ab
  ack : ∀ k, k < 3 → (S.sp k).ack ≤ f k
theorem LB.qr {w wr u : World} {ab j : Nat} {r : Nat → Sv} {S : Lo} {f : Nat → Int} (h : LB w ab j wr r S f) (q : Q wr u) : LB w ab j u r S f :=
  ⟨h.la.q q, h.ok, h.q.trans q, h.fp, h.ar.q q, h.ab, h.ack⟩
theorem LB.step {w wr u : World} {ab j : Nat} {r r' : Nat → Sv} {S S' : Lo} {f : Nat → Int} (h : LB w ab j wr r S f) (W : Wr wr u w.heap.size r r' S') (ok : Ok (j + 1) S') (ha : ∀ k, k < 3 → (S'.sp k).ack ≤ f k) : LB w ab (j + 1) u r' S' f := by
  have hF := Wr.fresh h.q (fun b e => (h.fp b e).1) W
  have hab := lt_of_block h.ar
  refine ⟨W.la, ok, hF.1, fun b e => ⟨hF.2 b e, fun e2 => ?_⟩, ar_keep h.ar W.kp (fun e => (h.fp ab e).2 rfl), h.ab, ha⟩
  rcases W.fr b e with e3 | e3
  · exact (h.fp b e3).2 e2
  · omega
/-- .. where the greatest number acknowledged is told. -/
theorem LB.told {w u : World} {ab j : Nat} {r : Nat → Sv} {S : Lo} {f : Nat → Int} {k : Nat} {v : Int} (hk : k < 3) (la : La u w.heap.size r S) (ok : Ok j S) (q : Q w u) (fp : ∀ b, Fp w.heap.size r b → w.heap.size ≤ b ∧ b ≠ ab) (ar : Ar u ab f) (hab : w.heap.size < ab) (ha : ∀ i, i < 3 → (S.sp i).ack ≤ if i = k then v else f i) :
    LB w ab j ((u.setCell ⟨ab, k, none⟩ (.int .i64 v)).drew) r S (fun i => if i = k then v else f i) := by
  have kk : Keep (fun b => b = ab) u ((u.setCell ⟨ab, k, none⟩ (.int .i64 v)).drew) := ((Keep.refl (fun b => b = ab) u).setCell ab k _ (.inl rfl)).drew
  refine ⟨la.keep kk (fun b e e2 => (fp b e).2 e2), ok, ?_, fp, (ar_put ar hk v).q ((Q.refl _).drew), hab, ha⟩
  exact ((Keep.ofQ (F := fun b => w.heap.size ≤ b) q).trans (kk.mono (fun b _ e => by omega))).toQ (fun i hi e => by omega)

theorem und_nonneg {N : Nat} {S : Lo} (h : Ok N S) : 0 ≤ undA S := by
  have h0 := (under_bound (h.sp 0 (by omega)).out).1
  have h1 := (under_bound (h.sp 1 (by omega)).out).1
  have h2 := (under_bound (h.sp 2 (by omega)).out).1
  unfold undA
  omega

set_option maxHeartbeats 16000000 in
theorem walk (a : Option Addr) (len cap : Nat) (z : Nat → Cl) (w : World) (hseg : SegO w a len z) (hgood : ∀ i, i < len → Good w (z i)) (hlen : len * 72 ≤ 140737488351232 ∧ ∀ i, i < len → (z i).dn * 16 ≤ 140737488351232) :
    Calls Try.prog 5 #[.slice a len cap] w fun e w' => e = .returned (.bool true) ∧ Below w.heap.size w w' := by
  have AW := hid (fun w1 => awake_any w1)
  have A := hid (new_ok 25 w (by omega))
  have HSEG := hid hseg
  have HG := hid hgood
  have HLN := hid hlen
  clear hseg hgood hlen
  go_enter Try.func5, Try.ntmps5
  go_wp2_with fail
  refine A.out.mono ?_
  rintro e w1 ⟨rfl, hL, q1⟩
  obtain ⟨ab, hab⟩ : ∃ ab, ab = w1.heap.size := ⟨_, rfl⟩
  have INI := hid (show ∃ r S f, LB w ab 0 (w1.alloc (Obj.cells #[Value.int IntKind.i64 0, Value.int IntKind.i64 0, Value.int IntKind.i64 0] 55)) r S f from ⟨nilR, newLo 25, fun _ => 0, ⟨hL.q ((Q.refl _).alloc _), ok_new 25 (by omega) (by omega), q1.alloc _, fun b e => by
    rcases e with rfl | ⟨i, _, e⟩
    · have := hL.hd.lt; exact ⟨Nat.le_refl _, by omega⟩
    · simp [nilR, nilS, blk] at e, by rw [hab]; exact heap_alloc_new w1 _, by have := hL.hd.lt; omega, fun k _ => by show (-1 : Int) ≤ 0; omega⟩⟩)
  have HAB := hid hab.symm
  clear hL q1 hab A
  go_wp2_with fail
  rw [HAB.out]
  go_loopw [31] (fun i wr => ∃ j : Nat, j ≤ len ∧ i = .int .i64 j ∧ ∃ r S f, LB w ab j wr r S f) (fun i _ => len - (intOf i).toNat)
  case atStart => exact ⟨0, Nat.zero_le _, rfl, INI.out⟩
  case round =>
    obtain ⟨j, hj, rfl, r, S, f, hB⟩ := hrel
    have hl72 := HLN.out.1
    by_cases hlt : j < len
    · have hlt' : (j : Int) < (len : Int) := by omega
      have hwi : IntKind.i64.wrap ((j : Int) + 1) = ((j + 1 : Nat) : Int) := by rw [IntKind.wrap_i64]; omega
      obtain ⟨gb, go, rfl, hc⟩ := (HSEG.out.q hB.q) (by omega)
      have hc := hc j hlt
      have c0 := hc.c0
      have c1 := hc.c1
      have c2 := hc.c2
      have c3 := hc.c3
      have c4 := hc.c4
      have c5 := hc.c5
      have c6 := hc.c6
      obtain ⟨c, hcz⟩ : ∃ c, c = z j := ⟨_, rfl⟩
      rw [← hcz] at c0 c1 c2 c3 c4 c5 c6
      have GC := hid (show Good w c from by rw [hcz]; exact HG.out j hlt)
      have NC := hid (show c.dn * 16 ≤ 140737488351232 from by rw [hcz]; exact HLN.out.2 j hlt)
      have NJ := hid (show j ≤ 4398046511103 from by omega)
      obtain ⟨kd, sp, nu, sz, nw, el, da, dn, dc, zs⟩ := c
      simp only at c0 c1 c2 c3 c4 c5 c6
      obtain ⟨wa, hwa⟩ : ∃ wa, wa = wr.alloc (.cells #[.int .i64 kd, .int .i64 sp, .int .i64 nu, .int .i64 sz, .int .i64 nw, .bool el, .slice da dn dc] 40) := ⟨_, rfl⟩
      have qa : Q wr wa := by rw [hwa]; exact (Q.refl wr).alloc _
      have bxa : wa.heap[wr.heap.size]? = some (.cells #[.int .i64 kd, .int .i64 sp, .int .i64 nu, .int .i64 sz, .int .i64 nw, .bool el, .slice da dn dc] 40 (0, 0)) := by rw [hwa]; exact heap_alloc_new wr _
      have BA := hid (hB.qr qa)
      have HWA := hid hwa.symm
      have BXA := hid bxa
      have OBN := hid (show w.heap.size ≤ wr.heap.size from hB.q.size)
      have FRB := hid (show ∀ b, Fp w.heap.size r b → b < wr.heap.size from hB.la.lt)
      clear hc hcz hB hwa qa bxa hl72
      go_upto_region 8 with fail
      rw [HWA.out]
      clear c0 c1 c2 c3 c4 c5 c6
      have e0 : wa.cell? ⟨wr.heap.size, 0, none⟩ = some (.int .i64 kd) := by rw [cell_of_row _ _ _ _ 40 (0, 0) BXA.out]; rfl
      have e1 : wa.cell? ⟨wr.heap.size, 1, none⟩ = some (.int .i64 sp) := by rw [cell_of_row _ _ _ _ 40 (0, 0) BXA.out]; rfl
      have e2 : wa.cell? ⟨wr.heap.size, 2, none⟩ = some (.int .i64 nu) := by rw [cell_of_row _ _ _ _ 40 (0, 0) BXA.out]; rfl
      have e3 : wa.cell? ⟨wr.heap.size, 3, none⟩ = some (.int .i64 sz) := by rw [cell_of_row _ _ _ _ 40 (0, 0) BXA.out]; rfl
      have e4 : wa.cell? ⟨wr.heap.size, 4, none⟩ = some (.int .i64 nw) := by rw [cell_of_row _ _ _ _ 40 (0, 0) BXA.out]; rfl
      have e5 : wa.cell? ⟨wr.heap.size, 5, none⟩ = some (.bool el) := by rw [cell_of_row _ _ _ _ 40 (0, 0) BXA.out]; rfl
      have e6 : wa.cell? ⟨wr.heap.size, 6, none⟩ = some (.slice da dn dc) := by rw [cell_of_row _ _ _ _ 40 (0, 0) BXA.out]; rfl
      have NIL := hid (show ∀ u, RowI u nilS (([] : List Pk).map (·.n)) from fun u => sub_nil u 3 1)
      by_cases k1 : kd = 1
      · subst k1
        have SN := hid (sent_any BA.out.la BA.out.ok NJ.out sp nu sz el nw)
        go_wp2_with fail
        refine SN.out.mono ?_
        rintro e w3 ⟨rfl, r3, W3⟩
        have B3 := hid (show LB w ab (j + 1) w3 r3 (sntS S sp nu sz el nw) f from BA.out.step W3 (ok_sent BA.out.ok sp nu sz el nw) (fun k hk => by
          have h1 := BA.out.ack k hk
          unfold sntS
          split
          · by_cases e : k = sp.toNat
            · subst e; rw [put_sp]; exact h1
            · simp only [Lo.put, upd_other _ _ e]; exact h1
          · exact h1))
        clear W3
        go_wp2
        clear e0 e1 e2 e3 e4 e5 e6
        refine wp_loop_rounds 1 ?_
        rw [rounds_succ]
        have RT := hid (rtt_any B3.out.la)
        go_wp2_with fail
        refine RT.out.mono ?_
        rintro e w7 ⟨rfl, m7, rfl⟩
        have B7 := hid (B3.out.qr ((Q.refl w3).drewN m7))
        generalize World.drewN w3 m7 = w7 at *
        have WN := hid (window_any B7.out.la)
        have okk := B7.out.ok
        have UN := hid (under_any B7.out.la okk)
        have t1 := okk.win0
        have t2 := okk.lea1
        have t3 := okk.smo0
        have t4 := okk.var0
        have t5 := und_nonneg okk
        clear okk
        go_wp2_with fail
        refine WN.out.mono ?_
        rintro e w8 ⟨rfl, rfl⟩
        go_wp2_with fail
        refine UN.out.mono ?_
        rintro e w9 ⟨rfl, q9⟩
        have B9 := hid (B7.out.qr q9)
        clear q9
        go_wp2
        go_roundw
        case rel => exact ⟨j + 1, by omega, by go_num, _, _, _, B9.out⟩
        case measure => simp [intOf]; omega
      · by_cases k2 : kd = 2
        · subst k2
          have CP := hid (fun (u : World) (qu : Q wa u) => scopy_any ⟨da, dn, dc⟩ zs u GC.out.len (show dn ≤ 8796093022208 from by have h9 : dn * 16 ≤ 140737488351232 := NC.out; omega) ((GC.out.seg.q BA.out.q).q qu))
          have LZ := hid (show zs.length ≤ 4611686018427387904 from by have h8 : zs.length = dn := GC.out.len; have h9 : dn * 16 ≤ 140737488351232 := NC.out; omega)
          have FARL := hid (show ∀ b, Fp w.heap.size r b → wa.heap.size ≤ b → False from fun b e h => by have := BA.out.la.lt b e; omega)
          have s0 : Q wa wa := Q.refl _
          have hob := lt_of_cell e0
          have NFO := hid (show ∀ r' : Nat → Sv, (∀ b, Fp w.heap.size r' b → Fp w.heap.size r b ∨ wa.heap.size ≤ b) → ¬ Fp w.heap.size r' wr.heap.size from fun r' h e => by
            rcases h _ e with e | e
            · have := FRB.out _ e; omega
            · have := lt_of_block BXA.out; omega)
          go_wp2_with fail
          go_region_held3 (fun u => u.cell? ⟨wr.heap.size, 1, none⟩ = some (.int .i64 sp) ∧ u.cell? ⟨wr.heap.size, 2, none⟩ = some (.int .i64 nu) ∧ u.cell? ⟨wr.heap.size, 4, none⟩ = some (.int .i64 nw) ∧ u.cell? ⟨wr.heap.size, 6, none⟩ = some (.slice da dn dc)) (repeat (first | (with_reducible assumption) | (with_reducible refine dcel ?_) | (with_reducible apply And.intro)))
            (first
              | (go_at_call 14; refine (ack_any (N := j) (r := r) (S := S) (l := zs) (BA.out.la.q jC) BA.out.ok NJ.out sp (RowS.seg xC) hxl hxn nu nw farC).mono ?_; rintro e wK ⟨xA, yL, r3, rfl, hxA, hyL, W3, nA, nL⟩; have W3' := Wr.ql jC BA.out.la W3; have kb := W3'.kp; have nb := NFO.out r (fun b e => .inl e); have yK1 := kb.cell e1 nb; have yK2 := kb.cell e2 nb; have yK4 := kb.cell e4 nb; have yK6 := kb.cell e6 nb)
              | (go_at_call 15; refine (CP.out _ (by repeat (first | (with_reducible assumption) | (with_reducible exact Q.refl _) | (with_reducible apply Q.drew) | (with_reducible apply Q.drewN)))).mono ?_; rintro e wC ⟨xx, rfl, qC, xC, newC⟩; have hxl := RowS.len xC; have hxn : xx.n ≤ 4611686018427387904 := (by rw [← hxl]; exact LZ.out); have farC : ∀ b, blk xx.a = some b → ¬ Fp w.heap.size r b := fun b e e2 => FARL.out b e2 (newC b e); have jC : Q wa wC := Q.trans (by repeat (first | (with_reducible assumption) | (with_reducible exact Q.refl _) | (with_reducible apply Q.drew) | (with_reducible apply Q.drewN))) qC; have yC1 := (jC.cell (p := ⟨wr.heap.size, 1, none⟩) hob).trans e1; have yC2 := (jC.cell (p := ⟨wr.heap.size, 2, none⟩) hob).trans e2; have yC4 := (jC.cell (p := ⟨wr.heap.size, 4, none⟩) hob).trans e4; have yC6 := (jC.cell (p := ⟨wr.heap.size, 6, none⟩) hob).trans e6))
          have AP := ack_p BA.out.ok NJ.out sp zs nu nw
          have YC := hid (And.intro yK1 yK6)
          have HXA := hid hxA
          have RY0 := hid hyL
          have NL0 := hid (show ∀ b, blk yL.a = some b → wa.heap.size ≤ b from fun b e => by have := (nL b e).1; have := jC.size; omega)
          have WK := hid W3'
          have ABL := hid (show ab < wa.heap.size from lt_of_block BA.out.ar)
          clear CP NFO hyL hxA W3 W3' kb nb yK1 yK2 yK4 yK6 qC xC newC hxl hxn farC jC yC1 yC2 yC4 yC6 nA nL s0 hob FARL LZ
          obtain ⟨xa, xn, xc⟩ := xA
          obtain ⟨ya, yn, yc⟩ := yL
          have hxl : (ackA S sp zs nu nw).length = xn := by have := HXA.out.len; simpa using this
          by_cases hE : ackE S sp zs nu nw = 0
          · by_cases hA : ackA S sp zs nu nw = []
            · have hno := AP.no (.inl hA)
              have B3 := hid (show LB w ab (j + 1) wK r3 (ackS S sp zs nu nw) f from BA.out.step WK.out (AP.ok.more (Nat.le_succ j)) (fun k hk => by rw [hno.2.2.1 k hk]; exact BA.out.ack k hk))
              have RY := hid RY0.out
              have hyn0 : yn = 0 := by have := RY0.out.len; rw [hno.2.1] at this; simpa using this.symm
              have LF := hid (show ∀ i, i < yn → ∃ m : Nat, m < 3 ∧ sp = (m : Int) ∧ (((ackL S sp zs nu nw).map (·.n)).getD i 0) < f m from fun i hi => by omega)
              have HX0 := hid (show xn = 0 from by rw [hA] at hxl; simpa using hxl.symm)
              have g1 : (0 < xn) = False := by have := HX0.out; simp; omega
              have g2 : decide ((0 : Int) < (xn : Int)) = false := by have := HX0.out; simp; omega
              have HYN := hid hyn0
              rw [hE]
              clear hE hA hno AP hxl hyn0
              generalize ackL S sp zs nu nw = LL0 at *
              go_wp2
              clear e0 e1 e2 e3 e4 e5 e6
              go_loopw [108] (fun i2 wx => ∃ j2 : Nat, j2 ≤ yn ∧ i2 = .int .i64 j2 ∧ wK = wx) (fun i2 _ => yn - (intOf i2).toNat)
              case atStart => exact ⟨0, Nat.zero_le _, rfl, rfl⟩
              case round =>
                obtain ⟨j2, hj2, rfl, rfl⟩ := hrel
                by_cases hl2 : j2 < yn
                · have hl2' : (j2 : Int) < (yn : Int) := by omega
                  obtain ⟨m, hm, hsp, hnf⟩ := LF.out j2 hl2
                  obtain ⟨yg, yo, hya, _, hyc⟩ := RY.out.some_ (show 0 < yn by omega)
                  simp only at hya
                  subst hya
                  have cy : World.cell? wK ⟨yg, yo + j2, none⟩ = some (.int .i64 ((LL0.map (·.n)).getD j2 0)) := hyc j2 _ (by
                    have hl := RY.out.len
                    simp only at hl
                    rw [List.getElem?_map, List.getD_eq_getElem?_getD, List.getElem?_eq_getElem (by omega)]; rfl)
                  have cf := B3.out.ar.cell hm
                  have hyn : yn ≤ 9223372036854775807 := by
                    rcases RY.out.2 with ⟨_, e, _⟩ | ⟨_, _, _, _, _, g1, g2, _⟩
                    · simp only at e; omega
                    · simp only [maxLen] at g1 g2; omega
                  have hw2 : IntKind.i64.wrap ((j2 : Int) + 1) = ((j2 + 1 : Nat) : Int) := by rw [IntKind.wrap_i64]; omega
                  generalize (LL0.map (·.n)).getD j2 0 = nv at *
                  have d1 : decide (f m ≤ nv) = false := by simp; omega
                  have hm3 : (m : Int) < 3 := by omega
                  have d2 : decide ((m : Int) < 0) = false := by simp
                  have d3 : decide ((2 : Int) < (m : Int)) = false := by simp; omega
                  have HNF := hid hnf
                  clear hnf hyc
                  (first | subst hsp | (obtain rfl : k = m := by omega))
                  go_wp2
                  go_roundw
                  case rel => exact ⟨j2 + 1, by omega, by go_num, by first | rfl | trivial⟩
                  case measure => simp [intOf]; omega
                · obtain rfl : j2 = yn := by omega
                  clear hj2 hl2
                  have RT := hid (rtt_any B3.out.la)
                  go_wp2_with fail
                  refine RT.out.mono ?_
                  rintro e w7 ⟨rfl, m7, rfl⟩
                  have B7 := hid (B3.out.qr ((Q.refl wK).drewN m7))
                  generalize World.drewN wK m7 = w7 at *
                  have WN := hid (window_any B7.out.la)
                  have okk := B7.out.ok
                  have UN := hid (under_any B7.out.la okk)
                  have t1 := okk.win0
                  have t2 := okk.lea1
                  have t3 := okk.smo0
                  have t4 := okk.var0
                  have t5 := und_nonneg okk
                  clear okk
                  go_wp2_with fail
                  refine WN.out.mono ?_
                  rintro e w8 ⟨rfl, rfl⟩
                  go_wp2_with fail
                  refine UN.out.mono ?_
                  rintro e w9 ⟨rfl, q9⟩
                  have B9 := hid (B7.out.qr q9)
                  clear q9
                  go_wp2
                  go_roundw
                  case rel => exact ⟨j + 1, by omega, by go_num, _, _, _, B9.out⟩
                  case measure => simp [intOf]; omega
            · obtain ⟨k, hk, rfl, hz0, hl0, hak, hak2, hlost, _⟩ := AP.yes hE hA
              obtain ⟨sg, so, rfl, hsc⟩ := seg_last ((GC.out.seg.q BA.out.q).keep WK.out.kp (fun b e1 e2 => by
                have h1 := (BA.out.fp b e2).1
                obtain ⟨b', o', e3, h3⟩ := GC.out.seg (by intro e; simp only at e; rw [e] at hz0; simp at hz0)
                have h4 := lt_of_cell (h3 0 hz0).c0
                rw [e3] at e1
                simp [blk] at e1
                omega)) hz0
              simp only at hsc
              rw [show zs.length = dn from GC.out.len] at hsc hz0
              have hnew := lt_of_block (ar_keep BA.out.ar WK.out.kp (fun e => (BA.out.fp ab e).2 rfl))
              have arK := ar_keep BA.out.ar WK.out.kp (fun e => (BA.out.fp ab e).2 rfl)
              have caK := arK.cell hk
              have faK := arK.free k
              have y1 := YC.out.1
              have y6 := YC.out.2
              obtain ⟨q, hqq⟩ : ∃ q, q = dn - 1 := ⟨_, rfl⟩
              rw [← hqq] at hsc
              have hdn : dn ≤ 8796093022208 := by have h9 : dn * 16 ≤ 140737488351232 := NC.out; omega
              have hwd : IntKind.i64.wrap ((dn : Int) - 1) = (q : Int) := by rw [IntKind.wrap_i64]; omega
              have hq1 : (q : Int) < (dn : Int) := by omega
              have hq2 : q < dn := by omega
              have hk3 : (k : Int) < 3 := by omega
              have fpK : ∀ b, Fp w.heap.size r3 b → w.heap.size ≤ b ∧ b ≠ ab := fun b e => by
                rcases WK.out.fr b e with e1 | e1
                · exact BA.out.fp b e1
                · exact ⟨by have := BA.out.q.size; omega, by have := ABL.out; omega⟩
              have qK := (Wr.fresh BA.out.q (fun b e => (BA.out.fp b e).1) WK.out).1
              have B3' := LB.told (v := max (f k) (lastTo zs)) hk WK.out.la (AP.ok.more (Nat.le_succ j)) qK fpK arK BA.out.ab (fun i hi => by
                by_cases e : i = k
                · subst e; rw [if_pos rfl]; have := BA.out.ack i hi; omega
                · rw [if_neg e, hak2 i hi e]; exact BA.out.ack i hi)
              obtain ⟨wU, hwU⟩ : ∃ wU, wU = (wK.setCell ⟨ab, k, none⟩ (.int .i64 (max (f k) (lastTo zs)))).drew := ⟨_, rfl⟩
              rw [← hwU] at B3'
              have B3 := hid B3'
              have RY := hid (show RowI wU ⟨ya, yn, yc⟩ ((ackL S k zs nu nw).map (·.n)) from by
                rw [hwU]
                exact Sub.keep RY0.out (((Keep.refl (fun b => b = ab) wK).setCell ab k _ (.inl rfl)).drew) (fun b e1 e2 => by have := NL0.out b e1; have := ABL.out; omega))
              obtain ⟨f2, hf2⟩ : ∃ f2 : Nat → Int, f2 = fun i => if i = k then max (f k) (lastTo zs) else f i := ⟨_, rfl⟩
              rw [← hf2] at B3
              have LF := hid (show ∀ i, i < yn → ∃ m : Nat, m < 3 ∧ ((k : Nat) : Int) = (m : Int) ∧ (((ackL S k zs nu nw).map (·.n)).getD i 0) < f2 m from fun i hi => by
                have hl : (ackL S k zs nu nw).length = yn := by have := RY0.out.len; simpa using this
                refine ⟨k, hk, rfl, ?_⟩
                rw [List.getD_eq_getElem?_getD, List.getElem?_map, List.getElem?_eq_getElem (by omega), hf2]
                simp only [if_pos]
                have h1 := hlost ((ackL S k zs nu nw)[i]'(by omega)) (List.getElem_mem _)
                have h2 := BA.out.ack k hk
                show ((ackL S k zs nu nw)[i]'(by omega)).n < _
                omega)
              have HWU := hid hwU.symm
              have g1 : 0 < xn := by rw [← hxl]; exact List.length_pos_iff.2 hA
              have g2 : decide ((0 : Int) < (xn : Int)) = true := by simp; omega
              rw [hE]
              clear hE hA AP hxl hz0 hl0 hak hak2 hlost hnew arK hqq fpK qK B3' hwU hf2 hdn YC HXA RY0 WK
              generalize ackL S k zs nu nw = LL0 at *
              go_wp2_with fail
              go_still_tail 17, (by kernel_rfl)
              go_wp2
              rw [HWU.out]
              clear caK faK y1 y6 hsc
              clear e0 e1 e2 e3 e4 e5 e6
              go_loopw [108] (fun i2 wx => ∃ j2 : Nat, j2 ≤ yn ∧ i2 = .int .i64 j2 ∧ wU = wx) (fun i2 _ => yn - (intOf i2).toNat)
              case atStart => exact ⟨0, Nat.zero_le _, rfl, rfl⟩
              case round =>
                obtain ⟨j2, hj2, rfl, rfl⟩ := hrel
                by_cases hl2 : j2 < yn
                · have hl2' : (j2 : Int) < (yn : Int) := by omega
                  obtain ⟨m, hm, hsp, hnf⟩ := LF.out j2 hl2
                  obtain ⟨yg, yo, hya, _, hyc⟩ := RY.out.some_ (show 0 < yn by omega)
                  simp only at hya
                  subst hya
                  have cy : World.cell? wU ⟨yg, yo + j2, none⟩ = some (.int .i64 ((LL0.map (·.n)).getD j2 0)) := hyc j2 _ (by
                    have hl := RY.out.len
                    simp only at hl
                    rw [List.getElem?_map, List.getD_eq_getElem?_getD, List.getElem?_eq_getElem (by omega)]; rfl)
                  have cf := B3.out.ar.cell hm
                  have hyn : yn ≤ 9223372036854775807 := by
                    rcases RY.out.2 with ⟨_, e, _⟩ | ⟨_, _, _, _, _, g1, g2, _⟩
                    · simp only at e; omega
                    · simp only [maxLen] at g1 g2; omega
                  have hw2 : IntKind.i64.wrap ((j2 : Int) + 1) = ((j2 + 1 : Nat) : Int) := by rw [IntKind.wrap_i64]; omega
                  generalize (LL0.map (·.n)).getD j2 0 = nv at *
                  have d1 : decide (f2 m ≤ nv) = false := by simp; omega
                  have hm3 : (m : Int) < 3 := by omega
                  have d2 : decide ((m : Int) < 0) = false := by simp
                  have d3 : decide ((2 : Int) < (m : Int)) = false := by simp; omega
                  have HNF := hid hnf
                  clear hnf hyc
                  (first | subst hsp | (obtain rfl : k = m := by omega))
                  go_wp2
                  go_roundw
                  case rel => exact ⟨j2 + 1, by omega, by go_num, by first | rfl | trivial⟩
                  case measure => simp [intOf]; omega
                · obtain rfl : j2 = yn := by omega
                  clear hj2 hl2
                  have RT := hid (rtt_any B3.out.la)
                  go_wp2_with fail
                  refine RT.out.mono ?_
                  rintro e w7 ⟨rfl, m7, rfl⟩
                  have B7 := hid (B3.out.qr ((Q.refl wU).drewN m7))
                  generalize World.drewN wU m7 = w7 at *
                  have WN := hid (window_any B7.out.la)
                  have okk := B7.out.ok
                  have UN := hid (under_any B7.out.la okk)
                  have t1 := okk.win0
                  have t2 := okk.lea1
                  have t3 := okk.smo0
                  have t4 := okk.var0
                  have t5 := und_nonneg okk
                  clear okk
                  go_wp2_with fail
                  refine WN.out.mono ?_
                  rintro e w8 ⟨rfl, rfl⟩
                  go_wp2_with fail
                  refine UN.out.mono ?_
                  rintro e w9 ⟨rfl, q9⟩
                  have B9 := hid (B7.out.qr q9)
                  clear q9
                  go_wp2
                  go_roundw
                  case rel => exact ⟨j + 1, by omega, by go_num, _, _, _, B9.out⟩
                  case measure => simp [intOf]; omega
          · have hno := AP.no (.inr hE)
            have hb1 : (ackE S sp zs nu nw == 0) = false := by simpa using hE
            have B3 := hid (show LB w ab (j + 1) wK r3 (ackS S sp zs nu nw) f from BA.out.step WK.out (AP.ok.more (Nat.le_succ j)) (fun k hk => by rw [hno.2.2.1 k hk]; exact BA.out.ack k hk))
            have RY := hid RY0.out
            have hyn0 : yn = 0 := by have := RY0.out.len; rw [hno.2.1] at this; simpa using this.symm
            have LF := hid (show ∀ i, i < yn → ∃ m : Nat, m < 3 ∧ sp = (m : Int) ∧ (((ackL S sp zs nu nw).map (·.n)).getD i 0) < f m from fun i hi => by omega)
            have HYN := hid hyn0
            have HEE := hid hE
            clear hE hno AP hxl hyn0
            generalize ackL S sp zs nu nw = LL0 at *
            generalize ackE S sp zs nu nw = EE0 at *
            go_wp2
            clear e0 e1 e2 e3 e4 e5 e6
            go_loopw [108] (fun i2 wx => ∃ j2 : Nat, j2 ≤ yn ∧ i2 = .int .i64 j2 ∧ wK = wx) (fun i2 _ => yn - (intOf i2).toNat)
            case atStart => exact ⟨0, Nat.zero_le _, rfl, rfl⟩
            case round =>
              obtain ⟨j2, hj2, rfl, rfl⟩ := hrel
              by_cases hl2 : j2 < yn
              · have hl2' : (j2 : Int) < (yn : Int) := by omega
                obtain ⟨m, hm, hsp, hnf⟩ := LF.out j2 hl2
                obtain ⟨yg, yo, hya, _, hyc⟩ := RY.out.some_ (show 0 < yn by omega)
                simp only at hya
                subst hya
                have cy : World.cell? wK ⟨yg, yo + j2, none⟩ = some (.int .i64 ((LL0.map (·.n)).getD j2 0)) := hyc j2 _ (by
                  have hl := RY.out.len
                  simp only at hl
                  rw [List.getElem?_map, List.getD_eq_getElem?_getD, List.getElem?_eq_getElem (by omega)]; rfl)
                have cf := B3.out.ar.cell hm
                have hyn : yn ≤ 9223372036854775807 := by
                  rcases RY.out.2 with ⟨_, e, _⟩ | ⟨_, _, _, _, _, g1, g2, _⟩
                  · simp only at e; omega
                  · simp only [maxLen] at g1 g2; omega
                have hw2 : IntKind.i64.wrap ((j2 : Int) + 1) = ((j2 + 1 : Nat) : Int) := by rw [IntKind.wrap_i64]; omega
                generalize (LL0.map (·.n)).getD j2 0 = nv at *
                have d1 : decide (f m ≤ nv) = false := by simp; omega
                have hm3 : (m : Int) < 3 := by omega
                have d2 : decide ((m : Int) < 0) = false := by simp
                have d3 : decide ((2 : Int) < (m : Int)) = false := by simp; omega
                have HNF := hid hnf
                clear hnf hyc
                (first | subst hsp | (obtain rfl : k = m := by omega))
                go_wp2
                go_roundw
                case rel => exact ⟨j2 + 1, by omega, by go_num, by first | rfl | trivial⟩
                case measure => simp [intOf]; omega
              · obtain rfl : j2 = yn := by omega
                clear hj2 hl2
                have RT := hid (rtt_any B3.out.la)
                go_wp2_with fail
                refine RT.out.mono ?_
                rintro e w7 ⟨rfl, m7, rfl⟩
                have B7 := hid (B3.out.qr ((Q.refl wK).drewN m7))
                generalize World.drewN wK m7 = w7 at *
                have WN := hid (window_any B7.out.la)
                have okk := B7.out.ok
                have UN := hid (under_any B7.out.la okk)
                have t1 := okk.win0
                have t2 := okk.lea1
                have t3 := okk.smo0
                have t4 := okk.var0
                have t5 := und_nonneg okk
                clear okk
                go_wp2_with fail
                refine WN.out.mono ?_
                rintro e w8 ⟨rfl, rfl⟩
                go_wp2_with fail
                refine UN.out.mono ?_
                rintro e w9 ⟨rfl, q9⟩
                have B9 := hid (B7.out.qr q9)
                clear q9
                go_wp2
                go_roundw
                case rel => exact ⟨j + 1, by omega, by go_num, _, _, _, B9.out⟩
                case measure => simp [intOf]; omega
        · by_cases k3 : kd = 3
          · subst k3
            have FR := hid (fire_any BA.out.la BA.out.ok NJ.out nw)
            go_wp2_with fail
            refine FR.out.mono ?_
            rintro e w3 ⟨S3, L3, sp3, pb3, E3, ⟨y3, r3, rfl, hy3, W3, new3⟩, FP3⟩
            have B3 := hid (show LB w ab (j + 1) w3 r3 S3 f from BA.out.step W3 (FP3.ok.more (Nat.le_succ j)) (fun k hk => by rw [FP3.ack k hk]; exact BA.out.ack k hk))
            have RY := hid hy3
            have LF := hid (show ∀ i, i < y3.n → ∃ m : Nat, m < 3 ∧ sp3 = (m : Int) ∧ ((L3.map (·.n)).getD i 0) < f m from fun i hi => by
              have hl := hy3.len
              have hi' : i < L3.length := by simp at hl; omega
              obtain ⟨m, hm, e1, e2⟩ := FP3.lost (L3[i]) (List.getElem_mem _)
              refine ⟨m, hm, e1, ?_⟩
              rw [List.getD_eq_getElem?_getD, List.getElem?_map, List.getElem?_eq_getElem hi']
              have := BA.out.ack m hm
              show (L3[i]).n < _
              omega)
            clear hy3 W3 new3 FP3
            obtain ⟨ya, yn, yc⟩ := y3
            go_wp2
            clear e0 e1 e2 e3 e4 e5 e6
            go_loopw [108] (fun i2 wx => ∃ j2 : Nat, j2 ≤ yn ∧ i2 = .int .i64 j2 ∧ w3 = wx) (fun i2 _ => yn - (intOf i2).toNat)
            case atStart => exact ⟨0, Nat.zero_le _, rfl, rfl⟩
            case round =>
              obtain ⟨j2, hj2, rfl, rfl⟩ := hrel
              by_cases hl2 : j2 < yn
              · have hl2' : (j2 : Int) < (yn : Int) := by omega
                obtain ⟨m, hm, hsp, hnf⟩ := LF.out j2 hl2
                obtain ⟨yg, yo, hya, _, hyc⟩ := RY.out.some_ (show 0 < yn by omega)
                simp only at hya
                subst hya
                have cy : World.cell? w3 ⟨yg, yo + j2, none⟩ = some (.int .i64 ((L3.map (·.n)).getD j2 0)) := hyc j2 _ (by
                  have hl := RY.out.len
                  simp only at hl
                  rw [List.getElem?_map, List.getD_eq_getElem?_getD, List.getElem?_eq_getElem (by omega)]; rfl)
                have cf := B3.out.ar.cell hm
                have hyn : yn ≤ 9223372036854775807 := by
                  rcases RY.out.2 with ⟨_, e, _⟩ | ⟨_, _, _, _, _, g1, g2, _⟩
                  · simp only at e; omega
                  · simp only [maxLen] at g1 g2; omega
                have hw2 : IntKind.i64.wrap ((j2 : Int) + 1) = ((j2 + 1 : Nat) : Int) := by rw [IntKind.wrap_i64]; omega
                generalize (L3.map (·.n)).getD j2 0 = nv at *
                have d1 : decide (f m ≤ nv) = false := by simp; omega
                have hm3 : (m : Int) < 3 := by omega
                have d2 : decide ((m : Int) < 0) = false := by simp
                have d3 : decide ((2 : Int) < (m : Int)) = false := by simp; omega
                have HNF := hid hnf
                clear hnf hyc
                (first | subst hsp | (obtain rfl : k = m := by omega))
                go_wp2
                go_roundw
                case rel => exact ⟨j2 + 1, by omega, by go_num, by first | rfl | trivial⟩
                case measure => simp [intOf]; omega
              · obtain rfl : j2 = yn := by omega
                clear hj2 hl2
                have RT := hid (rtt_any B3.out.la)
                go_wp2_with fail
                refine RT.out.mono ?_
                rintro e w7 ⟨rfl, m7, rfl⟩
                have B7 := hid (B3.out.qr ((Q.refl w3).drewN m7))
                generalize World.drewN w3 m7 = w7 at *
                have WN := hid (window_any B7.out.la)
                have okk := B7.out.ok
                have UN := hid (under_any B7.out.la okk)
                have t1 := okk.win0
                have t2 := okk.lea1
                have t3 := okk.smo0
                have t4 := okk.var0
                have t5 := und_nonneg okk
                clear okk
                go_wp2_with fail
                refine WN.out.mono ?_
                rintro e w8 ⟨rfl, rfl⟩
                go_wp2_with fail
                refine UN.out.mono ?_
                rintro e w9 ⟨rfl, q9⟩
                have B9 := hid (B7.out.qr q9)
                clear q9
                go_wp2
                go_roundw
                case rel => exact ⟨j + 1, by omega, by go_num, _, _, _, B9.out⟩
                case measure => simp [intOf]; omega
          · have b1 : (kd == 1) = false := by simpa using k1
            have b2 : (kd == 2) = false := by simpa using k2
            have b3 : (kd == 3) = false := by simpa using k3
            have K1 := hid k1
            clear k1 k2 k3
            have B3 := hid (show LB w ab (j + 1) wa r S f from ⟨BA.out.la, BA.out.ok.more (Nat.le_succ j), BA.out.q, BA.out.fp, BA.out.ar, BA.out.ab, BA.out.ack⟩)
            go_wp2
            clear e0 e1 e2 e3 e4 e5 e6
            refine wp_loop_rounds 1 ?_
            rw [rounds_succ]
            have RT := hid (rtt_any B3.out.la)
            go_wp2_with fail
            refine RT.out.mono ?_
            rintro e w7 ⟨rfl, m7, rfl⟩
            have B7 := hid (B3.out.qr ((Q.refl wa).drewN m7))
            generalize World.drewN wa m7 = w7 at *
            have WN := hid (window_any B7.out.la)
            have okk := B7.out.ok
            have UN := hid (under_any B7.out.la okk)
            have t1 := okk.win0
            have t2 := okk.lea1
            have t3 := okk.smo0
            have t4 := okk.var0
            have t5 := und_nonneg okk
            clear okk
            go_wp2_with fail
            refine WN.out.mono ?_
            rintro e w8 ⟨rfl, rfl⟩
            go_wp2_with fail
            refine UN.out.mono ?_
            rintro e w9 ⟨rfl, q9⟩
            have B9 := hid (B7.out.qr q9)
            clear q9
            go_wp2
            go_roundw
            case rel => exact ⟨j + 1, by omega, by go_num, _, _, _, B9.out⟩
            case measure => simp [intOf]; omega
    · obtain rfl : j = len := by omega
      have BF := hid hB
      clear hB hl72 hlt hj
      go_wp2_with fail
      refine (AW.out wr).mono ?_
      rintro e w6 ⟨rfl, q6⟩
      have Q6 := hid (BF.out.q.trans q6)
      clear q6
      go_wp2
      go_ret
      exact ⟨rfl, Q6.out⟩

set_option maxRecDepth 100000 in
theorem lifted (os : Os) (started : os.Started) (H : Type) (enc : TypeId × Value → H) :
    ReturnsInHanded {} Try.checked os 5 .any (Rows.lossBoundsSpec.pre6 enc Try.prog Try.f5 Rows.lossBoundsRow.domain false) (Rows.lossBoundsSpec.post enc Try.prog Try.f5 false true false false) := by
  refine returnsInHanded_of_change_sized (C := Try.checked) own_knob started (by kernel_rfl) Try.func5
    (ChangeSpec.witness6 (enc := enc) (C := Try.checked) false ⟨#[], #[.slice none 0 0], []⟩ 8 (by kernel_rfl) (by kernel_rfl) (by kernel_rfl) (by kernel_rfl)) ?_
  intro W base args ds gs before hval0 hW hcnd hsz0 _
  have hval : ∀ (j : Nat) t v, Try.f5.params[j]? = some t → args[j]? = some v → Value.okWide Try.prog W .any base t v := hval0
  have hsz : (DataW.weightsEach Try.prog (Try.f5.params.toList ++ Rows.lossBoundsSpec.plain.varTypes Try.prog) (ds ++ gs)).all (· ≤ reachBytes) = true := hsz0
  have hW' := hW
  obtain ⟨p, q, hA0, hV, rfl, hfz, hnd⟩ := hW
  have hA : DataW.TrodAll enc Try.prog W 0 (fun _ => true) true Try.f5.params.toList args.toList ds p := hA0
  rw [Try.params5] at hA hval hsz
  obtain ⟨v0, vs0, d0, ds0, p0, q0, hargs, rfl, rfl, h0, r0⟩ := trodAll_cons hA
  obtain ⟨rfl, rfl, rfl⟩ := trodAll_nil r0
  obtain rfl : args = #[v0] := by cases args; simp_all
  obtain ⟨rfl, rfl⟩ := trodVars_none hV
  obtain ⟨a0, len0, cap0, rfl⟩ := okWide_slice Try.underlying33 (hval 0 33 v0 rfl rfl)
  have k0 := h0
  have lt0 : ∀ x ∈ p0, x.block < W.heap.size := by obtain ⟨m, hm⟩ := k0; exact DataW.trod_lt m _ _ _ hm
  obtain ⟨z0, zl0, zs0, zb0, zc0, ze0, zd0⟩ := open_ops h0
  have zn0 := len_le_ops hsz (j := 0) rfl rfl zd0
  clear hA0 hval0
  refine (walk a0 len0 cap0 z0 W zs0 zl0 zn0).mono fun e W' ⟨he, bel⟩ => ?_
  subst he
  exact ⟨_, rfl, _, _, _, [], _, [], hW', trodAll_mk1 (shut_bool Try.underlying4 _), (trodAll_cons_mk (Below.trod laid_out (by kernel_rfl) (of_decide_eq_true (by kernel_rfl)) k0 bel lt0) trodAll_mk0), rfl, bel.frame _, fun h => by cases h⟩

theorem over : Rows.lossBoundsRow.holds Try.pinned (OpenSpec.ofChange Rows.lossBoundsSpec) :=
  OpenClaim.holds_of_wide 5 Try.f5 rfl rfl rfl rfl rfl rfl rfl ⟨rfl, rfl, rfl, rfl, rfl⟩ rfl rfl rfl rfl rfl (by kernel_rfl) Try.func5 (by kernel_rfl)
    (of_decide_eq_true (by kernel_rfl)) (by unfold Func.isWrapper; first | (rw [if_pos (by decide +kernel)]; kernel_rfl) | (rw [if_neg (by decide +kernel)]; exact ⟨rfl, rfl⟩))
    (fun os started H enc _ => lifted os started H enc)

end Go.Proofs.Ytjhihcmemnhbbaa.lossBounds
namespace Go.Proofs.Ytjhihcmemnhbbaa

/-- The statement. -/
theorem lossBounds_holds : Rows.LossBoundsSaid := lossBounds.over
#print axioms lossBounds_holds
end Go.Proofs.Ytjhihcmemnhbbaa
