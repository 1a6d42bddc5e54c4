/-
  What shake's New does: a contract that the statements' walks use.
-/
import Derived.Test.YtekpepnonhbkcaaNwS
namespace Go.Proofs.Ytekpepnonhbkcaa
open Go.RowKit
set_option linter.unusedVariables false
set_option maxRecDepth 20000

/-- Whether a side may be made of it. -/
def okC (pv : Int) (ss : List ByteArray) (n : Nat) : Bool := decide (1 ≤ pv) && decide (pv ≤ 4611686018427387903) && okTs ss && decide (n ≤ 1024)
theorem ccells_set (sv : Bool) (rs : List Int) (pv : Int) (t p y z : Sv) (hl : rs.length = 32) : ((ccells sv rs pv t p).set 34 (.slice y.a y.n y.c)).set 35 (.slice z.a z.n z.c) = ccells sv rs pv y z := by
  unfold ccells
  rw [show 34 = 33 + 1 from rfl, show 35 = 34 + 1 from rfl, List.set_cons_succ, List.set_cons_succ, List.set_append_right _ _ (by simp [hl]), List.set_append_right _ _ (by simp [hl])]
  simp [hl]
theorem CB.set2 {w : World} {cb : Nat} {sv : Bool} {rs : List Int} {pv : Int} {t p y z : Sv} (h : CB w cb sv rs pv t p) (hl : rs.length = 32) :
    CB ((w.setCell ⟨cb, 34, none⟩ (.slice y.a y.n y.c)).setCell ⟨cb, 35, none⟩ (.slice z.a z.n z.c)) cb sv rs pv y z := by
  have h1 := heap_setCell_same w cb 34 _ 26 (.slice y.a y.n y.c) h
  have h2 := heap_setCell_same _ cb 35 _ 26 (.slice z.a z.n z.c) h1
  unfold CB
  rw [h2, ← ccells_set sv rs pv t p y z hl]
  simp
theorem sub_ne_sh {w : World} {e size n cap : Nat} {a : Option Addr} {vs : List Value} {sb : Nat} {S : Sh} (h : Sub w e size a n cap vs) (he : e ≠ 65) (hs : ShAt w sb S) : ∀ b, blk a = some b → b ≠ sb := by
  intro b e1 e2
  subst e2
  rcases h.2 with ⟨h1, _⟩ | ⟨g, off, cur, h1, hg, _⟩
  · rw [h1] at e1; cases e1
  · rw [h1] at e1
    simp only [blk, Option.map_some, Option.some.injEq] at e1
    subst e1
    rw [hs.row] at hg
    simp at hg
    exact he hg.2.symm
theorem chL_len {rs : List Int} {pv : Int} {ss : List ByteArray} {ps : List Int} (hl : rs.length = 32) (ok : okTs ss = true) (hp : ps.length ≤ 1024) : (chL rs pv ss ps).length ≤ 2000 := by
  have h1 := okTs_iff ok
  have h2 := ptB_len (ss := ss) (fun x hx => (h1.2.2 x hx).2)
  unfold chL msgL grL ptL
  simp only [List.length_append, List.length_cons, List.length_nil, be_length, hl]
  omega
/-- A side that New made. -/
structure Made (w w' : World) (sb : Nat) (sv : Bool) (rs : List Int) (pv : Int) (ss : List ByteArray) (ps : List Int) (t p x o : Sv) (wb : Nat) (Fs : List Fl) : Prop where
  q : Q w w'
  sd : Sd w' w.heap.size sb { S0 (ccells sv rs pv t p) ⟨some ⟨wb, 0, none⟩, (waitsL sv).length, (waitsL sv).length⟩ with said := x, out := o } (if sv = true then [] else chL rs pv ss ps) Fs
  fl : Fs.map con = if sv = true then [] else [(0, chL rs pv ss ps)]
  tr : RowT w' t ss
  pr : Row w' p ps
  wr : w'.heap[wb]? = some (.cells (waitsC (waitsL sv)).toArray 72 (0, 0))
  tn : New w.heap.size t
  pn : New w.heap.size p
  wn : w.heap.size ≤ wb
theorem Sd.zero {w : World} {B sb : Nat} {own : List Value} {wv : Sv} (h : ShAt w sb (S0 own wv)) (hB : B ≤ sb) : Sd w B sb (S0 own wv) [] [] :=
  ⟨h, hB, sub_nil _ _ _, sub_nil _ _ _, fun F hF => (by cases hF), fun b e => (by cases e), fun b e => (by cases e), fun F hF => (by cases hF), List.Pairwise.nil⟩
set_option maxHeartbeats 16000000 in
theorem new_any (sv : Bool) (rs : List Int) (pv : Int) (t p : Sv) (ss : List ByteArray) (ps : List Int) (w : World) (hl : rs.length = 32) (ht : SegT w t.a ss) (htl : ss.length = t.n) (hp : Seg w p.a ps) (hpl : ps.length = p.n) :
    Calls Try.prog 6 #[.agg (ccells sv rs pv t p).toArray] w fun e w' => (okC pv ss p.n = false ∧ e = .returned (.tuple #[.pointer none, .int .i64 100]) ∧ Q w w') ∨ (okC pv ss p.n = true ∧ ∃ sb t' p' x o wb Fs, e = .returned (.tuple #[.pointer (some ⟨sb, 0, none⟩), .int .i64 0]) ∧ Made w w' sb sv rs pv ss ps t' p' x o wb Fs) := by
  obtain ⟨ta, tn, tc⟩ := t
  obtain ⟨pa, pn, pc⟩ := p
  dsimp only at htl hpl ht hp ⊢
  have HL := hid hl
  have HT := hid ht
  have HP := hid hp
  have LT := hid htl
  have LP := hid hpl
  clear hl ht htl hp hpl
  by_cases h1 : pv < 1
  · have b1 : decide (pv < 1) = true := by simpa using h1
    have HX := hid (show okC pv ss pn = false by simp [okC]; intro h; omega)
    go_enter Try.func6, Try.ntmps6
    go_upto_region 1 with fail
    generalize hw1 : World.alloc w _ = v1
    have Q1 := hid (show Q w v1 by rw [← hw1]; exact (Q.refl w).alloc _)
    have c33 := CB.c33 (show CB v1 w.heap.size sv rs pv ⟨ta, tn, tc⟩ ⟨pa, pn, pc⟩ by rw [← hw1]; exact heap_alloc_new w _) HL.out
    clear hw1
    generalize w.heap.size = cb at *
    go_wp2
    go_ret2
    exact .inl ⟨HX.out, rfl, Q1.out⟩
  by_cases h2 : pv > 4611686018427387903
  · have b1 : decide (pv < 1) = false := by simpa using h1
    have b2 : decide (pv > 4611686018427387903) = true := by simpa using h2
    have HX := hid (show okC pv ss pn = false by simp [okC]; intro _ h; omega)
    go_enter Try.func6, Try.ntmps6
    go_upto_region 1 with fail
    generalize hw1 : World.alloc w _ = v1
    have Q1 := hid (show Q w v1 by rw [← hw1]; exact (Q.refl w).alloc _)
    have B1 := hid (show CB v1 w.heap.size sv rs pv ⟨ta, tn, tc⟩ ⟨pa, pn, pc⟩ by rw [← hw1]; exact heap_alloc_new w _)
    clear hw1
    generalize hcb : w.heap.size = cb at *
    have HCB := hid hcb
    clear hcb
    have c33 := B1.out.c33 HL.out
    have c34 := B1.out.c34 HL.out
    have c35 := B1.out.c35 HL.out
    dsimp only at c34 c35
    go_wp2
    go_ret2
    exact .inl ⟨HX.out, rfl, Q1.out⟩
  have b1 : decide (pv < 1) = false := by simpa using h1
  have b2 : decide (pv > 4611686018427387903) = false := by simpa using h2
  cases h3 : okTs ss with
  | false =>
    have HX := hid (show okC pv ss pn = false by simp [okC, h3])
    have H3 := hid h3
    clear h3
    go_enter Try.func6, Try.ntmps6
    go_upto_region 1 with fail
    generalize hw1 : World.alloc w _ = v1
    have Q1 := hid (show Q w v1 by rw [← hw1]; exact (Q.refl w).alloc _)
    have B1 := hid (show CB v1 w.heap.size sv rs pv ⟨ta, tn, tc⟩ ⟨pa, pn, pc⟩ by rw [← hw1]; exact heap_alloc_new w _)
    clear hw1
    generalize hcb : w.heap.size = cb at *
    have HCB := hid hcb
    clear hcb
    have c33 := B1.out.c33 HL.out
    have c34 := B1.out.c34 HL.out
    have c35 := B1.out.c35 HL.out
    dsimp only at c34 c35
    go_wp2_with fail
    refine (rightProtos_any ta tn tc ss v1 LT.out (HT.out.q Q1.out)).mono ?_
    rintro e w2 ⟨rfl, rfl⟩
    rw [H3.out]
    go_wp2
    go_ret2
    exact .inl ⟨HX.out, rfl, Q1.out⟩
  | true =>
    have H3 := hid h3
    clear h3
    by_cases h4 : pn ≤ 1024
    · have HX := hid (show okC pv ss pn = true by simp [okC, H3.out]; omega)
      have H4 := hid (show decide (pn ≤ 1024) = true by simpa using h4)
      have HP4 := hid h4
      have HPV := hid (show pv ≤ 9223372036854775807 by omega)
      clear h4
      go_enter Try.func6, Try.ntmps6
      go_upto_region 1 with fail
      generalize hw1 : World.alloc w _ = v1
      have Q1 := hid (show Q w v1 by rw [← hw1]; exact (Q.refl w).alloc _)
      have B1 := hid (show CB v1 w.heap.size sv rs pv ⟨ta, tn, tc⟩ ⟨pa, pn, pc⟩ by rw [← hw1]; exact heap_alloc_new w _)
      clear hw1
      generalize hcb : w.heap.size = cb at *
      have HCB := hid hcb
      clear hcb
      have c33 := B1.out.c33 HL.out
      have c34 := B1.out.c34 HL.out
      have c35 := B1.out.c35 HL.out
      dsimp only at c34 c35
      go_wp2_with fail
      refine (rightProtos_any ta tn tc ss v1 LT.out (HT.out.q Q1.out)).mono ?_
      rintro e w2 ⟨rfl, rfl⟩
      rw [H3.out]
      go_wp2_with fail
      refine (rightParams_any pa pn pc v1).mono ?_
      rintro e w2 ⟨rfl, rfl⟩
      rw [H4.out]
      have HS1 := hid (show cb < v1.heap.size from lt_of_cell c33)
      have NW : Nw v1 cb ⟨ta, tn, tc⟩ ⟨pa, pn, pc⟩ ss ps := ⟨c34, c35, fun u j q => frozen_of_row u cb j _ 26 (B1.out.q q), fun u q => clones_any ⟨ta, tn, tc⟩ ss u ((HT.out.q Q1.out).q q) LT.out (by have h := (okTs_iff H3.out).2.1; have h2 := LT.out; show tn ≤ _; omega), fun u q => clone_any ⟨pa, pn, pc⟩ ps u ((HP.out.q Q1.out).q q) LP.out (by have := HP4.out; show pn ≤ _; omega)⟩
      have HNW := hid NW
      clear NW c33 c34 c35
      go_upto_region 3 with fail
      generalize hR : Code.region 3 _ true = C
      have eR : C = Code.region 3 (RofN Try.f6 3) true := hR.symm.trans (by kernel_rfl)
      clear hR
      subst eR
      refine wp_region_noPanic ?_
      refine nw3 HNW.out (fun c a d v w h => h) (fun y z W qW ry rz ny nz => ?_)
      refine NoPanic.normal ?_
      rename_i Kc hKc
      refine hKc _ _ ?_
      clear hKc
      have B2 := hid (CB.set2 (y := y) (z := z) (B1.out.q qW) HL.out)
      have kW : Keep (fun b => b = cb) W ((W.setCell ⟨cb, 34, none⟩ (.slice y.a y.n y.c)).setCell ⟨cb, 35, none⟩ (.slice z.a z.n z.c)) := ((Keep.refl (fun b => b = cb) W).setCell cb 34 _ (.inl rfl)).setCell cb 35 _ (.inl rfl)
      have Q2 := hid (show Q w ((W.setCell ⟨cb, 34, none⟩ (.slice y.a y.n y.c)).setCell ⟨cb, 35, none⟩ (.slice z.a z.n z.c)) from kW.below (Q1.out.trans qW) (Q1.out.trans qW).size (fun i e => by rw [e, ← HCB.out]; exact Nat.le_refl _))
      have RY := hid (Sub.keep ry kW (fun b e e2 => by have h := ny b e; have := HS1.out; rw [e2] at h; omega))
      have RZ := hid (Sub.keep rz kW (fun b e e2 => by have h := nz b e; have := HS1.out; rw [e2] at h; omega))
      have NY := hid (show New w.heap.size y from ny.up Q1.out.size)
      have NZ := hid (show New w.heap.size z from nz.up Q1.out.size)
      generalize (W.setCell ⟨cb, 34, none⟩ (.slice y.a y.n y.c)).setCell ⟨cb, 35, none⟩ (.slice z.a z.n z.c) = u2 at *
      clear kW ry rz ny nz qW
      have HSN := hid (show SN u2 cb (ccells sv rs pv y z) sv u2 from ⟨Q.refl _, B2.out, ccells_len HL.out, B2.out.c0⟩)
      go_upto_region 4 with fail
      generalize hR : Code.region 4 _ true = C
      have eR : C = Code.region 4 (RofN Try.f6 4) true := hR.symm.trans (by kernel_rfl)
      clear hR
      subst eR
      refine wp_region_noPanic ?_
      refine nw4 HSN.out (fun c a d v w h => h) (fun wb sb W3 q3 hs hw hle hlt => ?_)
      refine NoPanic.normal ?_
      rename_i Kc hKc
      refine hKc _ _ ?_
      clear hKc
      have B3 := hid (B2.out.q q3)
      have Q3 := hid (Q2.out.trans q3)
      have RY3 := hid (Sub.q RY.out q3)
      have RZ3 := hid (Sub.q RZ.out q3)
      have HS := hid hs
      have HW := hid hw
      have HLE := hid (show w.heap.size ≤ wb from Nat.le_trans Q2.out.size hle)
      have HSB := hid (show w.heap.size ≤ sb from Nat.le_of_lt (Nat.lt_of_le_of_lt (Nat.le_trans Q2.out.size hle) hlt))
      have HLT := hid hlt
      clear q3 hs hw hle hlt
      have c0 := B3.out.c0
      cases sv with
      | true =>
        go_wp2
        go_ret2
        exact .inr ⟨HX.out, sb, y, z, nilS, nilS, wb, [], rfl, ⟨Q3.out, Sd.zero HS.out HSB.out, rfl, RY3.out, RZ3.out, HW.out, NY.out, NZ.out, HLE.out⟩⟩
      | false =>
        have hIN : (Try.prog.info? 26).map (·.size) = some (ccells false rs pv y z).toArray.size := by
          rw [show (ccells false rs pv y z).toArray.size = 36 from by rw [List.size_toArray]; exact ccells_len HL.out]
          kernel_rfl
        have CH := hid (clientHello_any false rs pv y z ss ps W3 HL.out HPV.out (RowT.seg RY3.out) (RowT.len RY3.out) (Row.seg RZ3.out) (Row.len RZ3.out) H3.out (by have h1 := Row.len RZ3.out; have h2 := LP.out; have h3 := HP4.out; omega))
        have hBL : W3.heap[cb]? = some (.cells (ccells false rs pv y z).toArray 26 (0, 0)) := B3.out
        generalize hXX : (ccells false rs pv y z).toArray = X at hIN CH hBL
        have HBL := hid hBL
        have HIN := hid hIN
        clear hBL hIN hXX
        go_wp2_with (refine wpList_load_row rfl 26 _ rfl cb rfl 26 X (0, 0) _ HBL.out Try.underlying26 rfl HIN.out ?_)
        refine CH.out.mono ?_
        rintro e W4 ⟨⟨xa, xn, xc⟩, rfl, q4, r4⟩
        have HR4 := hid r4
        have Q4 := hid q4
        have hsh4 : ShAt W4 sb (S0 (ccells false rs pv y z) ⟨some ⟨wb, 0, none⟩, (waitsL false).length, (waitsL false).length⟩) := HS.out.keep (Keep.ofQ (F := fun _ => False) q4) id
        have hxl : xn ≤ 2000 := by
          have h1 := chL_len (pv := pv) HL.out H3.out (show ps.length ≤ 1024 by have h2 := LP.out; have h3 := HP4.out; omega)
          have h2 := Row.len r4
          dsimp only at h2
          omega
        have SY := say_any w.heap.size sb _ [] [] 0 ⟨xa, xn, xc⟩ (chL rs pv ss ps) W4 (Sd.zero hsh4 HSB.out) r4.seg (Row.len r4) (fun b e => ⟨Sub.lt r4 b e, fun m => by
          rcases m with m | m | m | ⟨F, hF, m⟩
          · exact sub_ne_sh r4 (by decide) hsh4 b e m
          · cases m
          · cases m
          · cases hF⟩) (by show 0 + xn ≤ _; omega) (Nat.zero_le _) (fun F hF => by cases hF)
        have HSY := hid SY
        have HSH := hid hsh4
        clear SY q4 r4 hsh4 hxl
        dsimp only at HSY
        go_wp2_with fail
        refine HSY.out.mono ?_
        rintro e W5 ⟨rfl, x, o, Gs, hsd, hcon, hkp, hmi⟩
        have hm1 : ∀ b, Mine sb (S0 (ccells false rs pv y z) ⟨some ⟨wb, 0, none⟩, (waitsL false).length, (waitsL false).length⟩) [] b → b = sb := by
          rintro b (m | m | m | ⟨F, hF, m⟩)
          · exact m
          · cases m
          · cases m
          · cases hF
        have k5 : Keep (fun b => b = sb) W4 W5 := hkp.mono (fun i _ m => hm1 i m)
        have HM := hid (show Made w W5 sb false rs pv ss ps y z x o wb Gs from ⟨k5.below (Q3.out.trans Q4.out) (Q3.out.trans Q4.out).size (fun i e => by rw [e]; exact HSB.out), hsd, hcon, Sub.keep (Sub.q RY3.out Q4.out) k5 (sub_ne_sh (Sub.q RY3.out Q4.out) (by decide) HSH.out), Sub.keep (Sub.q RZ3.out Q4.out) k5 (sub_ne_sh (Sub.q RZ3.out Q4.out) (by decide) HSH.out), (k5.block wb (Nat.lt_of_lt_of_le (lt_of_block HW.out) Q4.out.size) (fun e => by have := HLT.out; omega)).trans ((Below.block Q4.out _ (lt_of_block HW.out)).trans HW.out), NY.out, NZ.out, HLE.out⟩)
        clear hm1 k5
        clear hsd hcon hkp hmi
        go_wp2
        go_ret2
        exact .inr ⟨HX.out, sb, y, z, x, o, wb, Gs, rfl, HM.out⟩
    · have HX := hid (show okC pv ss pn = false by simp [okC]; intro _ _ _; omega)
      have H4 := hid (show decide (pn ≤ 1024) = false by simpa using h4)
      clear h4
      go_enter Try.func6, Try.ntmps6
      go_upto_region 1 with fail
      generalize hw1 : World.alloc w _ = v1
      have Q1 := hid (show Q w v1 by rw [← hw1]; exact (Q.refl w).alloc _)
      have B1 := hid (show CB v1 w.heap.size sv rs pv ⟨ta, tn, tc⟩ ⟨pa, pn, pc⟩ by rw [← hw1]; exact heap_alloc_new w _)
      clear hw1
      generalize hcb : w.heap.size = cb at *
      have HCB := hid hcb
      clear hcb
      have c33 := B1.out.c33 HL.out
      have c34 := B1.out.c34 HL.out
      have c35 := B1.out.c35 HL.out
      dsimp only at c34 c35
      go_wp2_with fail
      refine (rightProtos_any ta tn tc ss v1 LT.out (HT.out.q Q1.out)).mono ?_
      rintro e w2 ⟨rfl, rfl⟩
      rw [H3.out]
      go_wp2_with fail
      refine (rightParams_any pa pn pc v1).mono ?_
      rintro e w2 ⟨rfl, rfl⟩
      rw [H4.out]
      go_wp2
      go_ret2
      exact .inl ⟨HX.out, rfl, Q1.out⟩
end Go.Proofs.Ytekpepnonhbkcaa
