/-
  What the program's own Decode does: its loop.
-/
import Derived.Test.YtidbimhcebfjfaaDec
namespace Go.Proofs.Ytidbimhcebfjfaa
open Go.RowKit Go.Maps
set_option linter.unusedVariables false
set_option maxRecDepth 20000

/-- A reader's place, as the memory has it. -/
def plc (w : World) (rb : Nat) : Nat := match w.cell? ⟨rb, 1, none⟩ with
  | some (.int _ p) => p.toNat
  | _ => 0
theorem plc_of {w : World} {rb : Nat} {a : Option Addr} {n c : Nat} {p f : Int} (h : Rdr w 95 rb a n c p f) : plc w rb = p.toNat := by unfold plc; rw [h.c1]
def DecR (w : World) (pb fb mb rb g n : Nat) (zs : List Int) (srv : Bool) (wr : World) : Prop :=
  ∃ (k : Nat) (p : Int) (seen : List Nat) (m : Pm) (s : Nat → Sv), DI w wr pb fb mb rb g n zs p seen m s ∧ 0 ≤ p ∧ p ≤ n ∧ (n : Int) - p < (k : Int) ∧ (seen.length : Int) ≤ p ∧ decM zs srv k p seen m = decM zs srv (n + 1) 0 [] usM
theorem decA_in {zs : List Int} {srv : Bool} {n : Nat} (hl : zs.length = n) (h : n ≤ 16384) : decA zs srv = decM zs srv (n + 1) 0 [] usM := by
  unfold decA; rw [if_neg (by omega), hl]

theorem tk_byt {m m' : Pm} {i : Nat} {v : List Int} {srv : Bool} (h : takesM m i v srv = some m') (j : Nat) (hj : kd j = 2 ∨ kd j = 3) : m'.byt j = if j = i then v else m.byt j := by
  unfold takesM at h
  cases ht : tkn m i v with
  | none => rw [ht] at h; cases h
  | some m1 =>
    rw [ht] at h
    have hm : m1 = m' := by
      have h' : (if rgt m1 i srv then some m1 else none) = some m' := h
      by_cases hr : rgt m1 i srv = true
      · rw [if_pos hr] at h'; exact Option.some.inj h'
      · rw [if_neg hr] at h'; cases h'
    subst hm
    unfold tkn at ht
    by_cases h1 : kd i = 1
    · rw [if_pos h1] at ht
      have hne : j ≠ i := by intro e; subst e; omega
      rw [if_neg hne]
      by_cases hr : ((rd v 0).2.2 == 0 && (rd v 0).2.1 == (v.length : Int)) = true
      · rw [if_pos hr] at ht; rw [← Option.some.inj ht]
      · rw [if_neg hr] at ht; cases ht
    · rw [if_neg h1] at ht
      by_cases h2 : kd i = 2 ∨ kd i = 3
      · rw [if_pos h2] at ht; rw [← Option.some.inj ht]
      · rw [if_neg h2] at ht
        have hne : j ≠ i := by intro e; subst e; omega
        rw [if_neg hne]
        by_cases h4 : kd i = 4
        · rw [if_pos h4] at ht
          by_cases hv : v = []
          · rw [if_pos hv] at ht; rw [← Option.some.inj ht]
          · rw [if_neg hv] at ht; cases ht
        · rw [if_neg h4] at ht; rw [← Option.some.inj ht]

set_option maxHeartbeats 16000000 in
theorem decode_in (a : Option Addr) (n c : Nat) (zs : List Int) (srv : Bool) (w : World) (hl : zs.length = n) (hh : n ≤ 16384) (hz : ∀ y ∈ zs, 0 ≤ y ∧ y < 256) (hs : Seg w a zs) :
    Calls Try.prog 19 #[.slice a n c, .bool srv] w fun e w' => AnsD w zs srv e w' := by
  have HA := hid (decA_in (srv := srv) hl hh)
  have HZ := hid hz
  have HS := hid hs
  have HL := hid hl
  have hd : decide ((16384 : Int) < (n : Int)) = false := by simp; omega
  have hmm := @run_makeMap Try.prog
  clear hl hz hs
  go_enter Try.func19, Try.ntmps19
  go_wp2_with (first
    | (go_at_call 16; refine (usual_any _).mono ?_; rintro e w1 ⟨rfl, q1⟩; have b1 := (Below.block q1 w.heap.size (by simp)).trans (heap_alloc_new w _); have Q1 := hid (((Q.refl w).alloc _).trans q1); clear q1)
    | (refine wpList_store_row rfl 24 _ _ rfl w.heap.size usA rfl rfl 24 _ b1 info24 rfl usA_one ?_; refine Hid.out ?_))
  refine hid ?_
  generalize hw2 : World.setRow _ _ _ = w2
  have k2 : Keep (fun i => i = w.heap.size) w1 w2 := by rw [← hw2]; exact (Keep.refl _ w1).setRow _ _ (.inl rfl)
  have P2 := hid (show PB w2 w.heap.size usM (fun _ => nilS) from by rw [← hw2]; unfold PB; rw [pc_usual]; exact setRow_heap _ _ _ _ 24 _ b1)
  have Q2 := hid (show Q w w2 from k2.below Q1.out Q1.out.size (fun i e => by omega))
  clear hw2 k2 b1 Q1
  clear w1
  go_wp2_with (first
    | (go_at_call 23; refine (fields_any _ _).mono ?_; rintro e w3 ⟨fb, rfl, q3, hfb, b3⟩; have FB3 := hid (show FB w3 fb w.heap.size from b3); have P3 := hid (P2.out.q q3); have Q3 := hid (Q2.out.trans q3); have HF := hid hfb; have L3 := hid (lt_of_block b3); clear q3 hfb b3)
    | (go_at_call 28; refine (open_any a n c zs _ HL.out (by omega) ((HS.out.q Q3.out).q ((Q.refl _).alloc _))).mono ?_; rintro e w5 ⟨g, rb, rfl, q5, hrb, hg, hgr, r5, o5⟩))
  have hW : (w3.alloc (Obj.map #[] 0)).heap.size = w3.heap.size + 1 := by simp
  rw [hW] at hrb hg o5
  have q4 : Q w3 w5 := ((Q.refl w3).alloc _).trans q5
  have lp := lt_of_block P3.out
  have HB := hid (show DB w w.heap.size fb w3.heap.size rb g from ⟨Nat.le_refl _, by have := Q3.out.size; omega, by have := Q3.out.size; omega, ⟨by have h1 := lt_of_block P2.out; have h2 := HF.out; omega, by have := L3.out; omega, by have := L3.out; omega⟩, ⟨by omega, by omega, hgr⟩, by omega, by omega, by omega⟩)
  have hmp : Mp w5 w3.heap.size 0 (fun i => if i ∈ ([] : List Nat) then 1 else 0) := by
    have h1 := World.ownsMap_made (H := Unit) w3 Try.prog 3 (plainElem Try.prog 3)
    exact Mp.keep ⟨_, h1, fun i => rfl⟩ (Keep.ofQ (F := fun _ => False) q5) id
  have H0 := hid (show DecR w w.heap.size fb w3.heap.size rb g n zs srv w5 from
    ⟨n + 1, 0, [], usM, fun _ => nilS, ⟨Q3.out.trans q4, P3.out.q q4, FB3.out.q q4, r5, ⟨o5.seg, fun _ ad e => by cases e; exact hgr⟩, hmp, fun i _ => ⟨seg_nil _ _, rfl, fun b hb => by cases hb⟩⟩, by omega, by omega, by omega, by simp, rfl⟩)
  clear q5 hrb hg hgr r5 o5 hW q4 lp hmp FB3 P3 Q3 HF L3 P2 Q2
  generalize w.heap.size = pb at *
  generalize w3.heap.size = mb at *
  clear w3 w2
  go_loopw [5] (fun _ wr => DecR w pb fb mb rb g n zs srv wr) (fun _ wr => n - plc wr rb)
  case atStart => exact H0.out
  case round =>
    obtain ⟨k, p, seen, m, s, hD, h0, h1, hk, hsn, hdec⟩ := hrel
    have D := hid hD
    have DBx := hid HB.out
    have HDEC := hid hdec
    clear hD hdec H0
    by_cases hlt : p < (n : Int)
    · have hdl : decide ((0 : Int) < (n : Int) - p) = true := by simp; omega
      obtain ⟨k, rfl⟩ : ∃ k', k = k' + 1 := ⟨k - 1, by omega⟩
      have B1 := numR_place (zs := zs) (f := 0) HZ.out h0 (by rw [HL.out]; exact h1)
      have hA : numR zs p 0 = ((numR zs p 0).1, (numR zs p 0).2.1, (numR zs p 0).2.2) := rfl
      have HPO := hid (show parO zs p = ((numR zs p 0).1, takeR zs (numR zs (numR zs p 0).2.1 (numR zs p 0).2.2).2.1 (numR zs (numR zs p 0).2.1 (numR zs p 0).2.2).2.2 (numR zs (numR zs p 0).2.1 (numR zs p 0).2.2).1) from rfl)
      have B2 := numR_place (zs := zs) (f := (numR zs p 0).2.2) HZ.out B1.1 B1.2.1
      have HVB := hid (parO_val (p := p) HZ.out)
      have N1 := hid (fun (W : World) (r : Rdr W 95 rb (some ⟨g, 0, none⟩) n n p 0) (z : SegOff rb W (some ⟨g, 0, none⟩) zs) => number_any rb (some ⟨g, 0, none⟩) n n zs p 0 W HL.out (by omega) HZ.out z r)
      generalize (numR zs p 0).1 = a1 at *
      generalize (numR zs p 0).2.1 = a2 at *
      generalize (numR zs p 0).2.2 = a3 at *
      have N2 := hid (fun (W : World) (r : Rdr W 95 rb (some ⟨g, 0, none⟩) n n a2 a3) (z : SegOff rb W (some ⟨g, 0, none⟩) zs) => number_any rb (some ⟨g, 0, none⟩) n n zs a2 a3 W HL.out (by omega) HZ.out z r)
      generalize (numR zs a2 a3).1 = b1 at *
      generalize (numR zs a2 a3).2.1 = b2 at *
      generalize (numR zs a2 a3).2.2 = b3 at *
      rw [HL.out] at B1 B2
      have N3 := hid (fun (W : World) (r : Rdr W 95 rb (some ⟨g, 0, none⟩) n n b2 b3) (z : SegOff rb W (some ⟨g, 0, none⟩) zs) => bytes_any rb (some ⟨g, 0, none⟩) n n zs b2 b3 b1 W HL.out (by omega) (Nat.le_refl _) B2.1 B2.2.1 z r)
      generalize hc : takeR zs b2 b3 b1 = C at *
      clear hc hA
      obtain ⟨v, c2, c3⟩ := C
      obtain ⟨i, rfl⟩ : ∃ i : Nat, a1 = (i : Int) := ⟨a1.toNat, by omega⟩
      rw [HPO.out] at HVB
      have hkey : keyOf Try.prog 3 (.int .i64 (i : Int)) = some (.int .i64 (i : Int)) := keyOf_int_mk Try.underlying3 (WalkArith.wf_i64 (by omega))
      clear B1 B2
      by_cases hf : c3 ≠ 0
      · have HRES := hid (decM_short (srv := srv) (k := k) (seen := seen) (m := m) (show ¬ (zs.length : Int) ≤ p from by rw [HL.out]; omega) (by rw [HPO.out]; exact hf))
        have hb : (c3 != 0) = true := by simpa using hf
        clear hf
        obtain ⟨FV, HSEEN, hfv⟩ : ∃ fv : Int, Hid ((if i ∈ seen then (1 : Int) else 0) = fv) ∧ (fv = 0 ∨ fv = 1) := by
          by_cases hi : i ∈ seen
          · exact ⟨1, hid (if_pos hi), .inr rfl⟩
          · exact ⟨0, hid (if_neg hi), .inl rfl⟩
        have hwf : (Lit.int .i64 (FV + 1)).wf = true := by rcases hfv with rfl | rfl <;> rfl
        have hwr : IntKind.i64.wrap (FV + 1) = FV + 1 := by rcases hfv with rfl | rfl <;> rfl
        have HFV := hid hfv
        clear hfv
        go_wp2_with (first
          | (go_at_call 29; refine (left0 rb _ n n p _ (by omega) h0 h1 D.out.r).mono ?_; rintro e w6 ⟨rfl, q6⟩; have X6 := hid (D.out.r.q q6); have Z6 := hid (D.out.z.q q6); have K6 := hid (Keep.ofQ (F := fun j => j = rb) q6); clear q6)
          | (go_at_call 30; refine (at_any rb _ n n p 0 _ X6.out).mono ?_; rintro e w7 ⟨rfl, rfl⟩; have A7 := hid X6.out)
          | (have t := A8.out; go_at_call 31; refine (N2.out _ X8.out Z8.out).mono ?_; rintro e w9 ⟨rfl, o9, r9⟩; have X9 := hid r9; have Z9 := hid (Z8.out.only o9); have K9 := hid (K8.out.trans o9.keep); clear o9 r9 t)
          | (have t := A7.out; go_at_call 31; refine (N1.out _ X6.out Z6.out).mono ?_; rintro e w8 ⟨rfl, o8, r8⟩; have X8 := hid r8; have A8 := hid r8; have Z8 := hid (Z6.out.only o8); have K8 := hid (K6.out.trans o8.keep); clear o8 r8 t)
          | (go_at_call 32; refine (N3.out _ X9.out Z9.out).mono ?_; rintro e w10 ⟨gy, my, rfl, o10, r10, y10, hmy⟩; have X10 := hid r10; have Z10 := hid (Z9.out.only o10); have K10 := hid (K9.out.trans o10.keep); have Y10 := hid y10; have HG := hid (show wr.heap.size ≤ gy ∧ gy < w10.heap.size from ⟨Nat.le_trans K9.out.size (World.ownsRow.lt y10 gy rfl).1, (World.ownsRow.lt y10 gy rfl).2⟩); obtain ⟨DD, hown, hat⟩ := D.out.mp.keep K10.out (fun e => DBx.out.b3.2.2 e); have HOWN := hid hown; have HAT := hid hat; clear o10 r10 y10 hown hat)
          | (have t := H11.out; at_lookup; refine wpList_lookup_own_int _ rfl _ _ 65 rfl 3 3 .i64 law3 Try.underlying65 Try.underlying3 (zero3 _) mb (seen.length + 1) _ rfl H11.out _ _ rfl hkey ?_; intro cc hc2 hwc2; obtain rfl : cc = FV + 1 := by { rw [atKey_put_same HOWN.out.isMap (law3.key hkey)] at hc2; simpa using hc2.symm }; clear hc2 hwc2 t)
          | (at_lookup; refine wpList_lookup_own_int _ rfl _ _ 65 rfl 3 3 .i64 law3 Try.underlying65 Try.underlying3 (zero3 _) mb seen.length _ rfl HOWN.out _ _ rfl hkey ?_; intro cc hc1 hwc1; obtain rfl : cc = FV := by { have := HAT.out i; rw [hc1] at this; rw [HSEEN.out] at this; simpa using this }; clear hc1 hwc1)
          | (at_mapUpdate; refine wpList_mapUpdate_own _ rfl _ _ _ 65 rfl 3 3 law3 Try.underlying65 _ mb seen.length _ rfl HOWN.out (by unfold maxLen; omega) _ _ _ rfl rfl hkey _ [] (plainElem_int Try.underlying3 (by first | exact hwf | (rw [hwr]; exact hwf) | exact wrap64_wf _)) ?_; intro w11 hown1 hg1; have H11 := hid hown1; have k11 : Keep (fun j => j = mb) w10 w11 := Keep.ofGrown hg1 (fun k e => by cases e; rfl); have K11 := hid k11; have X11 := hid (X10.out.keep k11 (fun e => DBx.out.b3.2.2 e.symm)); have PX := hid ((D.out.b.keep K10.out (fun e => DBx.out.b3.2.1 e)).keep k11 (fun e => DBx.out.b3.1 e)); have KX := hid (show Keep (fun j => j = pb ∨ j = mb ∨ j = rb) wr w11 from (K10.out.mono (fun i _ e => .inr (.inr e))).trans (k11.mono (fun i _ e => .inr (.inl e)))); clear hown1 hg1 k11)
          | (go_at_call 33; refine (fault_any rb _ n n c2 c3 _ X11.out).mono ?_; rintro e w13 ⟨rfl, rfl⟩)
          | (refine wpList_store_row rfl 24 _ _ rfl pb zeA rfl rfl 24 _ PX.out info24 rfl zeA_one ?_; refine Hid.out ?_))
        refine hid ?_
        generalize hw14 : World.setRow _ _ _ = w14
        have k14 : Keep (fun i => i = pb) w11 w14 := by rw [← hw14]; exact (Keep.refl _ w11).setRow _ _ (.inl rfl)
        have b14 : w14.heap[pb]? = some (.cells zeA 24 (0, 0)) := by rw [← hw14]; exact setRow_heap _ _ _ _ 24 _ PX.out
        clear hw14
        have q14 : Q w w14 := (KX.out.trans (k14.mono (fun i _ e => .inl e))).below D.out.q D.out.q.size (fun i e => by have := DBx.out; rcases e with e | e | e <;> (subst e; first | exact this.a1 | exact this.a2 | exact this.a3))
        go_wp2
        refine ret_dec rfl pb zeA rfl rfl p 12 rfl rfl b14 ⟨fun _ => nilS, ?_, q14, ?_⟩
        · rw [HA.out, ← HDEC.out, HRES.out, pc_zero]
        · rw [HA.out, ← HDEC.out, HRES.out]; exact by_zero w14
      by_cases hi : i ∈ seen
      · have hc30 : c3 = 0 := by omega
        subst hc30
        have HRES := hid (decM_twice (srv := srv) (k := k) (seen := seen) (m := m) (show ¬ (zs.length : Int) ≤ p from by rw [HL.out]; omega) (by rw [HPO.out]) (by rw [HPO.out]; exact hi))
        have HSEEN := hid (show (if i ∈ seen then (1 : Int) else 0) = 1 from if_pos hi)
        clear hi
        go_wp2_with (first
          | (go_at_call 29; refine (left0 rb _ n n p _ (by omega) h0 h1 D.out.r).mono ?_; rintro e w6 ⟨rfl, q6⟩; have X6 := hid (D.out.r.q q6); have Z6 := hid (D.out.z.q q6); have K6 := hid (Keep.ofQ (F := fun j => j = rb) q6); clear q6)
          | (go_at_call 30; refine (at_any rb _ n n p 0 _ X6.out).mono ?_; rintro e w7 ⟨rfl, rfl⟩; have A7 := hid X6.out)
          | (have t := A8.out; go_at_call 31; refine (N2.out _ X8.out Z8.out).mono ?_; rintro e w9 ⟨rfl, o9, r9⟩; have X9 := hid r9; have Z9 := hid (Z8.out.only o9); have K9 := hid (K8.out.trans o9.keep); clear o9 r9 t)
          | (have t := A7.out; go_at_call 31; refine (N1.out _ X6.out Z6.out).mono ?_; rintro e w8 ⟨rfl, o8, r8⟩; have X8 := hid r8; have A8 := hid r8; have Z8 := hid (Z6.out.only o8); have K8 := hid (K6.out.trans o8.keep); clear o8 r8 t)
          | (go_at_call 32; refine (N3.out _ X9.out Z9.out).mono ?_; rintro e w10 ⟨gy, my, rfl, o10, r10, y10, hmy⟩; have X10 := hid r10; have Z10 := hid (Z9.out.only o10); have K10 := hid (K9.out.trans o10.keep); have Y10 := hid y10; have HG := hid (show wr.heap.size ≤ gy ∧ gy < w10.heap.size from ⟨Nat.le_trans K9.out.size (World.ownsRow.lt y10 gy rfl).1, (World.ownsRow.lt y10 gy rfl).2⟩); obtain ⟨DD, hown, hat⟩ := D.out.mp.keep K10.out (fun e => DBx.out.b3.2.2 e); have HOWN := hid hown; have HAT := hid hat; clear o10 r10 y10 hown hat)
          | (have t := H11.out; at_lookup; refine wpList_lookup_own_int _ rfl _ _ 65 rfl 3 3 .i64 law3 Try.underlying65 Try.underlying3 (zero3 _) mb (seen.length + 1) _ rfl H11.out _ _ rfl hkey ?_; intro cc hc2 hwc2; obtain rfl : cc = 1 + 1 := by { rw [atKey_put_same HOWN.out.isMap (law3.key hkey)] at hc2; simpa using hc2.symm }; clear hc2 hwc2 t)
          | (at_lookup; refine wpList_lookup_own_int _ rfl _ _ 65 rfl 3 3 .i64 law3 Try.underlying65 Try.underlying3 (zero3 _) mb seen.length _ rfl HOWN.out _ _ rfl hkey ?_; intro cc hc1 hwc1; obtain rfl : cc = 1 := by { have := HAT.out i; rw [hc1] at this; rw [HSEEN.out] at this; simpa using this }; clear hc1 hwc1)
          | (at_mapUpdate; refine wpList_mapUpdate_own _ rfl _ _ _ 65 rfl 3 3 law3 Try.underlying65 _ mb seen.length _ rfl HOWN.out (by unfold maxLen; omega) _ _ _ rfl rfl hkey _ [] (plainElem_int Try.underlying3 (show (Lit.int .i64 (1 + 1)).wf = true from rfl)) ?_; intro w11 hown1 hg1; have H11 := hid hown1; have k11 : Keep (fun j => j = mb) w10 w11 := Keep.ofGrown hg1 (fun k e => by cases e; rfl); have K11 := hid k11; have X11 := hid (X10.out.keep k11 (fun e => DBx.out.b3.2.2 e.symm)); have PX := hid ((D.out.b.keep K10.out (fun e => DBx.out.b3.2.1 e)).keep k11 (fun e => DBx.out.b3.1 e)); have KX := hid (show Keep (fun j => j = pb ∨ j = mb ∨ j = rb) wr w11 from (K10.out.mono (fun i _ e => .inr (.inr e))).trans (k11.mono (fun i _ e => .inr (.inl e)))); clear hown1 hg1 k11)
          | (go_at_call 33; refine (fault_any rb _ n n c2 0 _ X11.out).mono ?_; rintro e w13 ⟨rfl, rfl⟩)
          | (refine wpList_store_row rfl 24 _ _ rfl pb zeA rfl rfl 24 _ PX.out info24 rfl zeA_one ?_; refine Hid.out ?_))
        refine hid ?_
        generalize hw14 : World.setRow _ _ _ = w14
        have k14 : Keep (fun i => i = pb) w11 w14 := by rw [← hw14]; exact (Keep.refl _ w11).setRow _ _ (.inl rfl)
        have b14 : w14.heap[pb]? = some (.cells zeA 24 (0, 0)) := by rw [← hw14]; exact setRow_heap _ _ _ _ 24 _ PX.out
        clear hw14
        have q14 : Q w w14 := (KX.out.trans (k14.mono (fun i _ e => .inl e))).below D.out.q D.out.q.size (fun i e => by have := DBx.out; rcases e with e | e | e <;> (subst e; first | exact this.a1 | exact this.a2 | exact this.a3))
        go_wp2
        refine ret_dec rfl pb zeA rfl rfl p 90 rfl rfl b14 ⟨fun _ => nilS, ?_, q14, ?_⟩
        · rw [HA.out, ← HDEC.out, HRES.out, pc_zero]
        · rw [HA.out, ← HDEC.out, HRES.out]; exact by_zero w14
      cases ht : takesM m i v srv with
      | none =>
      · have hc30 : c3 = 0 := by omega
        subst hc30
        have HSEEN := hid (show (if i ∈ seen then (1 : Int) else 0) = 0 from if_neg hi)
        have HRES := hid (decM_no (srv := srv) (k := k) (seen := seen) (m := m) (show ¬ (zs.length : Int) ≤ p from by rw [HL.out]; omega) (by rw [HPO.out]) (by rw [HPO.out]; exact hi) (by rw [HPO.out]; exact ht))
        have HT := hid ht
        clear hi ht
        go_wp2_with (first
          | (go_at_call 29; refine (left0 rb _ n n p _ (by omega) h0 h1 D.out.r).mono ?_; rintro e w6 ⟨rfl, q6⟩; have X6 := hid (D.out.r.q q6); have Z6 := hid (D.out.z.q q6); have K6 := hid (Keep.ofQ (F := fun j => j = rb) q6); clear q6)
          | (go_at_call 30; refine (at_any rb _ n n p 0 _ X6.out).mono ?_; rintro e w7 ⟨rfl, rfl⟩; have A7 := hid X6.out)
          | (have t := A8.out; go_at_call 31; refine (N2.out _ X8.out Z8.out).mono ?_; rintro e w9 ⟨rfl, o9, r9⟩; have X9 := hid r9; have Z9 := hid (Z8.out.only o9); have K9 := hid (K8.out.trans o9.keep); clear o9 r9 t)
          | (have t := A7.out; go_at_call 31; refine (N1.out _ X6.out Z6.out).mono ?_; rintro e w8 ⟨rfl, o8, r8⟩; have X8 := hid r8; have A8 := hid r8; have Z8 := hid (Z6.out.only o8); have K8 := hid (K6.out.trans o8.keep); clear o8 r8 t)
          | (go_at_call 32; refine (N3.out _ X9.out Z9.out).mono ?_; rintro e w10 ⟨gy, my, rfl, o10, r10, y10, hmy⟩; have X10 := hid r10; have Z10 := hid (Z9.out.only o10); have K10 := hid (K9.out.trans o10.keep); have Y10 := hid y10; have HG := hid (show wr.heap.size ≤ gy ∧ gy < w10.heap.size from ⟨Nat.le_trans K9.out.size (World.ownsRow.lt y10 gy rfl).1, (World.ownsRow.lt y10 gy rfl).2⟩); obtain ⟨DD, hown, hat⟩ := D.out.mp.keep K10.out (fun e => DBx.out.b3.2.2 e); have HOWN := hid hown; have HAT := hid hat; clear o10 r10 y10 hown hat)
          | (have t := H11.out; at_lookup; refine wpList_lookup_own_int _ rfl _ _ 65 rfl 3 3 .i64 law3 Try.underlying65 Try.underlying3 (zero3 _) mb (seen.length + 1) _ rfl H11.out _ _ rfl hkey ?_; intro cc hc2 hwc2; obtain rfl : cc = 0 + 1 := by { rw [atKey_put_same HOWN.out.isMap (law3.key hkey)] at hc2; simpa using hc2.symm }; clear hc2 hwc2 t)
          | (at_lookup; refine wpList_lookup_own_int _ rfl _ _ 65 rfl 3 3 .i64 law3 Try.underlying65 Try.underlying3 (zero3 _) mb seen.length _ rfl HOWN.out _ _ rfl hkey ?_; intro cc hc1 hwc1; obtain rfl : cc = 0 := by { have := HAT.out i; rw [hc1] at this; rw [HSEEN.out] at this; simpa using this }; clear hc1 hwc1)
          | (at_mapUpdate; refine wpList_mapUpdate_own _ rfl _ _ _ 65 rfl 3 3 law3 Try.underlying65 _ mb seen.length _ rfl HOWN.out (by unfold maxLen; omega) _ _ _ rfl rfl hkey _ [] (plainElem_int Try.underlying3 (show (Lit.int .i64 (0 + 1)).wf = true from rfl)) ?_; intro w11 hown1 hg1; have H11 := hid hown1; have k11 : Keep (fun j => j = mb) w10 w11 := Keep.ofGrown hg1 (fun k e => by cases e; rfl); have K11 := hid k11; have X11 := hid (X10.out.keep k11 (fun e => DBx.out.b3.2.2 e.symm)); have PX := hid ((D.out.b.keep K10.out (fun e => DBx.out.b3.2.1 e)).keep k11 (fun e => DBx.out.b3.1 e)); have FX := hid ((D.out.f.keep K10.out (fun e => DBx.out.b1.2.2 e)).keep k11 (fun e => DBx.out.b1.2.1 e)); have YS := hid (show Seg w11 (some ⟨gy, 0, none⟩) v from Y10.out.seg.keep k11 (fun b hb e => by cases hb; have e2 : gy = mb := e; have h1 := D.out.mp.lt; have h2 := HG.out; omega)); have KX := hid (show Keep (fun j => j = pb ∨ j = mb ∨ j = rb) wr w11 from (K10.out.mono (fun i _ e => .inr (.inr e))).trans (k11.mono (fun i _ e => .inr (.inl e)))); clear hown1 hg1 k11)
          | (go_at_call 33; refine (fault_any rb _ n n c2 0 _ X11.out).mono ?_; rintro e w13 ⟨rfl, rfl⟩)
          | (go_at_call 34; (refine (takes_any pb fb m s i ⟨some ⟨gy, 0, none⟩, my, my⟩ v srv _ PX.out FX.out DBx.out.b1.1 D.out.y.len Y10.out.len (show my ≤ 9223372036854775807 by omega) HVB.out YS.out).mono ?_; rintro e w12 ⟨k12, ⟨_, m2, hx, _⟩ | ⟨rfl, _, m2, s2, p12⟩⟩; (exact absurd (HT.out.symm.trans hx) (by simp)); have PY := hid p12; have KY := hid (KX.out.trans (k12.mono (fun i _ e => .inl e))); clear k12 p12))
          | (refine wpList_store_row rfl 24 _ _ rfl pb zeA rfl rfl 24 _ PY.out info24 rfl zeA_one ?_; refine Hid.out ?_))
        refine hid ?_
        generalize hw14 : World.setRow _ _ _ = w14
        have k14 : Keep (fun i => i = pb) w12 w14 := by rw [← hw14]; exact (Keep.refl _ w12).setRow _ _ (.inl rfl)
        have b14 : w14.heap[pb]? = some (.cells zeA 24 (0, 0)) := by rw [← hw14]; exact setRow_heap _ _ _ _ 24 _ PY.out
        clear hw14
        have q14 : Q w w14 := (KY.out.trans (k14.mono (fun i _ e => .inl e))).below D.out.q D.out.q.size (fun i e => by have := DBx.out; rcases e with e | e | e <;> (subst e; first | exact this.a1 | exact this.a2 | exact this.a3))
        go_wp2
        refine ret_dec rfl pb zeA rfl rfl p 91 rfl rfl b14 ⟨fun _ => nilS, ?_, q14, ?_⟩
        · rw [HA.out, ← HDEC.out, HRES.out, pc_zero]
        · rw [HA.out, ← HDEC.out, HRES.out]; exact by_zero w14
      | some m1 =>
      · have hc30 : c3 = 0 := by omega
        subst hc30
        have HSEEN := hid (show (if i ∈ seen then (1 : Int) else 0) = 0 from if_neg hi)
        have HRES := hid (decM_on (srv := srv) (k := k) (seen := seen) (m := m) (show ¬ (zs.length : Int) ≤ p from by rw [HL.out]; omega) (by rw [HPO.out]) (by rw [HPO.out]; exact hi) (by rw [HPO.out]; exact ht))
        rw [HPO.out] at HRES
        have HON := hid (parO_on HZ.out h0 (show p ≤ (zs.length : Int) from by rw [HL.out]; exact h1) (by rw [HPO.out]))
        rw [HPO.out] at HON
        have HT := hid ht
        have HNI := hid hi
        clear hi ht
        go_wp2_with (first
          | (go_at_call 29; refine (left0 rb _ n n p _ (by omega) h0 h1 D.out.r).mono ?_; rintro e w6 ⟨rfl, q6⟩; have X6 := hid (D.out.r.q q6); have Z6 := hid (D.out.z.q q6); have K6 := hid (Keep.ofQ (F := fun j => j = rb) q6); clear q6)
          | (go_at_call 30; refine (at_any rb _ n n p 0 _ X6.out).mono ?_; rintro e w7 ⟨rfl, rfl⟩; have A7 := hid X6.out)
          | (have t := A8.out; go_at_call 31; refine (N2.out _ X8.out Z8.out).mono ?_; rintro e w9 ⟨rfl, o9, r9⟩; have X9 := hid r9; have Z9 := hid (Z8.out.only o9); have K9 := hid (K8.out.trans o9.keep); clear o9 r9 t)
          | (have t := A7.out; go_at_call 31; refine (N1.out _ X6.out Z6.out).mono ?_; rintro e w8 ⟨rfl, o8, r8⟩; have X8 := hid r8; have A8 := hid r8; have Z8 := hid (Z6.out.only o8); have K8 := hid (K6.out.trans o8.keep); clear o8 r8 t)
          | (go_at_call 32; refine (N3.out _ X9.out Z9.out).mono ?_; rintro e w10 ⟨gy, my, rfl, o10, r10, y10, hmy⟩; have X10 := hid r10; have Z10 := hid (Z9.out.only o10); have K10 := hid (K9.out.trans o10.keep); have Y10 := hid y10; have HG := hid (show wr.heap.size ≤ gy ∧ gy < w10.heap.size from ⟨Nat.le_trans K9.out.size (World.ownsRow.lt y10 gy rfl).1, (World.ownsRow.lt y10 gy rfl).2⟩); obtain ⟨DD, hown, hat⟩ := D.out.mp.keep K10.out (fun e => DBx.out.b3.2.2 e); have HOWN := hid hown; have HAT := hid hat; clear o10 r10 y10 hown hat)
          | (have t := H11.out; at_lookup; refine wpList_lookup_own_int _ rfl _ _ 65 rfl 3 3 .i64 law3 Try.underlying65 Try.underlying3 (zero3 _) mb (seen.length + 1) _ rfl H11.out _ _ rfl hkey ?_; intro cc hc2 hwc2; obtain rfl : cc = 0 + 1 := by { rw [atKey_put_same HOWN.out.isMap (law3.key hkey)] at hc2; simpa using hc2.symm }; clear hc2 hwc2 t)
          | (at_lookup; refine wpList_lookup_own_int _ rfl _ _ 65 rfl 3 3 .i64 law3 Try.underlying65 Try.underlying3 (zero3 _) mb seen.length _ rfl HOWN.out _ _ rfl hkey ?_; intro cc hc1 hwc1; obtain rfl : cc = 0 := by { have := HAT.out i; rw [hc1] at this; rw [HSEEN.out] at this; simpa using this }; clear hc1 hwc1)
          | (at_mapUpdate; refine wpList_mapUpdate_own _ rfl _ _ _ 65 rfl 3 3 law3 Try.underlying65 _ mb seen.length _ rfl HOWN.out (by unfold maxLen; omega) _ _ _ rfl rfl hkey _ [] (plainElem_int Try.underlying3 (show (Lit.int .i64 (0 + 1)).wf = true from rfl)) ?_; intro w11 hown1 hg1; have H11 := hid hown1; have k11 : Keep (fun j => j = mb) w10 w11 := Keep.ofGrown hg1 (fun k e => by cases e; rfl); have K11 := hid k11; have X11 := hid (X10.out.keep k11 (fun e => DBx.out.b3.2.2 e.symm)); have PX := hid ((D.out.b.keep K10.out (fun e => DBx.out.b3.2.1 e)).keep k11 (fun e => DBx.out.b3.1 e)); have FX := hid ((D.out.f.keep K10.out (fun e => DBx.out.b1.2.2 e)).keep k11 (fun e => DBx.out.b1.2.1 e)); have YS := hid (show Seg w11 (some ⟨gy, 0, none⟩) v from Y10.out.seg.keep k11 (fun b hb e => by cases hb; have e2 : gy = mb := e; have h1 := D.out.mp.lt; have h2 := HG.out; omega)); have KX := hid (show Keep (fun j => j = pb ∨ j = mb ∨ j = rb) wr w11 from (K10.out.mono (fun i _ e => .inr (.inr e))).trans (k11.mono (fun i _ e => .inr (.inl e)))); clear hown1 hg1 k11)
          | (go_at_call 33; refine (fault_any rb _ n n c2 0 _ X11.out).mono ?_; rintro e w13 ⟨rfl, rfl⟩)
          | (go_at_call 34; (refine (takes_any pb fb m s i ⟨some ⟨gy, 0, none⟩, my, my⟩ v srv _ PX.out FX.out DBx.out.b1.1 D.out.y.len Y10.out.len (show my ≤ 9223372036854775807 by omega) HVB.out YS.out).mono ?_; rintro e w12 ⟨k12, ⟨rfl, m2, hx, p12⟩ | ⟨_, hx, _⟩⟩; rotate_left; (exact absurd (HT.out.symm.trans hx) (by simp)); obtain rfl : m2 = m1 := by { have := hx.symm.trans HT.out; simpa using this }; have PY := hid p12; have K12 := hid k12; have KY := hid (KX.out.trans (k12.mono (fun i _ e => .inl e))); clear k12 p12 hx))
          )
        go_roundw
        case rel =>
          have hq : Q w w12 := KY.out.below D.out.q D.out.q.size (fun i e => by have := DBx.out; rcases e with e | e | e <;> (subst e; first | exact this.a1 | exact this.a2 | exact this.a3))
          have hK : ∀ b, (fun j => j = pb) b → b = pb ∨ b = mb ∨ b = rb := fun b e => .inl e
          have hz' : SegOff rb w12 (some ⟨g, 0, none⟩) zs := ⟨D.out.z.1.keep KY.out (fun b hb e => by cases hb; have := DBx.out.b2; have e2 : g = pb ∨ g = mb ∨ g = rb := e; omega), D.out.z.2⟩
          have hmp : Mp w12 mb (i :: seen).length (fun j => if j ∈ i :: seen then 1 else 0) := by
            refine Mp.keep ⟨_, H11.out, fun j => ?_⟩ K12.out (fun e => DBx.out.b3.1 (Eq.symm e))
            dsimp only
            by_cases e : j = i
            · subst e; rw [atKey_put_same HOWN.out.isMap (law3.key hkey), if_pos (by simp)]
            · rw [atKey_put_other (by intro h; apply e; injection h with _ h2; omega)]
              rw [HAT.out j]
              by_cases hj : j ∈ seen
              · rw [if_pos hj, if_pos (by simp [hj])]
              · rw [if_neg hj, if_neg (by simp [hj, e])]
          have hy : Bys pb mb rb w12 m2 (updS s i ⟨some ⟨gy, 0, none⟩, my, my⟩) := by
            intro j hj
            rw [tk_byt HT.out j hj]
            by_cases e : j = i
            · subst e
              have e1 : updS s j ⟨some ⟨gy, 0, none⟩, my, my⟩ j = ⟨some ⟨gy, 0, none⟩, my, my⟩ := by unfold updS; rw [if_pos ⟨hj, rfl⟩]
              rw [e1, if_pos rfl]
              refine ⟨YS.out.keep K12.out (fun b hb e => by cases hb; have e2 : gy = pb := e; have h1 := lt_of_block D.out.b; have h2 := HG.out; omega), Y10.out.len, fun b hb => ?_⟩
              cases hb
              have h1 := lt_of_block D.out.b
              have h2 := HG.out
              have h3 := D.out.mp.lt
              have h4 := D.out.r.lt
              show gy ≠ pb ∧ gy ≠ mb ∧ gy ≠ rb
              omega
            · have e1 : updS s i ⟨some ⟨gy, 0, none⟩, my, my⟩ j = s j := by unfold updS; rw [if_neg (fun x => e x.2)]
              rw [e1, if_neg e]
              exact D.out.y.keep KY.out (fun b e => e) j hj
          have hon := HON.out
          rw [HL.out] at hon
          exact ⟨k, c2, i :: seen, m2, _, ⟨hq, PY.out, FX.out.keep K12.out (fun e => DBx.out.b1.1 e), X11.out.keep K12.out (fun e => DBx.out.b3.2.1 (Eq.symm e)), hz', hmp, hy⟩, by omega, by omega, by omega, by simp; omega, by rw [← HDEC.out]; exact HRES.out.symm⟩
        case measure =>
          have hon := HON.out
          rw [HL.out] at hon
          rw [plc_of D.out.r, plc_of (X11.out.keep K12.out (fun e => DBx.out.b3.2.1 (Eq.symm e)))]
          omega
    · have hpn : p = (n : Int) := by omega
      subst hpn
      have hdl : decide ((0 : Int) < (n : Int) - (n : Int)) = false := by simp
      have HRES := hid (decM_end (srv := srv) (k := k) (seen := seen) (m := m) (show (zs.length : Int) ≤ (n : Int) from by rw [HL.out]; omega))
      go_wp2_with (first
        | (go_at_call 29; refine (left0 rb _ n n (n : Int) _ (by omega) (by omega) (by omega) D.out.r).mono ?_; rintro e w6 ⟨rfl, q6⟩; have PX := hid (D.out.b.q q6); have Q6 := hid q6; clear q6)
        | (refine wpList_load_row rfl 24 _ rfl pb rfl 24 (pc m s) (0, 0) _ PX.out Try.underlying24 rfl (pc_info m s) ?_)
        | (refine wpList_store_row rfl 24 _ _ rfl pb (pc m s) rfl rfl 24 _ PX.out (pc_info m s) rfl (pc_one m s) ?_; refine Hid.out ?_))
      refine hid ?_
      generalize hw14 : World.setRow _ _ _ = w14
      have k14 : Keep (fun i => i = pb) w6 w14 := by rw [← hw14]; exact (Keep.refl _ w6).setRow _ _ (.inl rfl)
      have b14 : w14.heap[pb]? = some (.cells (pc m s) 24 (0, 0)) := by rw [← hw14]; exact setRow_heap _ _ _ _ 24 _ PX.out
      clear hw14
      have k15 : Keep (fun i => i = pb) wr w14 := (Keep.ofQ Q6.out).trans k14
      have q14 : Q w w14 := k15.below D.out.q D.out.q.size (fun i e => by have := DBx.out; subst e; exact this.a1)
      go_wp2
      refine ret_dec rfl pb (pc m s) rfl rfl 0 0 rfl rfl b14 ⟨s, ?_, q14, ?_⟩
      · rw [HA.out, ← HDEC.out, HRES.out]
      · rw [HA.out, ← HDEC.out, HRES.out]; exact (D.out.y.keep k15 (fun b e => .inl e)).by

theorem decode_any (a : Option Addr) (n c : Nat) (zs : List Int) (srv : Bool) (w : World) (hl : zs.length = n) (hn : n ≤ 140737488355328) (hz : ∀ y ∈ zs, 0 ≤ y ∧ y < 256) (hs : Seg w a zs) :
    Calls Try.prog 19 #[.slice a n c, .bool srv] w fun e w' => AnsD w zs srv e w' := by
  by_cases h : 16384 < n
  · exact decode_huge a n c zs srv w hl hn h
  · exact decode_in a n c zs srv w hl (by omega) hz hs
end Go.Proofs.Ytidbimhcebfjfaa
