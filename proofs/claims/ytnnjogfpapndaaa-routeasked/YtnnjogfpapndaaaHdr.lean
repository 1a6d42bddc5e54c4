/-
  What a reading's header and behind do: contracts that the statements' walks use.
-/
import Derived.Test.YtnnjogfpapndaaaLong
namespace Go.Proofs.Ytnnjogfpapndaaa
open Go.RowKit
set_option linter.unusedVariables false
set_option maxRecDepth 20000

section
variable (rk rb g n : Nat) (zs : List Int) (cid p : Int) (w : World)
set_option maxHeartbeats 8000000 in
theorem header_at (h : Rg w rk rb g n zs cid p) : Calls Try.prog 78 #[.pointer (some ⟨rk, 0, none⟩)] w fun e w' => Ans w rk rb g n zs cid (HdV w.heap.size) (hdrO zs cid p) e w' := by
  have HH := hid h
  have hrk := h.lt
  have hrb := h.rdr.lt
  have hg := lt_of_block h.row
  have c1 := h.c1
  have HW := hid (show ∀ w1, w1 = w.alloc (.cells (hcells zh nilS nilS nilS nilS) 80) → Q w w1 ∧ Box w1 80 w.heap.size zh nilS nilS nilS nilS ∧ w1.heap.size = w.heap.size + 1 from by
    rintro w1 rfl
    exact ⟨(Q.refl w).alloc _, heap_alloc_new w _, by simp⟩)
  clear h
  by_cases hc : cid < 0 ∨ 20 < cid
  · have HO := hid (show hdrO zs cid p = .bad 61 from by unfold hdrO; rw [if_pos hc])
    by_cases hc0 : cid < 0
    · have d0 : decide (cid < 0) = true := by simp; omega
      clear hc
      go_enter Try.func78, Try.ntmps78
      go_wp2_with fail
      generalize hw1 : World.alloc w _ = w1
      obtain ⟨q1, b1, s1⟩ := HW.out w1 hw1.symm
      refine (refuse_no 61 w1).mono ?_
      rintro e w2 ⟨rfl, rfl⟩
      exact ⟨rfl, Keep.ofQ q1, .inr (by rw [HO.out]; exact ⟨stop_bad _, rfl⟩)⟩
    · have d0 : decide (cid < 0) = false := by simp; omega
      have d1 : decide (20 < cid) = true := by simp; omega
      clear hc hc0
      go_enter Try.func78, Try.ntmps78
      go_wp2_with fail
      generalize hw1 : World.alloc w _ = w1
      obtain ⟨q1, b1, s1⟩ := HW.out w1 hw1.symm
      refine (refuse_no 61 w1).mono ?_
      rintro e w2 ⟨rfl, rfl⟩
      exact ⟨rfl, Keep.ofQ q1, .inr (by rw [HO.out]; exact ⟨stop_bad _, rfl⟩)⟩
  have d0 : decide (cid < 0) = false := by simp; omega
  have d1 : decide (20 < cid) = false := by simp; omega
  have hcid0 : 0 ≤ cid := by omega
  have HO := hid (show hdrO zs cid p = (oneO zs p).bind fun first q =>
    if 128 ≤ first then longO zs first q
    else if first / 64 % 2 = 0 then .bad 62
    else (someO zs q cid).bind fun d q2 => .ok ⟨6, 0, d, [], [], [], (zs.length : Int) - q2⟩ q2 from by unfold hdrO; rw [if_neg hc])
  have HC := hid hc
  clear hc
  go_enter Try.func78, Try.ntmps78
  go_wp2_with fail
  generalize hw1 : World.alloc w _ = w1
  obtain ⟨q1, b1, s1⟩ := HW.out w1 hw1.symm
  refine (refuse_ok 61 w1).mono ?_
  rintro e w2 ⟨rfl, rfl⟩
  clear hw1 HW
  have S1 := hid s1
  have Q1 := hid q1
  have B1 := hid b1
  have R1 := hid (HH.out.q q1)
  clear q1 b1 s1
  go_wp2_with fail
  refine (one_at rk rb g n zs cid p w1 R1.out).mono ?_
  rintro e w2 ⟨hk, ⟨m, q2, vv, ho, rfl, rfl, hr⟩ | ⟨hs, rfl⟩⟩
  rotate_left
  · have := Out.bind_stop hs (fun first q =>
      if 128 ≤ first then longO zs first q
      else if first / 64 % 2 = 0 then .bad 62
      else (someO zs q cid).bind fun d q2 => Out.ok (⟨6, 0, d, [], [], [], (zs.length : Int) - q2⟩ : Hd) q2)
    exact ⟨rfl, (Keep.ofQ Q1.out).trans hk, .inr (by rw [HO.out]; exact ⟨this.1, by rw [this.2]⟩)⟩
  have hpl := oneO_pl R1.out.pl_ ho
  have hm0 : 0 ≤ m := hpl.2.2.2.2.1
  have hm1 : m < 256 := hpl.2.2.2.2.2
  have HO2 := hid (show hdrO zs cid p = if 128 ≤ m then longO zs m q2 else if m / 64 % 2 = 0 then .bad 62 else (someO zs q2 cid).bind fun d q2 => .ok ⟨6, 0, d, [], [], [], (zs.length : Int) - q2⟩ q2 from by rw [HO.out, ho]; rfl)
  have K2 := hid (show Keep (fun k => k = rb) w w2 from (Keep.ofQ Q1.out).trans hk)
  have S2 := hid (show w.heap.size + 1 ≤ w2.heap.size from by have := hk.size; have := S1.out; omega)
  have R2 := hid hr
  have B2 := hid (B1.out.keep hk (by omega))
  have ha128 := and128 m hm0 hm1
  have ha64 := and64 m hm0 hm1
  clear hk ho hr hpl B1 R1 Q1 HO
  by_cases hL : 128 ≤ m
  · have e1 : m / 128 = 1 := by omega
    rw [e1] at ha128
    have HO3 := hid (show hdrO zs cid p = longO zs m q2 from by rw [HO2.out, if_pos hL])
    have hS2 := S2.out
    clear ha64 e1
    go_wp2_with fail
    refine (long_at rk rb g n zs cid q2 w2 m hm0 hm1 R2.out).mono ?_
    rintro e w3 ⟨hk, ⟨H, q3, vv, ho, rfl, ⟨dS, sS, tS, vS, rfl, hh⟩, hr⟩ | ⟨hs, rfl⟩⟩
    rotate_left
    · exact ⟨rfl, K2.out.trans hk, .inr (by rw [HO3.out]; exact ⟨hs, rfl⟩)⟩
    have BR := hid (B2.out.keep hk (by omega))
    have HX := hid (hh.mono (show w.heap.size + 1 ≤ w2.heap.size by omega))
    have KX := hid (K2.out.trans hk)
    have RX := hid hr
    have HOX := hid (show hdrO zs cid p = .ok H q3 from by rw [HO3.out]; exact ho)
    have hs3 := hk.size
    clear hk ho hh hr
    go_wp2_with (refine wpList_store_row rfl 80 _ _ rfl w.heap.size (hcells H dS sS tS vS) rfl rfl 80 _ BR.out (hcells_info _ _ _ _ _) rfl (hcells_one _ _ _ _ _) ?_)
    refine ret_hd rfl rfl w.heap.size 80 H dS sS tS vS rfl (BR.out.row_ _ _ _ _ _) ?_
    have ks : Keep (fun k => k = w.heap.size) w3 (World.setRow w3 w.heap.size (hcells H dS sS tS vS)) := (Keep.refl _ _).setRow _ _ (.inl rfl)
    exact ⟨KX.out.trans' ks (fun i hi e => by omega), .inl ⟨H, q3, _, HOX.out, rfl, ⟨dS, sS, tS, vS, rfl, (HX.out.keep ks (fun i e => .inl (by omega))).mono (by omega)⟩, RX.out.keepNew ks HH.out (fun i e => by omega)⟩⟩
  · have e1 : m / 128 = 0 := by omega
    rw [e1] at ha128
    by_cases hF : m / 64 % 2 = 0
    · rw [hF] at ha64
      have HX := hid (show Ans w rk rb g n zs cid (HdV w.heap.size) (hdrO zs cid p) (.panicked [refP 62]) w2 from ⟨K2.out, .inr (by rw [HO2.out, if_neg hL, if_pos hF]; exact ⟨stop_bad _, rfl⟩)⟩)
      clear hF e1 hL
      go_wp2_with fail
      refine (refuse_no 62 w2).mono ?_
      rintro e w3 ⟨rfl, rfl⟩
      exact ⟨rfl, HX.out⟩
    have e2 : m / 64 % 2 = 1 := by omega
    rw [e2] at ha64
    have HO3 := hid (show hdrO zs cid p = (someO zs q2 cid).bind fun d q2 => .ok ⟨6, 0, d, [], [], [], (zs.length : Int) - q2⟩ q2 from by rw [HO2.out, if_neg hL, if_neg hF])
    have hS2 := S2.out
    clear hF e1 e2 hL
    go_wp2_with fail
    refine (refuse_ok 62 w2).mono ?_
    rintro e w3 ⟨rfl, rfl⟩
    have c1' := R2.out.c1
    go_wp2_with fail
    refine (some_at rk rb g n zs cid q2 w2 cid hcid0 R2.out).mono ?_
    rintro e w4 ⟨hk, ⟨dl, q4, vv, ho, rfl, ⟨⟨da, dn, dc⟩, rfl, hrow, hnew⟩, hr⟩ | ⟨hs, rfl⟩⟩
    rotate_left
    · have := Out.bind_stop hs (fun d q2 => Out.ok (⟨6, 0, d, [], [], [], (zs.length : Int) - q2⟩ : Hd) q2)
      exact ⟨rfl, K2.out.trans hk, .inr (by rw [HO3.out]; exact ⟨this.1, by rw [this.2]⟩)⟩
    have HO4 := hid (show hdrO zs cid p = .ok ⟨6, 0, dl, [], [], [], (n : Int) - q4⟩ q4 from by rw [HO3.out, ho, ← hr.len]; rfl)
    have hs4 := hk.size
    have hrr : Row w4 ⟨da, dn, dc⟩ dl := hrow
    have hdlt := hrr.lt
    have K4 := hid (K2.out.trans hk)
    have R4 := hid hr
    have B4 := hid (B2.out.keep hk (by omega))
    have D4 := hid hrr
    have N4 := hid (show New (w.heap.size + 1) ⟨da, dn, dc⟩ from hnew.mono hS2)
    have HNE := hid (show ∀ b, blk da = some b → ¬ b = w4.heap.size from fun b hb' e => by have := hdlt b hb'; omega)
    clear hk ho hr hrow hnew hrr hdlt HO3 HO2 K2 R2 B2
    go_wp2_with (refine wpList_store_row rfl 80 _ _ rfl w4.heap.size (hcells ⟨6, 0, dl, [], [], [], 0⟩ ⟨da, dn, dc⟩ nilS nilS nilS) rfl rfl 80 _ (heap_alloc_new w4 _) (hcells_info _ _ _ _ _) rfl (hcells_one _ _ _ _ _) ?_; refine Hid.out ?_)
    refine hid ?_
    generalize hw5 : World.setRow _ _ _ = w5
    have k5 : Keep (fun i => i = w4.heap.size) w4 w5 := by rw [← hw5]; exact ((Keep.refl (fun i => i = w4.heap.size) w4).alloc _).setRow _ _ (.inl rfl)
    have b5 : Box w5 80 w4.heap.size ⟨6, 0, dl, [], [], [], 0⟩ ⟨da, dn, dc⟩ nilS nilS nilS := by rw [← hw5]; exact setRow_heap _ _ _ _ 80 _ (heap_alloc_new w4 _)
    clear hw5
    have hs5 := k5.size
    have K5 := hid (show Keep (fun k => k = rb) w w5 from K4.out.trans' k5 (fun i hi e => by omega))
    have r5 := R4.out.keepNew k5 HH.out (fun i e => by omega)
    have R5 := hid r5
    have BR5 := hid (B4.out.keep k5 (by omega))
    have D5 := hid (D4.out.keep k5 HNE.out)
    have B5 := hid b5
    have hlt5 := b5.lt
    have f0 := r5.c0
    generalize hhb : w4.heap.size = hb at *
    clear hhb k5 r5 K4 R4 B4 D4
    go_wp2_with fail
    refine (left_any rb _ n n q4 0 w5 HH.out.small R5.out.p0 R5.out.p1 R5.out.rdr).mono ?_
    rw [if_pos rfl]
    rintro e w6 ⟨rfl, k6, rfl⟩
    have q6 : Q w5 (w5.drewN k6) := (Q.refl w5).drewN k6
    have b6 := b5.q q6
    obtain ⟨y0, y1, y2, y3, y4, y5, y6⟩ := b6.all
    have z6 := b6.free 6
    have hs6 := q6.size
    have ks0 : Keep (fun k => k = hb) (w5.drewN k6) ((w5.drewN k6).setCell ⟨hb, 6, none⟩ (.int .i64 ((n : Int) - q4))) := (Keep.refl (fun k => k = hb) (w5.drewN k6)).setCell _ _ _ (.inl rfl)
    have KX := hid (show Keep (fun k => k = rb) w ((w5.drewN k6).setCell ⟨hb, 6, none⟩ (.int .i64 ((n : Int) - q4))) from (K5.out.trans (Keep.ofQ q6)).trans' ks0 (fun i hi e => by omega))
    have RX := hid ((R5.out.q q6).keepNew ks0 HH.out (fun i e => by omega))
    have BR := hid ((BR5.out.q q6).keep ks0 (by omega))
    have BX := hid (show Box ((w5.drewN k6).setCell ⟨hb, 6, none⟩ (.int .i64 ((n : Int) - q4))) 80 hb ⟨6, 0, dl, [], [], [], (n : Int) - q4⟩ ⟨da, dn, dc⟩ nilS nilS nilS from b6.len_ _)
    have HX := hid (show Holds (w.heap.size + 1) ((w5.drewN k6).setCell ⟨hb, 6, none⟩ (.int .i64 ((n : Int) - q4))) ⟨6, 0, dl, [], [], [], (n : Int) - q4⟩ ⟨da, dn, dc⟩ nilS nilS nilS from ⟨(D5.out.q q6).keep ks0 HNE.out, sub_nil _ _ _, sub_nil _ _ _, sub_nil _ _ _, N4.out, new_nil _, new_nil _, new_nil _⟩)
    have hsX : ((w5.drewN k6).setCell ⟨hb, 6, none⟩ (.int .i64 ((n : Int) - q4))).heap.size = w5.heap.size := by simp
    clear ks0 b5 b6 q6 K5 R5 BR5 B5 f0 D5
    generalize (n : Int) - q4 = lf at *
    go_wp2_with (refine wpList_store_row rfl 80 _ _ rfl w.heap.size (hcells ⟨6, 0, dl, [], [], [], lf⟩ ⟨da, dn, dc⟩ nilS nilS nilS) rfl rfl 80 _ BR.out (hcells_info _ _ _ _ _) rfl (hcells_one _ _ _ _ _) ?_)
    refine ret_hd rfl rfl w.heap.size 80 ⟨6, 0, dl, [], [], [], lf⟩ ⟨da, dn, dc⟩ nilS nilS nilS rfl (BR.out.row_ _ _ _ _ _) ?_
    have ks : Keep (fun k => k = w.heap.size) ((w5.drewN k6).setCell ⟨hb, 6, none⟩ (.int .i64 lf)) (World.setRow ((w5.drewN k6).setCell ⟨hb, 6, none⟩ (.int .i64 lf)) w.heap.size (hcells ⟨6, 0, dl, [], [], [], lf⟩ ⟨da, dn, dc⟩ nilS nilS nilS)) := (Keep.refl _ _).setRow _ _ (.inl rfl)
    exact ⟨KX.out.trans' ks (fun i hi e => by omega), .inl ⟨⟨6, 0, dl, [], [], [], lf⟩, q4, _, HO4.out, rfl, ⟨⟨da, dn, dc⟩, nilS, nilS, nilS, rfl, (HX.out.keep ks (fun i e => .inl (by omega))).mono (by omega)⟩, RX.out.keepNew ks HH.out (fun i e => by omega)⟩⟩

/-- How many bytes of the packet stand behind its header. -/
def behM (n : Nat) (k l p : Int) : Int := if k = 1 ∨ k = 2 ∨ k = 3 then l else (n : Int) - p
set_option maxHeartbeats 1000000 in
theorem behind_any (H : Hd) (d s t v : Sv) (h : Rg w rk rb g n zs cid p) : Calls Try.prog 79 #[.pointer (some ⟨rk, 0, none⟩), hv H d s t v] w fun e w' => e = .returned (.int .i64 (behM n H.kind H.len p)) ∧ Q w w' := by
  have HH := hid h
  have c0 := h.c0
  have hrk := h.lt
  have hrb := h.rdr.lt
  obtain ⟨k, ve, dl, sl, tl, vl, ln⟩ := H
  show Calls Try.prog 79 _ w fun e w' => e = .returned (.int .i64 (behM n k ln p)) ∧ Q w w'
  clear h
  by_cases hk : k = 1 ∨ k = 2 ∨ k = 3
  · have HB := hid (show behM n k ln p = ln from by unfold behM; rw [if_pos hk])
    rcases hk with rfl | rfl | rfl
    all_goals
      go_enter Try.func79, Try.ntmps79
      go_wp2
      go_ret
      exact ⟨ret_int HB.out.symm, (Q.refl w).alloc _⟩
  · have HB := hid (show behM n k ln p = (n : Int) - p from by unfold behM; rw [if_neg hk])
    have k1 : (k == 1) = false := by simp; omega
    have k2 : (k == 2) = false := by simp; omega
    have k3 : (k == 3) = false := by simp; omega
    clear hk
    go_enter Try.func79, Try.ntmps79
    go_wp2_with fail
    generalize hw1 : World.alloc w _ = w1
    have q1 : Q w w1 := by rw [← hw1]; exact (Q.refl w).alloc _
    clear hw1
    refine (left_any rb _ n n p 0 w1 HH.out.small HH.out.p0 HH.out.p1 (HH.out.q q1).rdr).mono ?_
    rw [if_pos rfl]
    rintro e w2 ⟨rfl, k2, rfl⟩
    have Q2 := hid (q1.drewN k2)
    clear q1
    go_wp2
    go_ret
    exact ⟨ret_int HB.out.symm, Q2.out⟩
end
end Go.Proofs.Ytnnjogfpapndaaa
