/-
  The law's own awake answers true and turns nothing that was there.
-/
import Derived.Test.YtihmlfpfpadfpaaBkM
import Derived.Test.YtihmlfpfpadfpaaSec
import Derived.Lib.SlBytesConst
import Derived.Laws.BytesArg
namespace Go.Proofs.Ytihmlfpfpadfpaa
open Go.RowKit
set_option linter.unusedVariables false
set_option maxRecDepth 20000

def fxL : List Int := [48, 49, 50, 51, 52, 53, 54, 55, 56, 57, 97, 98, 99, 100, 101, 102]
theorem fxL_lt : By fxL := by intro y hy; simp [fxL] at hy; omega
theorem fixed_any (w : World) : Calls Try.prog 36 #[] w fun e w' => ∃ x : Sv, e = .returned (.slice x.a x.n x.c) ∧ Q w w' ∧ In w' x fxL := by
  have kcv := Lib.run_convert_bytes_const (P := Try.prog) w 22 5 (u8s fxL).toArray 16 16 Try.underlying22 Try.underlying5
  rw [show (u8s fxL).toArray = #[.int .u8 48, .int .u8 49, .int .u8 50, .int .u8 51, .int .u8 52, .int .u8 53, .int .u8 54, .int .u8 55, .int .u8 56, .int .u8 57, .int .u8 97, .int .u8 98, .int .u8 99, .int .u8 100, .int .u8 101, .int .u8 102] from rfl] at kcv
  go_enter Try.func36, Try.ntmps36
  go_wp2
  go_ret
  exact ⟨⟨some ⟨w.heap.size, 0, none⟩, 16, 16⟩, rfl, (Q.refl w).alloc _, seg_litm w fxL (16, 17), rfl, fxL_lt⟩
def abL : List Int := [97, 98, 99]
theorem abL_lt : By abL := by intro y hy; simp [abL] at hy; omega
theorem aw_exp : expM (-1) (7 % 256 ^ (1 : Int).toNat) 1 = 7 := by decide +kernel
theorem aw_pt : ptE (kyL fxL).length (ivL fxL).length (hpL fxL).length ([64] : List Int).length 7 1 abL.length = 0 := by
  rw [show (kyL fxL).length = 16 from exL_len _ _ _, show (ivL fxL).length = 12 from exL_len _ _ _, show (hpL fxL).length = 16 from exL_len _ _ _]
  decide
theorem aw_back : unE (kyL fxL) (ivL fxL) (hpL fxL) (proL (kyL fxL) (ivL fxL) (hpL fxL) [64] 7 1 abL) 1 (-1) = 0 ∧ unN (kyL fxL) (ivL fxL) (hpL fxL) (proL (kyL fxL) (ivL fxL) (hpL fxL) [64] 7 1 abL) 1 (-1) = 7 ∧
    unF (kyL fxL) (ivL fxL) (hpL fxL) (proL (kyL fxL) (ivL fxL) (hpL fxL) [64] 7 1 abL) 1 (-1) = 64 ∧ unX (kyL fxL) (ivL fxL) (hpL fxL) (proL (kyL fxL) (ivL fxL) (hpL fxL) [64] 7 1 abL) 1 (-1) = abL :=
  un_all (hs := [64]) (wd := 1) aw_pt (one_byte 64 (by omega) (by omega)) abL_lt (by decide) (by decide) (by omega) (by omega) aw_exp
theorem in_row_cap {w : World} {x : Sv} {zs : List Int} (h : Row w x zs) : x.n ≤ x.c := Row.cap h
set_option maxHeartbeats 4000000 in
theorem awake_any (w : World) : Calls Try.prog 16 #[] w fun e w' => e = .returned (.bool true) ∧ Q w w' := by
  go_enter Try.func16, Try.ntmps16
  go_wp2_with fail
  refine (fixed_any w).mono ?_
  rintro e w1 ⟨x1, rfl, q1, i1⟩
  have Q1 := hid q1
  have I1 := hid i1
  clear q1 i1
  go_wp2_with fail
  refine (make_any x1 fxL w1 I1.out).mono ?_
  rintro e w2 ⟨⟨ka, kn, kc⟩, ⟨ia, n, ic⟩, ⟨ha, hn, hc⟩, rfl, q2, k2⟩
  have hx : x1.n = 16 := I1.out.l.symm
  rw [show e16 x1.n = 0 from by rw [hx]; rfl]
  have K2 := hid (show KI w2 ⟨ka, kn, kc⟩ ⟨ia, n, ic⟩ ⟨ha, hn, hc⟩ (kyL fxL) (ivL fxL) (hpL fxL) from k2)
  have Q2 := hid (Q1.out.trans q2)
  clear q2 k2 I1 Q1
  go_wp2_with (refine wpList_store_row rfl 30 _ _ rfl w2.heap.size (kcells ⟨ka, kn, kc⟩ ⟨ia, n, ic⟩ ⟨ha, hn, hc⟩) rfl rfl 30 _ (heap_alloc_new w2 _) (kinfo30 _ _ _) rfl (kc_one _ _ _) ?_; refine Hid.out ?_)
  refine hid ?_
  generalize hw3 : World.setRow _ _ _ = w3
  have Q23 := hid (show Q w2 w3 from by
    have k3 : Keep (fun i => i = w2.heap.size) w2 w3 := by rw [← hw3]; exact ((Keep.refl (fun i => i = w2.heap.size) w2).alloc _).setRow _ _ (.inl rfl)
    exact k3.below (Q.refl _) (Nat.le_refl _) (fun i e => by omega))
  have B3 := hid (show KB w3 w2.heap.size 30 ⟨ka, kn, kc⟩ ⟨ia, n, ic⟩ ⟨ha, hn, hc⟩ from by rw [← hw3]; exact setRow_heap _ _ _ _ 30 _ (heap_alloc_new w2 _))
  clear hw3
  generalize w2.heap.size = gx at *
  have Q3 := hid (Q2.out.trans Q23.out)
  have K3 := hid (K2.out.q Q23.out)
  have c0 := B3.out.c0
  have c1 := B3.out.c1
  have c2 := B3.out.c2
  dsimp only at c0 c1 c2
  have kcv := Lib.run_convert_bytes_const (P := Try.prog) (w3.alloc (.cells #[.int .u8 64] 5)) 22 5 #[.int .u8 97, .int .u8 98, .int .u8 99] 3 3 Try.underlying22 Try.underlying5
  rw [show (w3.alloc (.cells #[.int .u8 64] 5)).heap.size = w3.heap.size + 1 from by simp] at kcv
  go_wp2_with fail
  generalize hw4 : World.alloc (World.alloc w3 _) _ = w4
  have Q34 := hid (show Q w3 w4 from by rw [← hw4]; exact ((Q.refl w3).alloc _).alloc _)
  have IH := hid (show In w4 ⟨some ⟨w3.heap.size, 0, none⟩, 1, 1⟩ [64] from by rw [← hw4]; exact (in_lit1 w3 64 (by omega) (by omega)).q ((Q.refl _).alloc _))
  have IA := hid (show In w4 ⟨some ⟨w3.heap.size + 1, 0, none⟩, 3, 3⟩ abL from by
    have hs : (w3.alloc (.cells #[.int .u8 64] 5)).heap.size = w3.heap.size + 1 := by simp
    have := seg_litm (w3.alloc (.cells #[.int .u8 64] 5)) abL (3, 4)
    rw [hs] at this
    rw [← hw4]
    exact ⟨this, rfl, abL_lt⟩)
  clear hw4 kcv
  have K4 := hid (K3.out.q Q34.out)
  have Q4 := hid (Q3.out.trans Q34.out)
  have B4 := hid (B3.out.q Q34.out)
  have hkn : kn = 16 := by have := K4.out.k.l; rw [show (kyL fxL).length = 16 from exL_len _ _ _] at this; exact this.symm
  have hnn : n = 12 := by have := K4.out.i.l; rw [show (ivL fxL).length = 12 from exL_len _ _ _] at this; exact this.symm
  have hhn : hn = 16 := by have := K4.out.h.l; rw [show (hpL fxL).length = 16 from exL_len _ _ _] at this; exact this.symm
  subst hkn hnn hhn
  have HPT := hid (show ptR (kyL fxL) (ivL fxL) (hpL fxL) [64] 7 1 abL = proL (kyL fxL) (ivL fxL) (hpL fxL) [64] 7 1 abL from by unfold ptR; rw [if_pos aw_pt]; rfl)
  refine (protect_any ⟨ka, 16, kc⟩ ⟨ia, 12, ic⟩ ⟨ha, 16, hc⟩ ⟨some ⟨w3.heap.size, 0, none⟩, 1, 1⟩ ⟨some ⟨w3.heap.size + 1, 0, none⟩, 3, 3⟩ (kyL fxL) (ivL fxL) (hpL fxL) [64] abL 7 1 w4 K4.out IH.out IA.out (by show 1 ≤ _; omega) (by show 3 ≤ _; omega)).mono ?_
  rintro e w5 ⟨⟨pa, pn, pc⟩, rfl, q5, r5⟩
  rw [HPT.out] at r5
  rw [show ptE (⟨ka, 16, kc⟩ : Sv).n (⟨ia, 12, ic⟩ : Sv).n (⟨ha, 16, hc⟩ : Sv).n (⟨some ⟨w3.heap.size, 0, none⟩, 1, 1⟩ : Sv).n 7 1 (⟨some ⟨w3.heap.size + 1, 0, none⟩, 3, 3⟩ : Sv).n = 0 from (by decide : ptE 16 12 16 1 7 1 3 = 0)]
  have Q5 := hid (Q4.out.trans q5)
  have K5 := hid (K4.out.q q5)
  have B5 := hid (B4.out.q q5)
  have R5 := hid r5
  have PL := hid (show pn = 21 from by have := Row.len r5; rw [proL_len] at this; exact this.symm)
  have ZP := hid (show By (proL (kyL fxL) (ivL fxL) (hpL fxL) [64] 7 1 abL) from mskA_lt _ (plnL_lt (one_byte 64 (by omega) (by omega)) abL_lt 7 1) _ _)
  have BK := hid aw_back
  clear q5 r5 c0 c1 c2 K4 IH IA B4 B3 K3 Q4 Q3 Q34 HPT
  have c0 := B5.out.c0
  have c1 := B5.out.c1
  have c2 := B5.out.c2
  dsimp only at c0 c1 c2
  generalize proL (kyL fxL) (ivL fxL) (hpL fxL) [64] 7 1 abL = P at *
  go_wp2_with fail
  refine (unprotect_any ⟨ka, 16, kc⟩ ⟨ia, 12, ic⟩ ⟨ha, 16, hc⟩ ⟨pa, pn, pc⟩ (kyL fxL) (ivL fxL) (hpL fxL) P 1 (-1) w5 K5.out (row_in R5.out ZP.out) (by show pn ≤ _; have := PL.out; omega) (Row.cap R5.out) (by omega) (by omega)).mono ?_
  rintro e w6 ⟨⟨xa, xn, xc⟩, rfl, q6, r6⟩
  rw [BK.out.2.2.2] at r6
  rw [BK.out.1, BK.out.2.1, BK.out.2.2.1]
  have hx3 : xn = 3 := by have := Row.len r6; exact this.symm
  subst hx3
  obtain ⟨g, off, he⟩ := row_addr r6 (by show 0 < 3; omega)
  dsimp only at he
  subst he
  have hcv := run_convert_bytes_arg (P := Try.prog) w6 22 5 Try.underlying22 Try.underlying5 g off 3 xc abL rfl (fun i hi => (row_cellc r6 (g := g) (off := off) rfl (j := i) (x := abL.getD i 0) (by rw [List.getD_eq_getElem?_getD, List.getElem?_eq_getElem (by exact hi)]; rfl)).1) 9 Try.underlying9
  rw [show strOfNums abL = ⟨#[97, 98, 99]⟩ from rfl] at hcv
  have Q6 := hid (Q5.out.trans q6)
  clear q6 r6 c0 c1 c2 R5 PL ZP BK K5 B5 Q5
  go_wp2
  go_ret
  exact ⟨by first | rfl | simp, Q6.out⟩
end Go.Proofs.Ytihmlfpfpadfpaa
