/-
  What the document's Make and Read of layer 13 do, and the statement's own secret and awake: contracts that the statements' walks use.
-/
import Derived.Test.YtnnjogfpapndaaaRMd
import Derived.Test.YtnnjogfpapndaaaRTxt
import Derived.Deep.RegionHeld3
namespace Go.Proofs.Ytnnjogfpapndaaa
open Go.RowKit
set_option linter.unusedVariables false
set_option maxRecDepth 20000

theorem be1 {w : Int} (h0 : 0 ≤ w) (h1 : w < 256) : be 1 w = [w] := by
  simp only [be]; congr 1; omega
set_option maxHeartbeats 4000000 in
theorem rmake_any (k : Sv) (ks : List Int) (wo se : Int) (w : World) (hk : In w k ks) :
    Calls Try.prog 10 #[.slice k.a k.n k.c, .int .i64 wo, .int .i64 se] w fun e w' => ∃ x : Sv, e = .returned (.tuple #[.slice x.a x.n x.c, .int .i64 (mkE k.n wo se)]) ∧ Q w w' ∧ Row w' x (mkL ks wo se) ∧ New w.heap.size x := by
  obtain ⟨ka, kn, kc⟩ := k
  have HK := hid hk
  have HL := hid (show ks.length = kn from hk.l)
  clear hk
  dsimp only at *
  by_cases h16 : kn = 16
  rotate_left
  · rw [show mkE kn wo se = 70 from by unfold mkE; rw [if_neg h16], show mkL ks wo se = [] from by unfold mkL; rw [if_neg (by rw [HL.out]; exact fun h => h16 h.1)]]
    have hn : ((kn : Int) != 16) = true := by simp; omega
    clear h16
    go_enter Try.func10, Try.ntmps10
    go_wp2
    go_ret2
    exact ⟨nilS, rfl, Q.refl _, sub_nil _ _ _, new_nil _⟩
  subst h16
  by_cases hws : wiB wo 255 = true ∧ wiB se 72057594037927935 = true
  rotate_left
  · rw [show mkE 16 wo se = 10 from by unfold mkE; rw [if_pos rfl, if_neg hws], show mkL ks wo se = [] from by unfold mkL; rw [if_neg (fun h => hws h.2)]]
    have hw : ¬ ((0 ≤ wo ∧ wo ≤ 255) ∧ (0 ≤ se ∧ se ≤ 72057594037927935)) := by rw [wiB_iff, wiB_iff] at hws; exact hws
    clear hws
    go_enter Try.func10, Try.ntmps10
    by_cases h1 : wo < 0
    · go_wp2
      go_ret2
      exact ⟨nilS, rfl, Q.refl _, sub_nil _ _ _, new_nil _⟩
    by_cases h2 : 255 < wo
    · go_wp2
      go_ret2
      exact ⟨nilS, rfl, Q.refl _, sub_nil _ _ _, new_nil _⟩
    by_cases h3 : se < 0
    · go_wp2
      go_ret2
      exact ⟨nilS, rfl, Q.refl _, sub_nil _ _ _, new_nil _⟩
    have h4 : 72057594037927935 < se := by omega
    clear hw
    go_wp2
    go_ret2
    exact ⟨nilS, rfl, Q.refl _, sub_nil _ _ _, new_nil _⟩
  rw [show mkE 16 wo se = 0 from by unfold mkE; rw [if_pos rfl, if_pos hws], show mkL ks wo se = xr (idL wo se) (veL ks) from by unfold mkL; rw [if_pos ⟨HL.out, hws⟩]]
  obtain ⟨w0, w1⟩ := wiB_iff.1 hws.1
  obtain ⟨s0, s1⟩ := wiB_iff.1 hws.2
  have g1 : ¬ wo < 0 := by omega
  have g2 : ¬ 255 < wo := by omega
  have g3 : ¬ se < 0 := by omega
  have g4 : ¬ 72057594037927935 < se := by omega
  have HB1 := hid (be1 w0 (by omega))
  have HW := hid (And.intro (And.intro w0 w1) (And.intro s0 s1))
  clear hws w0 w1 s0 s1
  go_enter Try.func10, Try.ntmps10
  go_wp2_with fail
  refine (rnumber_any 1 (.inl rfl) wo HW.out.1.1 (by have := HW.out; omega) w).mono ?_
  rintro e w1 ⟨⟨xa, xn, xc⟩, rfl, q1, r1, n1⟩
  have Q1 := hid q1
  have R1 := hid r1
  clear q1 r1 n1
  go_wp2_with fail
  refine (rnumber_any 7 (.inr (.inr (.inl rfl))) se HW.out.2.1 (by have := HW.out; omega) w1).mono ?_
  rintro e w2 ⟨⟨ya, yn, yc⟩, rfl, q2, r2, n2⟩
  have Q2 := hid (Q1.out.trans q2)
  have X2 := hid (row_in (R1.out.q q2) (be_bound 1 wo))
  have Y2 := hid (row_in r2 (be_bound 7 se))
  clear q2 r2 n2 R1 Q1
  go_wp2_with fail
  refine (join_lit w2 [⟨xa, xn, xc⟩, ⟨ya, yn, yc⟩] [be 1 wo, be 7 se] rfl (fun j hj => by
    rcases (show j = 0 ∨ j = 1 by simp at hj; omega) with rfl | rfl
    · exact X2.out
    · exact Y2.out) (by simp) (by simp [be_length])).mono ?_
  rintro e w3 ⟨⟨za, zn, zc⟩, rfl, q3, i3, r3, n3⟩
  have Q3 := hid (Q2.out.trans q3)
  have ef : [be 1 wo, be 7 se].flatten = idL wo se := by rw [HB1.out]; simp [idL]
  rw [ef] at i3
  have I3 := hid i3
  have hzn : zn = 8 := by have := i3.l; simp [idL, be_length] at this; omega
  clear q3 i3 r3 n3 ef X2 Y2 Q2
  subst hzn
  go_wp2_with fail
  refine (mask_any ⟨ka, 16, kc⟩ ⟨za, 8, zc⟩ ks (idL wo se) w3 (HK.out.q Q3.out) I3.out rfl rfl).mono ?_
  rintro e w4 ⟨va, rfl, q4, r4, n4⟩
  have HX := hid (show Q w w4 ∧ Row w4 ⟨some ⟨va, 0, none⟩, 8, 8⟩ (xr (idL wo se) (veL ks)) ∧ New w.heap.size ⟨some ⟨va, 0, none⟩, 8, 8⟩ from ⟨Q3.out.trans q4, r4, fun b e => by cases e; exact Nat.le_trans Q3.out.size n4⟩)
  clear q4 r4 n4
  go_wp2
  go_ret2
  exact ⟨⟨some ⟨va, 0, none⟩, 8, 8⟩, rfl, HX.out⟩
theorem row_cellz {w : World} {x zn zc : Nat} {zs : List Int} (h : Row w ⟨some ⟨x, 0, none⟩, zn, zc⟩ zs) (hl : 0 < zs.length) : w.cell? ⟨x, 0, none⟩ = some (.int .u8 (zs.getD 0 0)) := by
  have := (row_cellc h (g := x) (off := 0) (j := 0) (x := zs.getD 0 0) rfl (by rw [List.getD_eq_getElem?_getD, List.getElem?_eq_getElem hl]; rfl)).1
  simpa using this
theorem row_from {w : World} {x zn zc : Nat} {zs : List Int} (h : Row w ⟨some ⟨x, 0, none⟩, zn, zc⟩ zs) (hz : By zs) : In w ⟨some ⟨x, 1, none⟩, zn - 1, zc - 1⟩ (zs.drop 1) :=
  ⟨seg_drop h.seg 1, by have := Row.len h; rw [List.length_drop]; dsimp only at *; omega, By.drop hz 1⟩
set_option maxHeartbeats 4000000 in
theorem rread_any (k d : Sv) (ks zs : List Int) (w : World) (hk : In w k ks) (hd : In w d zs) :
    Calls Try.prog 12 #[.slice k.a k.n k.c, .slice d.a d.n d.c] w fun e w' => e = .returned (.tuple #[.int .i64 (rdWo zs ks), .int .i64 (rdSe zs ks), .int .i64 (rdE k.n d.n)]) ∧ Q w w' := by
  obtain ⟨ka, kn, kc⟩ := k
  obtain ⟨da, dn, dc⟩ := d
  have HK := hid hk
  have HD := hid hd
  have HL := hid (show ks.length = kn from hk.l)
  have HM := hid (show zs.length = dn from hd.l)
  clear hk hd
  dsimp only at *
  by_cases h16 : kn = 16
  rotate_left
  · rw [show rdE kn dn = 70 from by unfold rdE; rw [if_neg h16], show rdWo zs ks = 0 from by unfold rdWo; rw [if_neg (by rw [HL.out]; exact fun h => h16 h.1)], show rdSe zs ks = 0 from by unfold rdSe; rw [if_neg (by rw [HL.out]; exact fun h => h16 h.1)]]
    have hn : ((kn : Int) != 16) = true := by simp; omega
    clear h16
    go_enter Try.func12, Try.ntmps12
    go_wp2
    go_ret3
    exact ⟨rfl, Q.refl _⟩
  subst h16
  by_cases h8 : dn = 8
  rotate_left
  · rw [show rdE 16 dn = 61 from by unfold rdE; rw [if_pos rfl, if_neg h8], show rdWo zs ks = 0 from by unfold rdWo; rw [if_neg (by rw [HM.out]; exact fun h => h8 h.2)], show rdSe zs ks = 0 from by unfold rdSe; rw [if_neg (by rw [HM.out]; exact fun h => h8 h.2)]]
    have hn : ((dn : Int) != 8) = true := by simp; omega
    clear h8
    go_enter Try.func12, Try.ntmps12
    go_wp2
    go_ret3
    exact ⟨rfl, Q.refl _⟩
  subst h8
  rw [show rdE 16 8 = 0 from rfl, show rdWo zs ks = rdW zs ks from by unfold rdWo; rw [if_pos ⟨HL.out, HM.out⟩], show rdSe zs ks = rdS zs ks from by unfold rdSe; rw [if_pos ⟨HL.out, HM.out⟩]]
  have HXB := hid (xr_by HD.out.z (veL_by ks))
  have HXL := hid (show (xr zs (veL ks)).length = 8 from by rw [xr_len, HM.out, veL_len]; rfl)
  have HRW := hid (show rdW zs ks = (xr zs (veL ks)).getD 0 0 from rfl)
  have HRS := hid (show rdS zs ks = val 0 ((xr zs (veL ks)).drop 1) from rfl)
  go_enter Try.func12, Try.ntmps12
  go_wp2_with fail
  refine (mask_any ⟨ka, 16, kc⟩ ⟨da, 8, dc⟩ ks zs w HK.out HD.out rfl rfl).mono ?_
  rintro e w1 ⟨x, rfl, q1, r1, n1⟩
  have Q1 := hid q1
  have R1 := hid r1
  have hc0 := row_cellz r1 (by rw [HXL.out]; omega)
  have HF := hid (fun u (hu : Q w1 u) => value_any ⟨some ⟨x, 1, none⟩, 7, 7⟩ _ u ((row_from r1 HXB.out).q hu) (by show 7 ≤ 7; omega))
  dsimp only at HF
  rw [← HRS.out] at HF
  rw [← HRW.out] at hc0
  clear q1 r1 n1
  have s1 : Q w1 w1 := Q.refl _
  have hwr : IntKind.i64.wrap (rdW zs ks) = rdW zs ks := by
    have h := (read_num (ks := ks) HD.out.z HM.out).2.2.2
    rw [wrap_i64]; omega
  generalize hW : rdW zs ks = vW at *
  generalize hS : rdS zs ks = vS at *
  have HW := hid hW
  have HS := hid hS
  clear hW hS
  go_wp2
  go_region_held3 (fun u => Q w1 u ∧ u.cell? ⟨x, 0, none⟩ = some (.int .u8 vW)) (repeat (first | (with_reducible assumption) | (with_reducible apply Q.drew) | (with_reducible apply Q.drewN) | (with_reducible refine dcel ?_) | (with_reducible refine dcelN ?_) | (with_reducible apply And.intro)))
    (first | (go_at_call 32; refine (HF.out _ (by repeat (first | (with_reducible assumption) | (with_reducible apply Q.drew) | (with_reducible apply Q.drewN)))).mono ?_; rintro e wk ⟨rfl, qk⟩; have jk : Q w1 wk := Q.trans (by repeat (first | (with_reducible assumption) | (with_reducible apply Q.drew) | (with_reducible apply Q.drewN))) qk; have t0 := (jk.cell (p := ⟨x, 0, none⟩) (lt_of_cell hc0)).trans hc0))
  have QK := hid (Q1.out.trans jk)
  clear qk jk t0 hc0 s1
  go_wp2
  go_ret3
  rw [HW.out, HS.out]
  exact ⟨rfl, QK.out⟩
def secL : List Int := [48, 49, 50, 51, 52, 53, 54, 55, 56, 57, 97, 98, 99, 100, 101, 102]
theorem secL_by : By secL := by intro y hy; simp [secL] at hy; omega
set_option maxHeartbeats 4000000 in
theorem secret_any (w : World) : Calls Try.prog 22 #[] w fun e w' => ∃ g, e = .returned (.slice (some ⟨g, 0, none⟩) 16 16) ∧ Q w w' ∧ In w' ⟨some ⟨g, 0, none⟩, 16, 16⟩ secL := by
  have kcv := Lib.run_convert_bytes_const (P := Try.prog) w 22 5 (u8s secL).toArray 16 16 Try.underlying22 Try.underlying5
  rw [show (u8s secL).toArray = #[.int .u8 48, .int .u8 49, .int .u8 50, .int .u8 51, .int .u8 52, .int .u8 53, .int .u8 54, .int .u8 55, .int .u8 56, .int .u8 57, .int .u8 97, .int .u8 98, .int .u8 99, .int .u8 100, .int .u8 101, .int .u8 102] from rfl] at kcv
  go_enter Try.func22, Try.ntmps22
  go_wp2
  go_ret
  exact ⟨w.heap.size, rfl, (Q.refl w).alloc _, seg_litm w secL _, rfl, secL_by⟩
set_option maxHeartbeats 4000000 in
theorem awake_any (w : World) : Calls Try.prog 15 #[] w fun e w' => e = .returned (.bool true) ∧ Q w w' := by
  have hE : mkE 16 3 77 = 0 := by decide
  have HR := hid (read_make secL (w := 3) (s := 77) (by omega) (by omega) (by omega) (by omega))
  have HM := hid (show mkL secL 3 77 = xr (idL 3 77) (veL secL) from by unfold mkL; rw [if_pos ⟨rfl, by decide, by decide⟩])
  go_enter Try.func15, Try.ntmps15
  go_wp2_with fail
  refine (secret_any w).mono ?_
  rintro e w1 ⟨g, rfl, q1, i1⟩
  have Q1 := hid q1
  have I1 := hid i1
  clear q1 i1
  go_wp2_with fail
  refine (make_any ⟨some ⟨g, 0, none⟩, 16, 16⟩ secL 3 77 w1 I1.out).mono ?_
  rintro e w2 ⟨⟨xa, xn, xc⟩, rfl, q2, r2, n2⟩
  dsimp only
  rw [hE]
  rw [HM.out] at r2
  have Q2 := hid (Q1.out.trans q2)
  have X2 := hid (row_in r2 (xr_id_by secL (by omega) (by omega)))
  have hx : xn = 8 := by have := X2.out.l; rw [xr_len, veL_len, idL, List.length_cons, be_length] at this; dsimp only at this; omega
  subst hx
  clear q2 r2 n2 Q1 I1 hE
  go_wp2_with fail
  refine (secret_any w2).mono ?_
  rintro e w3 ⟨g3, rfl, q3, i3⟩
  have Q3 := hid (Q2.out.trans q3)
  have I3 := hid i3
  have X3 := hid (X2.out.q q3)
  clear q3 i3 Q2 X2
  go_wp2_with fail
  refine (read_any ⟨some ⟨g3, 0, none⟩, 16, 16⟩ ⟨xa, 8, xc⟩ secL _ w3 I3.out X3.out).mono ?_
  rintro e w4 ⟨rfl, q4⟩
  have Q4 := hid (Q3.out.trans q4)
  have e1 : rdWo (xr (idL 3 77) (veL secL)) secL = 3 := by unfold rdWo; rw [if_pos ⟨rfl, X3.out.l⟩]; exact HR.out.1
  have e2 : rdSe (xr (idL 3 77) (veL secL)) secL = 77 := by unfold rdSe; rw [if_pos ⟨rfl, X3.out.l⟩]; exact HR.out.2
  dsimp only
  rw [e1, e2, show rdE 16 8 = 0 from rfl]
  clear q4 e1 e2
  go_wp2
  go_ret
  exact ⟨by first | rfl | simp, Q4.out⟩
end Go.Proofs.Ytnnjogfpapndaaa
