/-
  What route's nonceOf, tokenKey and Token do: contracts that the statements' walks use.
-/
import Derived.Test.YtnnjogfpapndaaaMke
import Derived.Test.YtnnjogfpapndaaaRTxt
import Derived.Test.YtnnjogfpapndaaaOpM
namespace Go.Proofs.Ytnnjogfpapndaaa
open Go.RowKit
set_option linter.unusedVariables false
set_option maxRecDepth 20000

def nncL : List Int := [110, 111, 110, 99, 101]
theorem nncL_by : By nncL := by intro y hy; simp [nncL] at hy; omega
def tknL : List Int := [116, 111, 107, 101, 110]
theorem tknL_by : By tknL := by intro y hy; simp [tknL] at hy; omega
/-- The nonce of bytes that are bound and of what is sealed; the key of a secret. -/
def nnL (bs ps : List Int) : List Int := (dg (nncL ++ bs ++ ps)).take 12
def tkK (ks : List Int) : List Int := dg (tknL ++ ks)
theorem nnL_len (bs ps : List Int) : (nnL bs ps).length = 12 := rfl
theorem nnL_by (bs ps : List Int) : By (nnL bs ps) := By.take (dg_lt _) 12
theorem concat_lit (w : World) (xs : List Sv) (zss : List (List Int)) (hl : zss.length = xs.length) (h : ∀ j, j < xs.length → In w (xs.getD j nilS) (zss.getD j [])) (hm : xs.length ≤ 100) (ht : zss.flatten.length ≤ 1000000) :
    Calls Try.prog 35 #[.slice (some ⟨w.heap.size, 0, none⟩) xs.length xs.length] (w.alloc (.cells (pcs xs) 22)) fun e w' => ∃ x : Sv, e = .returned (.slice x.a x.n x.c) ∧ Q w w' ∧ In w' x zss.flatten ∧ Row w' x zss.flatten ∧ New w.heap.size x := by
  have q : Q w (w.alloc (.cells (pcs xs) 22)) := (Q.refl w).alloc _
  have e : cat (fun j => zss.getD j []) xs.length = zss.flatten := by rw [cat_flat, ← hl, List.take_length]
  refine (concat_any w.heap.size xs.length xs.length (fun j => xs.getD j nilS) (fun j => zss.getD j []) _ (by
      intro j hj
      rw [cell_lit]
      simp [List.getD_eq_getElem?_getD, hj]) (fun j hj => ⟨(h j hj).s.q q, (h j hj).l⟩) hm (by rw [e]; exact ht)).mono ?_
  rintro r w1 ⟨x, rfl, q1, r1, n1⟩
  rw [e] at r1
  refine ⟨x, rfl, q.trans q1, ⟨r1.seg, Row.len r1, ?_⟩, r1, n1.mono q.size⟩
  intro y hy
  obtain ⟨zs, hzs, hy⟩ := List.mem_flatten.1 hy
  obtain ⟨j, hj, rfl⟩ := List.getElem_of_mem hzs
  have := (h j (by omega)).z
  rw [List.getD_eq_getElem?_getD, List.getElem?_eq_getElem hj] at this
  exact this y hy
theorem concat_two (w : World) (x y : Sv) (xs ys : List Int) (hx : In w x xs) (hy : In w y ys) (hb : x.n + y.n ≤ 1000000) :
    Calls Try.prog 35 #[.slice (some ⟨w.heap.size, 0, none⟩) 2 2] (w.alloc (.cells #[.slice x.a x.n x.c, .slice y.a y.n y.c] 22)) fun e w' => ∃ z : Sv, e = .returned (.slice z.a z.n z.c) ∧ Q w w' ∧ In w' z (xs ++ ys) ∧ Row w' z (xs ++ ys) ∧ New w.heap.size z := by
  have h := concat_lit w [x, y] [xs, ys] rfl (fun j hj => by
    rcases (show j = 0 ∨ j = 1 by simp at hj; omega) with rfl | rfl
    · exact hx
    · exact hy) (by simp) (by have := hx.l; have := hy.l; simp; omega)
  rw [show [xs, ys].flatten = xs ++ ys from by simp] at h
  exact h
set_option maxHeartbeats 4000000 in
theorem nonceOf_any (b p : Sv) (bs ps : List Int) (w : World) (hb : In w b bs) (hp : In w p ps) (hn : b.n + p.n ≤ 900000) :
    Calls Try.prog 36 #[.slice b.a b.n b.c, .slice p.a p.n p.c] w fun e w' => ∃ g, e = .returned (.slice (some ⟨g, 0, none⟩) 12 16) ∧ Q w w' ∧ In w' ⟨some ⟨g, 0, none⟩, 12, 16⟩ (nnL bs ps) := by
  obtain ⟨ba, bn, bc⟩ := b
  obtain ⟨pa, pn, pc⟩ := p
  have HB := hid hb
  have HP := hid hp
  have HN := hid hn
  clear hb hp hn
  dsimp only at *
  have kcv := Lib.run_convert_bytes_const (P := Try.prog) w 22 5 (u8s nncL).toArray 5 5 Try.underlying22 Try.underlying5
  rw [show (u8s nncL).toArray = #[.int .u8 110, .int .u8 111, .int .u8 110, .int .u8 99, .int .u8 101] from rfl] at kcv
  go_enter Try.func36, Try.ntmps36
  go_wp2_with fail
  refine (dlit3 nncL (5, 6) ⟨ba, bn, bc⟩ ⟨pa, pn, pc⟩ bs ps w nncL_by HB.out HP.out (by have := HN.out; show 5 + bn + pn ≤ _; omega)).mono ?_
  rintro e w1 ⟨g, rfl, q1, i1, l1⟩
  have HX := hid (And.intro q1 (i1.cutTo 12 16 (by show 12 ≤ 16; omega)))
  clear q1 i1 l1 kcv
  go_wp2
  go_ret
  exact ⟨g, rfl, HX.out⟩
set_option maxHeartbeats 4000000 in
theorem tokenKey_any (k : Sv) (ks : List Int) (w : World) (hk : In w k ks) (hn : k.n = 16) :
    Calls Try.prog 38 #[.slice k.a k.n k.c] w fun e w' => ∃ g, e = .returned (.slice (some ⟨g, 0, none⟩) 16 16) ∧ Q w w' ∧ In w' ⟨some ⟨g, 0, none⟩, 16, 16⟩ (tkK ks) := by
  obtain ⟨ka, kn, kc⟩ := k
  dsimp only at hn
  subst hn
  have HK := hid hk
  clear hk
  dsimp only at *
  have kcv := Lib.run_convert_bytes_const (P := Try.prog) w 22 5 (u8s tknL).toArray 5 5 Try.underlying22 Try.underlying5
  rw [show (u8s tknL).toArray = #[.int .u8 116, .int .u8 111, .int .u8 107, .int .u8 101, .int .u8 110] from rfl] at kcv
  go_enter Try.func38, Try.ntmps38
  go_wp2_with fail
  refine (dlit2 tknL (5, 6) ⟨ka, 16, kc⟩ ks w tknL_by HK.out (by show 5 + 16 ≤ _; omega)).mono ?_
  rintro e w1 ⟨g, rfl, q1, i1, l1⟩
  have HX := hid (And.intro q1 i1)
  clear q1 i1 l1 kcv
  go_wp2
  go_ret
  exact ⟨g, rfl, HX.out⟩
/-- What Token answers: its error, its bytes. -/
def tkE (kn : Nat) (addr until_ : Int) (dn : Nat) : Int := if kn = 16 then (if wiB addr 4294967295 = true then (if wiB until_ 4611686018427387903 = true then (if dn ≤ 20 then 0 else 61) else 10) else 131) else 70
def plL (until_ : Int) (is : List Int) : List Int := be 8 until_ ++ is
def toL (ks : List Int) (addr until_ : Int) (is : List Int) : List Int := nnL (be 4 addr) (plL until_ is) ++ sealL (tkK ks) (nnL (be 4 addr) (plL until_ is)) (be 4 addr) (plL until_ is)
theorem plL_len (until_ : Int) (is : List Int) : (plL until_ is).length = 8 + is.length := by unfold plL; rw [List.length_append, be_length]
theorem plL_by {until_ : Int} {is : List Int} (h : By is) : By (plL until_ is) := By.app (be_bound 8 until_) h
theorem toL_len (ks : List Int) (addr until_ : Int) (is : List Int) : (toL ks addr until_ is).length = 36 + is.length := by
  unfold toL; rw [List.length_append, nnL_len, sealL_len, plL_len]; omega
theorem toL_by {ks : List Int} {addr until_ : Int} {is : List Int} (h : By is) : By (toL ks addr until_ is) := By.app (nnL_by _ _) (sealL_lt (plL_by h))
set_option maxHeartbeats 8000000 in
theorem token_any (k d : Sv) (ks is : List Int) (addr until_ : Int) (w : World) (hk : In w k ks) (hd : In w d is) :
    Calls Try.prog 17 #[.slice k.a k.n k.c, .int .i64 addr, .int .i64 until_, .slice d.a d.n d.c] w fun e w' => ∃ x : Sv, e = .returned (.tuple #[.slice x.a x.n x.c, .int .i64 (tkE k.n addr until_ d.n)]) ∧ Q w w' ∧ Row w' x (if tkE k.n addr until_ d.n = 0 then toL ks addr until_ is else []) ∧ New w.heap.size x := by
  obtain ⟨ka, kn, kc⟩ := k
  obtain ⟨da, dn, dc⟩ := d
  have HK := hid hk
  have HD := hid hd
  have HM := hid (show is.length = dn from hd.l)
  clear hk hd
  dsimp only at *
  by_cases h16 : kn = 16
  rotate_left
  · rw [show tkE kn addr until_ dn = 70 from by unfold tkE; rw [if_neg h16], if_neg (by decide)]
    have hn : ((kn : Int) != 16) = true := by simp; omega
    clear h16
    go_enter Try.func17, Try.ntmps17
    go_wp2
    go_ret2
    exact ⟨nilS, rfl, Q.refl _, sub_nil _ _ _, new_nil _⟩
  subst h16
  by_cases ha : wiB addr 4294967295 = true
  rotate_left
  · rw [show tkE 16 addr until_ dn = 131 from by unfold tkE; rw [if_pos rfl, if_neg ha], if_neg (by decide)]
    have ha' : wiB addr 4294967295 = false := by simpa using ha
    clear ha
    go_enter Try.func17, Try.ntmps17
    go_wp2_with (go_at_call 25; refine (within_any _ _ _).mono ?_; rintro e w' ⟨rfl, rfl⟩)
    go_ret2
    exact ⟨nilS, rfl, Q.refl _, sub_nil _ _ _, new_nil _⟩
  by_cases hu : wiB until_ 4611686018427387903 = true
  rotate_left
  · rw [show tkE 16 addr until_ dn = 10 from by unfold tkE; rw [if_pos rfl, if_pos ha, if_neg hu], if_neg (by decide)]
    have hu' : wiB until_ 4611686018427387903 = false := by simpa using hu
    clear hu
    go_enter Try.func17, Try.ntmps17
    go_wp2_with (go_at_call 25; refine (within_any _ _ _).mono ?_; rintro e w' ⟨rfl, rfl⟩)
    go_ret2
    exact ⟨nilS, rfl, Q.refl _, sub_nil _ _ _, new_nil _⟩
  by_cases h20 : dn ≤ 20
  rotate_left
  · rw [show tkE 16 addr until_ dn = 61 from by unfold tkE; rw [if_pos rfl, if_pos ha, if_pos hu, if_neg h20], if_neg (by decide)]
    have hn : decide ((20 : Int) < (dn : Int)) = true := by simp; omega
    clear h20
    go_enter Try.func17, Try.ntmps17
    go_wp2_with (go_at_call 25; refine (within_any _ _ _).mono ?_; rintro e w' ⟨rfl, rfl⟩)
    go_ret2
    exact ⟨nilS, rfl, Q.refl _, sub_nil _ _ _, new_nil _⟩
  rw [show tkE 16 addr until_ dn = 0 from by unfold tkE; rw [if_pos rfl, if_pos ha, if_pos hu, if_pos h20], if_pos rfl]
  have hn : decide ((20 : Int) < (dn : Int)) = false := by simp; omega
  obtain ⟨a0, a1⟩ := wiB_iff.1 ha
  obtain ⟨u0, u1⟩ := wiB_iff.1 hu
  have a64 : addr < 18446744073709551616 := by omega
  have u64 : until_ < 18446744073709551616 := by omega
  have HDN := hid h20
  clear h20
  go_enter Try.func17, Try.ntmps17
  go_wp2_with (go_at_call 25; refine (within_any _ _ _).mono ?_; rintro e w' ⟨rfl, rfl⟩)
  refine (laid_any 4 (.inl rfl) addr a0 a64 w').mono ?_
  rintro e w1 ⟨⟨ba, bn, bc⟩, rfl, q, r, n⟩
  have Q1 := hid q
  have B1 := hid (row_in r (be_bound 4 addr))
  have hbn : bn = 4 := by have := Row.len r; rw [be_length] at this; exact this.symm
  subst hbn
  clear q r n
  go_wp2_with fail
  refine (laid_any 8 (.inr rfl) until_ u0 u64 w1).mono ?_
  rintro e w2 ⟨⟨ta, tn, tc⟩, rfl, q, r, n⟩
  have Q2 := hid (Q1.out.trans q)
  have B2 := hid (B1.out.q q)
  have T2 := hid (row_in r (be_bound 8 until_))
  have htn : tn = 8 := by have := Row.len r; rw [be_length] at this; exact this.symm
  subst htn
  clear q r n B1 Q1
  go_wp2_with fail
  refine (concat_two w2 ⟨ta, 8, tc⟩ ⟨da, dn, dc⟩ (be 8 until_) is T2.out (HD.out.q Q2.out) (by have := HDN.out; show 8 + dn ≤ _; omega)).mono ?_
  rintro e w3 ⟨⟨pa, pn, pc⟩, rfl, q, i, r, n⟩
  have Q3 := hid (Q2.out.trans q)
  have B3 := hid (B2.out.q q)
  have P3 := hid (show In w3 ⟨pa, pn, pc⟩ (plL until_ is) from i)
  have hpn : Hid (pn ≤ 28) := by have := i.l; rw [List.length_append, be_length, HM.out] at this; dsimp only at this; have := HDN.out; exact hid (by omega)
  clear q i r n B2 T2 Q2
  go_wp2_with fail
  refine (nonceOf_any ⟨ba, 4, bc⟩ ⟨pa, pn, pc⟩ (be 4 addr) (plL until_ is) w3 B3.out P3.out (by have := hpn.out; show 4 + pn ≤ _; omega)).mono ?_
  rintro e w4 ⟨g4, rfl, q, i⟩
  have Q4 := hid (Q3.out.trans q)
  have B4 := hid (B3.out.q q)
  have P4 := hid (P3.out.q q)
  have N4 := hid i
  clear q i B3 P3 Q3
  go_wp2_with fail
  refine (tokenKey_any ⟨ka, 16, kc⟩ ks w4 (HK.out.q Q4.out) rfl).mono ?_
  rintro e w5 ⟨g5, rfl, q, i⟩
  have Q5 := hid (Q4.out.trans q)
  have B5 := hid (B4.out.q q)
  have P5 := hid (P4.out.q q)
  have N5 := hid (N4.out.q q)
  have K5 := hid i
  clear q i B4 P4 N4 Q4
  have HC := hid (show chkE 16 12 4 (pn : Int) = 0 from by have := hpn.out; unfold chkE; rw [if_neg (by omega), if_neg (by omega)])
  go_wp2_with fail
  refine (seal_any ⟨some ⟨g5, 0, none⟩, 16, 16⟩ ⟨some ⟨g4, 0, none⟩, 12, 16⟩ ⟨ba, 4, bc⟩ ⟨pa, pn, pc⟩ _ _ _ _ w5 K5.out N5.out B5.out P5.out (by have := hpn.out; show pn ≤ _; omega)).mono ?_
  dsimp only
  rw [HC.out, if_pos rfl]
  rintro e w6 ⟨⟨sa, sn, sc⟩, rfl, q, r, n⟩
  have Q6 := hid (Q5.out.trans q)
  have N6 := hid (N5.out.q q)
  have S6 := hid (row_in r (sealL_lt (plL_by HD.out.z)))
  have hsn : Hid (sn ≤ 44) := by have := S6.out.l; rw [sealL_len, plL_len, HM.out] at this; dsimp only at this; have := HDN.out; exact hid (by omega)
  clear q r n B5 P5 N5 K5 Q5 HC
  go_wp2_with fail
  refine (concat_two w6 ⟨some ⟨g4, 0, none⟩, 12, 16⟩ ⟨sa, sn, sc⟩ _ _ N6.out S6.out (by have := hsn.out; show 12 + sn ≤ _; omega)).mono ?_
  rintro e w7 ⟨⟨xa, xn, xc⟩, rfl, q, i, r, n⟩
  have HX := hid (show Q w' w7 ∧ Row w7 ⟨xa, xn, xc⟩ (toL ks addr until_ is) ∧ New w'.heap.size ⟨xa, xn, xc⟩ from ⟨Q6.out.trans q, r, n.mono Q6.out.size⟩)
  clear q i r n
  go_wp2
  go_ret2
  exact ⟨⟨xa, xn, xc⟩, rfl, HX.out⟩
end Go.Proofs.Ytnnjogfpapndaaa
