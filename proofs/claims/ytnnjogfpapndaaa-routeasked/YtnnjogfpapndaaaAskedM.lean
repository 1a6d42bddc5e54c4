/-
  Who got a retry and comes again with its token, from the same address and in time, by the id that the retry told, may begin.
-/
import Derived.Test.YtnnjogfpapndaaaRows
import Derived.Test.YtnnjogfpapndaaaNxt
import Derived.Test.YtnnjogfpapndaaaPrf
import Derived.Lib.MinMax
import Derived.BigQuiet
import Derived.Deep.QuietTactic
import Derived.Test.YtnnjogfpapndaaaOpenI
import Derived.Test.YtnnjogfpapndaaaSame
import Derived.WalkKit
import Derived.ProofKit
import Derived.OpenShut
import Derived.ChangeOld
import Derived.Below
import Derived.SizedLaws

/-
  What route's retry does with a table that lies in memory: a contract that the statement's walk uses.
-/
namespace Go.Proofs.Ytnnjogfpapndaaa
open Go.RowKit
set_option linter.unusedVariables false
set_option maxRecDepth 20000

theorem dgst_lit (w : World) (xs : List Sv) (zss : List (List Int)) (hl : zss.length = xs.length) (h : ∀ j, j < xs.length → In w (xs.getD j nilS) (zss.getD j [])) (hm : xs.length ≤ 100) (ht : zss.flatten.length ≤ 1000000) :
    Calls Try.prog 33 #[.slice (some ⟨w.heap.size, 0, none⟩) xs.length xs.length] (w.alloc (.cells (pcs xs) 22)) fun e w' => ∃ g, e = .returned (.slice (some ⟨g, 0, none⟩) 16 16) ∧ Q w w' ∧ In w' ⟨some ⟨g, 0, none⟩, 16, 16⟩ (dg zss.flatten) ∧ w.heap.size ≤ g := by
  have q : Q w (w.alloc (.cells (pcs xs) 22)) := (Q.refl w).alloc _
  have e : cat (fun j => zss.getD j []) xs.length = zss.flatten := by rw [cat_flat, ← hl, List.take_length]
  refine (dgst_any w.heap.size xs.length xs.length (fun j => xs.getD j nilS) (fun j => zss.getD j []) _ (by
      intro j hj
      rw [cell_lit]
      simp [List.getD_eq_getElem?_getD, hj]) (fun j hj => (h j hj).q q) hm (by rw [e]; exact ht)).mono ?_
  rintro r w1 ⟨g, rfl, q1, r1, n1⟩
  rw [e] at r1
  exact ⟨g, rfl, q.trans q1, r1, Nat.le_trans q.size n1⟩
def rtyL : List Int := [114, 101, 116, 114, 121]
theorem rtyL_by : By rtyL := by intro y hy; simp [rtyL] at hy; omega
/-- What a retry tells: its id, its token, its bytes. -/
def rtI (ser : Int) : List Int := mkL secL 9 ser
def rtT (addr now ser : Int) : List Int := toL secL addr (now + 10000) (rtI ser)
def rtA (ps : List Int) (addr now ser : Int) : List Int := lhL 240 ps (rtI ser) ++ rtT addr now ser
def rtL (ps is : List Int) (addr now ser : Int) : List Int := rtA ps addr now ser ++ dg (rtyL ++ (sdL is ++ rtA ps addr now ser))
theorem rtI_ok {ser : Int} (h0 : 0 ≤ ser) (h1 : ser < 1000000) : (rtI ser).length = 8 ∧ By (rtI ser) := by
  have e : rtI ser = xr (idL 9 ser) (veL secL) := by
    unfold rtI mkL
    rw [if_pos ⟨rfl, by decide, wiB_iff.2 ⟨h0, by omega⟩⟩]
  rw [e]
  exact ⟨by rw [xr_len, veL_len, idL, List.length_cons, be_length]; rfl, xr_id_by secL (by omega) (by omega)⟩
theorem lhL_len (f : Int) (ds ss : List Int) : (lhL f ds ss).length = 7 + ds.length + ss.length := by
  unfold lhL; simp [sdL_len]; omega
theorem rtT_len {addr now ser : Int} (h0 : 0 ≤ ser) (h1 : ser < 1000000) : (rtT addr now ser).length = 44 := by unfold rtT; rw [toL_len, (rtI_ok h0 h1).1]
theorem rtA_len {ps : List Int} {addr now ser : Int} (h0 : 0 ≤ ser) (h1 : ser < 1000000) : (rtA ps addr now ser).length = 59 + ps.length := by
  unfold rtA; rw [List.length_append, lhL_len, (rtI_ok h0 h1).1, rtT_len h0 h1]; omega
theorem rtL_len {ps is : List Int} {addr now ser : Int} (h0 : 0 ≤ ser) (h1 : ser < 1000000) : (rtL ps is addr now ser).length = 75 + ps.length := by
  unfold rtL; rw [List.length_append, rtA_len h0 h1, dg_len]; omega
set_option maxHeartbeats 16000000 in
theorem retry_any (tb mi mc : Nat) (k : Sv) (ser : Int) (d s t v : Sv) (ps is : List Int) (H : Hd) (addr now : Int) (w : World) (hT : Tb w tb mi mc k ser) (s0 : 0 ≤ ser) (s1 : ser < 1000000) (hd : In w d is) (hs : In w s ps) (nd : d.n ≤ 20) (ns : s.n ≤ 20) (dt : ∀ x, blk d.a = some x → x ≠ tb) (st : ∀ x, blk s.a = some x → x ≠ tb) (ha : wiB addr 4294967295 = true) (n0 : 0 ≤ now) (n1 : now ≤ 1099511627776) :
    Calls Try.prog 82 #[.pointer (some ⟨tb, 0, none⟩), hv H d s t v, .int .i64 addr, .int .i64 now] w fun e w' => ∃ x : Sv, e = .returned (.slice x.a x.n x.c) ∧ Keep (fun i => i = tb) w w' ∧ Tb w' tb mi mc k (ser + 1) ∧ Row w' x (rtL ps is addr now ser) ∧ New w.heap.size x := by
  obtain ⟨da, dn, dc⟩ := d
  obtain ⟨sa, sn, sc⟩ := s
  dsimp only at nd ns dt st
  have DT := hid (And.intro dt st)
  clear dt st
  have HT := hid hT
  have HD := hid hd
  have HS := hid hs
  have LD := hid (show is.length = dn from hd.l)
  have LS := hid (show ps.length = sn from hs.l)
  have HN := hid (And.intro nd ns)
  have HI := hid (rtI_ok s0 s1)
  have HA := hid ha
  have H0 := hid (And.intro n0 n1)
  have hS := hid (And.intro s0 s1)
  have hw1 : IntKind.i64.wrap (now + 10000) = now + 10000 := by rw [wrap_i64]; omega
  have hTE := hid (show tkE 16 addr (now + 10000) 8 = 0 from by unfold tkE; rw [if_pos rfl, if_pos ha, if_pos (wiB_iff.2 ⟨by omega, by omega⟩), if_pos (by omega)])
  clear hT hd hs nd ns ha n0 n1 s0 s1
  go_enter Try.func82, Try.ntmps82
  go_wp2_with fail
  generalize hv1 : World.alloc w _ = v1
  have Q1 := hid (show Q w v1 from by rw [← hv1]; exact (Q.refl w).alloc _)
  have b1 : Box v1 80 w.heap.size H ⟨da, dn, dc⟩ ⟨sa, sn, sc⟩ t v := by rw [← hv1]; exact heap_alloc_new w _
  clear hv1
  obtain ⟨hb, hhb⟩ : ∃ hb, w.heap.size = hb := ⟨_, rfl⟩
  rw [hhb] at b1 ⊢
  have HHB := hid hhb
  clear hhb
  refine (next_any tb mi mc k ser v1 (HT.out.q Q1.out) hS.out.1 hS.out.2).mono ?_
  rintro e v2 ⟨⟨ia, n8, ic⟩, rfl, k2, t2, r2, w2⟩
  have hneq : hb ≠ tb := by have := HT.out.lt; have := HHB.out; omega
  have hi8 : n8 = 8 := by have h := Row.len r2; have h2 := HI.out.1; unfold rtI at h2; rw [h2] at h; exact h.symm
  subst hi8
  have B2 := hid (b1.keep k2 hneq)
  have K2 := hid (show Keep (fun i => i = tb) w v2 from (Keep.ofQ Q1.out).trans k2)
  have T2 := hid t2
  have R2 := hid (show Row v2 ⟨ia, 8, ic⟩ (rtI ser) from r2)
  have D2 := hid (show In v2 ⟨da, dn, dc⟩ is from ⟨HD.out.s.keep K2.out DT.out.1, HD.out.l, HD.out.z⟩)
  have S2 := hid (show In v2 ⟨sa, sn, sc⟩ ps from ⟨HS.out.s.keep K2.out DT.out.2, HS.out.l, HS.out.z⟩)
  have hkn := T2.out.n
  obtain ⟨ka, kn, kc⟩ := k
  dsimp only at hkn
  subst hkn
  have c0 := T2.out.c0
  dsimp only at c0
  clear k2 t2 r2 w2 b1 Q1
  go_wp2_with fail
  refine (token_any ⟨ka, 16, kc⟩ ⟨ia, 8, ic⟩ secL (rtI ser) addr (now + 10000) v2 T2.out.i (row_in R2.out HI.out.2)).mono ?_
  dsimp only
  rw [hTE.out, if_pos rfl]
  rintro e v3 ⟨⟨ta, tn, tc⟩, rfl, q, r, n⟩
  have K3 := hid (K2.out.trans (Keep.ofQ q))
  have T3 := hid (T2.out.q q)
  have D3 := hid (D2.out.q q)
  have S3 := hid (S2.out.q q)
  have B3 := hid (B2.out.q q)
  have I3 := hid (show In v3 ⟨ia, 8, ic⟩ (rtI ser) from (row_in R2.out HI.out.2).q q)
  have X3 := hid (show In v3 ⟨ta, tn, tc⟩ (rtT addr now ser) from row_in r (toL_by HI.out.2))
  have htn : tn = 44 := by have h := X3.out.l; rw [rtT_len hS.out.1 hS.out.2] at h; exact h.symm
  subst htn
  have d3 := B3.out.c3
  dsimp only at d3
  clear q r n K2 T2 D2 S2 B2 R2 c0
  go_wp2_with fail
  refine (longHead_any 240 (by omega) (by omega) ⟨sa, sn, sc⟩ ⟨ia, 8, ic⟩ ps (rtI ser) v3 S3.out I3.out HN.out.2 (by show 8 ≤ 20; omega)).mono ?_
  rintro e v4 ⟨⟨la, ln, lc⟩, rfl, q, i, r, n⟩
  have K4 := hid (K3.out.trans (Keep.ofQ q))
  have T4 := hid (T3.out.q q)
  have D4 := hid (D3.out.q q)
  have B4 := hid (B3.out.q q)
  have X4 := hid (X3.out.q q)
  have L4 := hid i
  have hln : Hid (ln ≤ 100) := by have h := i.l; rw [lhL_len, HI.out.1, LS.out] at h; dsimp only at h; have := HN.out; exact hid (by omega)
  clear q i r n K3 T3 D3 S3 B3 I3 X3 d3
  go_wp2_with fail
  refine (concat_two v4 ⟨la, ln, lc⟩ ⟨ta, 44, tc⟩ _ _ L4.out X4.out (by have := hln.out; show ln + 44 ≤ _; omega)).mono ?_
  rintro e v5 ⟨⟨oa, on, oc⟩, rfl, q, i, r, n⟩
  have K5 := hid (K4.out.trans (Keep.ofQ q))
  have T5 := hid (T4.out.q q)
  have D5 := hid (D4.out.q q)
  have B5 := hid (B4.out.q q)
  have O5 := hid (show In v5 ⟨oa, on, oc⟩ (rtA ps addr now ser) from i)
  have hon : Hid (on ≤ 100) := by have h := O5.out.l; rw [rtA_len hS.out.1 hS.out.2, LS.out] at h; dsimp only at h; have := HN.out; exact hid (by omega)
  have d2 := B5.out.c2
  dsimp only at d2
  clear q i r n K4 T4 D4 B4 X4 L4
  have kcv := Lib.run_convert_bytes_const (P := Try.prog) v5 22 5 (u8s rtyL).toArray 5 5 Try.underlying22 Try.underlying5
  rw [show (u8s rtyL).toArray = #[.int .u8 114, .int .u8 101, .int .u8 116, .int .u8 114, .int .u8 121] from rfl] at kcv
  have d2a : (v5.alloc (.cells #[.int .u8 114, .int .u8 101, .int .u8 116, .int .u8 114, .int .u8 121] 5 (5, 6))).cell? ⟨hb, 2, none⟩ = some (.slice da dn dc) := (B5.out.q ((Q.refl v5).alloc _)).c2
  clear d2
  go_wp2_with fail
  obtain ⟨v6, hv6⟩ : ∃ v6, v6 = v5.alloc (.cells #[.int .u8 114, .int .u8 101, .int .u8 116, .int .u8 114, .int .u8 121] 5 (5, 6)) := ⟨_, rfl⟩
  rw [← hv6]
  have q6 : Q v5 v6 := by rw [hv6]; exact (Q.refl v5).alloc _
  have L6 := hid (show In v6 ⟨some ⟨v5.heap.size, 0, none⟩, 5, 5⟩ rtyL from by rw [hv6]; exact ⟨seg_litm v5 rtyL (5, 6), rfl, rtyL_by⟩)
  have K6 := hid (K5.out.trans (Keep.ofQ q6))
  have T6 := hid (T5.out.q q6)
  have D6 := hid (D5.out.q q6)
  have O6 := hid (O5.out.q q6)
  clear hv6 q6 K5 T5 D5 B5 O5 kcv d2a
  generalize v5.heap.size = lb at *
  refine (sid_any ⟨da, dn, dc⟩ is v6 D6.out HN.out.1).mono ?_
  rintro e v7 ⟨⟨za, zn, zc⟩, rfl, q, i, r, n⟩
  have K7 := hid (K6.out.trans (Keep.ofQ q))
  have T7 := hid (T6.out.q q)
  have L7 := hid (L6.out.q q)
  have O7 := hid (O6.out.q q)
  have Z7 := hid i
  have hzn : Hid (zn ≤ 21) := by have h := i.l; rw [sdL_len, LD.out] at h; dsimp only at h; have := HN.out; exact hid (by omega)
  clear q i r n K6 T6 L6 D6 O6
  go_wp2_with fail
  have DG := dgst_lit v7 [⟨some ⟨lb, 0, none⟩, 5, 5⟩, ⟨za, zn, zc⟩, ⟨oa, on, oc⟩] [rtyL, sdL is, rtA ps addr now ser] rfl (fun j hj => by
    rcases (show j = 0 ∨ j = 1 ∨ j = 2 by simp at hj; omega) with rfl | rfl | rfl
    · exact L7.out
    · exact Z7.out
    · exact O7.out) (by simp) (by
      have h1 := Z7.out.l
      have h2 := O7.out.l
      have h3 := hzn.out
      have h4 := hon.out
      dsimp only at h1 h2
      simp [rtyL]
      omega)
  rw [show [rtyL, sdL is, rtA ps addr now ser].flatten = rtyL ++ (sdL is ++ rtA ps addr now ser) from by simp] at DG
  refine DG.mono ?_
  rintro e v8 ⟨g8, rfl, q, i, n⟩
  have K8 := hid (K7.out.trans (Keep.ofQ q))
  have T8 := hid (T7.out.q q)
  have O8 := hid (O7.out.q q)
  have G8 := hid i
  clear q i n K7 T7 L7 O7 Z7 DG
  go_wp2_with fail
  refine (concat_two v8 ⟨oa, on, oc⟩ ⟨some ⟨g8, 0, none⟩, 16, 16⟩ _ _ O8.out G8.out (by have := hon.out; show on + 16 ≤ _; omega)).mono ?_
  rintro e v9 ⟨⟨fa, fn, fc⟩, rfl, q, i, r, n⟩
  have HX := hid (show Keep (fun i => i = tb) w v9 ∧ Tb v9 tb mi mc ⟨ka, 16, kc⟩ (ser + 1) ∧ Row v9 ⟨fa, fn, fc⟩ (rtL ps is addr now ser) ∧ New w.heap.size ⟨fa, fn, fc⟩ from ⟨K8.out.trans (Keep.ofQ q), T8.out.q q, r, n.mono K8.out.size⟩)
  clear q i r n
  go_wp2
  go_ret
  exact ⟨⟨fa, fn, fc⟩, rfl, HX.out⟩
end Go.Proofs.Ytnnjogfpapndaaa

/-
  What route's opened and Proof do with a token that was made for this address, wherever its bytes begin: contracts that the statements' walks use.
-/
namespace Go.Proofs.Ytnnjogfpapndaaa
open Go.RowKit
set_option linter.unusedVariables false
set_option maxRecDepth 20000

set_option maxHeartbeats 8000000 in
theorem opened_at (k : Sv) (g o n c : Nat) (ks is : List Int) (addr until_ : Int) (w : World) (hk : In w k ks) (hn : k.n = 16) (ha : wiB addr 4294967295 = true) (hu : wiB until_ 4611686018427387903 = true) (hi : By is) (h20 : is.length ≤ 20) (ht : In w ⟨some ⟨g, o, none⟩, n, c⟩ (toL ks addr until_ is)) (hc : n ≤ c) :
    Calls Try.prog 41 #[.slice k.a k.n k.c, .int .i64 addr, .slice (some ⟨g, o, none⟩) n c] w fun e w' => ∃ x : Sv, e = .returned (.tuple #[.slice x.a x.n x.c, .bool true]) ∧ Q w w' ∧ Row w' x (plL until_ is) := by
  obtain ⟨ka, kn, kc⟩ := k
  dsimp only at hn
  subst hn
  have HK := hid hk
  have HT := hid ht
  have HI := hid hi
  have hnl : n = 36 + is.length := by have := ht.l; rw [toL_len] at this; exact this.symm
  obtain ⟨a0, a1⟩ := wiB_iff.1 ha
  have a64 : addr < 18446744073709551616 := by omega
  have HN := hid hnl
  have HC := hid hc
  have H20 := hid h20
  -- the parts of the token
  have N0 := hid (show In w ⟨some ⟨g, o, none⟩, 12, c⟩ (nnL (be 4 addr) (plL until_ is)) from by
    have h := ht.cutTo 12 c (by show 12 ≤ n; omega)
    rw [show (toL ks addr until_ is).take 12 = nnL (be 4 addr) (plL until_ is) from by unfold toL; rw [List.take_append_of_le_length (by rw [nnL_len]; omega)]; exact List.take_of_length_le (by rw [nnL_len]; omega)] at h
    exact h)
  have S0 := hid (show In w ⟨some ⟨g, o + 12, none⟩, n - 12, c - 12⟩ (sealL (tkK ks) (nnL (be 4 addr) (plL until_ is)) (be 4 addr) (plL until_ is)) from by
    have e : (toL ks addr until_ is).drop 12 = sealL (tkK ks) (nnL (be 4 addr) (plL until_ is)) (be 4 addr) (plL until_ is) := by unfold toL; rw [List.drop_append_of_le_length (by rw [nnL_len]; omega), List.drop_of_length_le (by rw [nnL_len]; omega), List.nil_append]
    have h := seg_drop ht.s 12
    rw [e] at h
    exact ⟨h, by rw [sealL_len, plL_len]; show _ = n - 12; omega, sealL_lt (plL_by hi)⟩)
  have OS := hid (open_seal (tkK ks) (nnL (be 4 addr) (plL until_ is)) (be 4 addr) (plL until_ is) (plL_by hi) (by
    rw [nnL_len, be_length, plL_len, show (tkK ks).length = 16 from dg_len _]; unfold chkE; rw [if_neg (by omega), if_neg (by omega)]))
  have g12 : decide ((n : Int) < 12) = false := by simp; omega
  have sl1 : ∀ u, (Instr.slice 22 (.slice (some ⟨g, o, none⟩) n c) none (some (.int .i64 12)) none).run Try.prog u = .ok (.slice (some ⟨g, o, none⟩) 12 c) u := fun u => slice_to g o n c 12 u (by omega) (by omega)
  have sl2 : ∀ u, (Instr.slice 22 (.slice (some ⟨g, o, none⟩) n c) (some (.int .i64 12)) none none).run Try.prog u = .ok (.slice (some ⟨g, o + 12, none⟩) (n - 12) (c - 12)) u := fun u => by
    exact sl_from g o n c 12 (by omega) (by omega) u
  have HM := hid (show n - 12 = 24 + is.length ∧ n - 12 ≤ c - 12 from by omega)
  generalize n - 12 = m at *
  generalize c - 12 = d at *
  clear hk ht hi hnl ha hc h20 a1 HC HN
  have s1 : Q w w := Q.refl _
  have hwa : IntKind.u64.wrap addr = addr := wrap_u64 a0 a64
  have LA := hid (fun u (hu : Q w u) => laid_any 4 (.inl rfl) addr a0 a64 u)
  go_enter Try.func41, Try.ntmps41
  go_wp2
  go_region_held3 (fun u => Q w u) (repeat (first | (with_reducible assumption) | (with_reducible apply Q.drew) | (with_reducible apply Q.drewN) | (with_reducible apply And.intro)))
    (first | (go_at_call 26; refine (LA.out _ (by repeat (first | (with_reducible assumption) | (with_reducible apply Q.drew) | (with_reducible apply Q.drewN)))).mono ?_; rintro e w1 ⟨⟨ba, bn, bc⟩, rfl, q1, r1, n1⟩; have j1 : Q w w1 := Q.trans (by repeat (first | (with_reducible assumption) | (with_reducible apply Q.drew) | (with_reducible apply Q.drewN))) q1))
  have Q1 := hid j1
  have B1 := hid (row_in r1 (be_bound 4 addr))
  have hbn : bn = 4 := by have := Row.len r1; rw [be_length] at this; exact this.symm
  subst hbn
  clear q1 r1 n1 j1 s1 LA
  have s2 : Q w1 w1 := Q.refl _
  have KY := hid (fun u (hu : Q w1 u) => tokenKey_any ⟨ka, 16, kc⟩ ks u ((HK.out.q Q1.out).q hu) rfl)
  have OP := hid (fun (g5 : Nat) u (hu : Q w1 u) (hk : In u ⟨some ⟨g5, 0, none⟩, 16, 16⟩ (tkK ks)) => open_any ⟨some ⟨g5, 0, none⟩, 16, 16⟩ ⟨some ⟨g, o, none⟩, 12, c⟩ ⟨ba, 4, bc⟩ ⟨some ⟨g, o + 12, none⟩, m, d⟩ (tkK ks) (nnL (be 4 addr) (plL until_ is)) (be 4 addr) _ u hk ((N0.out.q Q1.out).q hu) (B1.out.q hu) ((S0.out.q Q1.out).q hu) (by have := HM.out; have := H20.out; show m ≤ _; omega) HM.out.2)
  dsimp only at KY OP
  rw [OS.out.1, OS.out.2] at OP
  go_wp2
  go_region_held3 (fun u => Q w1 u) (repeat (first | (with_reducible assumption) | (with_reducible apply Q.drew) | (with_reducible apply Q.drewN) | (with_reducible apply And.intro)))
    (first
      | (go_at_call 38; refine (KY.out _ (by repeat (first | (with_reducible assumption) | (with_reducible apply Q.drew) | (with_reducible apply Q.drewN)))).mono ?_; rintro e w2 ⟨g5, rfl, q2, i2⟩; have j2 : Q w1 w2 := Q.trans (by repeat (first | (with_reducible assumption) | (with_reducible apply Q.drew) | (with_reducible apply Q.drewN))) q2; have I2 := hid i2)
      | (go_at_call 57; refine (OP.out g5 _ (by repeat (first | (with_reducible assumption) | (with_reducible apply Q.drew) | (with_reducible apply Q.drewN))) (I2.out.q (by repeat (first | (with_reducible assumption) | (with_reducible exact Q.refl _) | (with_reducible apply Q.drew) | (with_reducible apply Q.drewN))))).mono ?_; rintro e w3 ⟨⟨pa, pn, pc⟩, rfl, q3, r3⟩; have j3 : Q w1 w3 := Q.trans (by repeat (first | (with_reducible assumption) | (with_reducible apply Q.drew) | (with_reducible apply Q.drewN))) q3; have R3 := hid r3))
  have Q3 := hid (Q1.out.trans j3)
  have P3 := hid (row_in R3.out (plL_by HI.out))
  have hpn : pn = 8 + is.length := by have := P3.out.l; rw [plL_len] at this; exact this.symm
  have HPN := hid hpn
  have B3 := hid (B1.out.q j3)
  clear q2 i2 j2 I2 q3 r3 j3 s2 KY OP B1 S0 OS hpn
  obtain ⟨pm, hpm, HPM⟩ : ∃ pm : Int, (pn : Int) - 8 = pm ∧ Hid (0 ≤ pm ∧ pm ≤ 20) := ⟨_, rfl, hid (by have := HPN.out; have := H20.out; omega)⟩
  have hwi : wiB pm 20 = true := wiB_iff.2 HPM.out
  have hwp : IntKind.i64.wrap pm = pm := by have := HPM.out; rw [wrap_i64]; omega
  have hwp64 : wrap64 pm = pm := by have := HPM.out; unfold wrap64; omega
  have NC := hid (nonceOf_any ⟨ba, 4, bc⟩ ⟨pa, pn, pc⟩ (be 4 addr) (plL until_ is) w3 B3.out P3.out (by have := HPN.out; have := H20.out; show 4 + pn ≤ _; omega))
  go_wp2_with (first | (go_at_call 25; refine (within_any _ _ _).mono ?_; rintro e w' ⟨rfl, rfl⟩))
  refine NC.out.mono ?_
  rintro e w4 ⟨g4, rfl, q4, i4⟩
  have HX := hid (show Q w w4 ∧ Row w4 ⟨pa, pn, pc⟩ (plL until_ is) from ⟨Q3.out.trans q4, R3.out.q q4⟩)
  have EQ := hid (equal_yes g o 12 c g4 0 12 16 _ w4 (N0.out.q HX.out.1) i4)
  clear q4 i4 NC P3 B3 R3 Q3
  go_wp2_with fail
  refine EQ.out.mono ?_
  rintro e w5 ⟨rfl, rfl⟩
  go_wp2
  go_ret2
  exact ⟨⟨pa, pn, pc⟩, rfl, HX.out⟩
set_option maxHeartbeats 8000000 in
/-- Proof of a token that was made for this address. -/
theorem proof_at (k : Sv) (g o n c : Nat) (ks is : List Int) (addr until_ now : Int) (w : World) (hk : In w k ks) (hn : k.n = 16) (ha : wiB addr 4294967295 = true) (hu : wiB until_ 4611686018427387903 = true) (hi : By is) (h20 : is.length ≤ 20) (ht : In w ⟨some ⟨g, o, none⟩, n, c⟩ (toL ks addr until_ is)) (hc : n ≤ c) (hnow : now ≤ 9223372036854775807) :
    Calls Try.prog 19 #[.slice k.a k.n k.c, .int .i64 addr, .int .i64 now, .slice (some ⟨g, o, none⟩) n c] w fun e w' => ∃ x : Sv, e = .returned (.tuple #[.slice x.a x.n x.c, .int .i64 (prE until_ now)]) ∧ Q w w' ∧ Row w' x (prL until_ now is) ∧ New w.heap.size x := by
  have HO := hid (opened_at k g o n c ks is addr until_ w hk hn ha hu hi h20 ht hc)
  obtain ⟨u0, u1⟩ := wiB_iff.1 hu
  obtain ⟨ka, kn, kc⟩ := k
  dsimp only at hn
  subst hn
  have HI := hid hi
  have H20 := hid h20
  dsimp only at HO
  clear hk ht hi hc h20 hu
  have HV := hid (val_be_of (s := 8) u0 (show until_ < 256 ^ 8 by omega))
  have AF := hid (fun u => after_any now until_ u u0 (by omega) hnow)
  clear hnow
  go_enter Try.func19, Try.ntmps19
  go_wp2_with (go_at_call 25; refine (within_any _ _ _).mono ?_; rintro e w' ⟨rfl, rfl⟩)
  refine HO.out.mono ?_
  rintro e w1 ⟨⟨pa, pn, pc⟩, rfl, q1, r1⟩
  have Q1 := hid q1
  have hpn : pn = 8 + is.length := by have := Row.len r1; rw [plL_len] at this; exact this.symm
  have hpc : pn ≤ pc := Row.cap r1
  obtain ⟨pg, po, e⟩ := row_addr r1 (by show 0 < pn; omega)
  dsimp only at e
  subst e
  have P1 := hid (row_in r1 (plL_by (until_ := until_) HI.out))
  have T1 := hid (show In w1 ⟨some ⟨pg, po, none⟩, 8, pc⟩ (be 8 until_) from by
    have h := P1.out.cutTo 8 pc (by show 8 ≤ pn; omega)
    rw [plL_take] at h
    exact h)
  obtain ⟨fa, sl2, i1⟩ := P1.out.from_ (k := 8) (by omega) hpc
  rw [plL_drop] at i1
  have I1 := hid i1
  have sl1 : ∀ u, (Instr.slice 22 (.slice (some ⟨pg, po, none⟩) pn pc) none (some (.int .i64 8)) none).run Try.prog u = .ok (.slice (some ⟨pg, po, none⟩) 8 pc) u := fun u => slice_to pg po pn pc 8 u (by omega) (by omega)
  have sl3 : ∀ u, (Instr.slice 22 (.slice (some ⟨pg, po, none⟩) pn pc) (some (.int .i64 8)) none none).run Try.prog u = .ok (.slice fa (pn - 8) (pc - 8)) u := sl2
  have NO := hid (numberOf_any ⟨some ⟨pg, po, none⟩, 8, pc⟩ _ w1 T1.out (by show 8 ≤ 8; omega))
  rw [HV.out] at NO
  dsimp only at NO
  have HPN := hid hpn
  clear hpn hpc q1 r1 i1 sl2
  by_cases hlt : until_ < now
  · have HE := hid (show prE until_ now = 130 from by unfold prE; rw [if_pos hlt])
    have HL := hid (show prL until_ now is = [] from by unfold prL; rw [if_pos hlt])
    have hd : decide (until_ < now) = true := by simp [hlt]
    rw [hd] at AF
    clear hd hlt
    go_wp2_with (first | (go_at_call 31; refine NO.out.mono ?_; rintro e w2 ⟨rfl, rfl⟩) | (go_at_call 42; refine (AF.out _).mono ?_; rintro e w3 ⟨rfl, rfl⟩))
    go_ret2
    rw [HE.out, HL.out]
    exact ⟨nilS, rfl, Q1.out, sub_nil _ _ _, new_nil _⟩
  · have HE := hid (show prE until_ now = 0 from by unfold prE; rw [if_neg hlt])
    have HL := hid (show prL until_ now is = is from by unfold prL; rw [if_neg hlt])
    have hd : decide (until_ < now) = false := by simp; omega
    rw [hd] at AF
    have CL := hid (clone_any ⟨fa, pn - 8, pc - 8⟩ is w1 I1.out (by have := H20.out; have := HPN.out; show pn - 8 ≤ _; omega))
    dsimp only at CL
    clear hd hlt
    generalize pn - 8 = fn at *
    generalize pc - 8 = fc at *
    go_wp2_with (first | (go_at_call 31; refine NO.out.mono ?_; rintro e w2 ⟨rfl, rfl⟩) | (go_at_call 42; refine (AF.out _).mono ?_; rintro e w3 ⟨rfl, rfl⟩) | (go_at_call 43; refine CL.out.mono ?_; rintro e w4 ⟨⟨ya, yn, yc⟩, rfl, q4, r4, n4⟩; have HX := hid (show Q w' w4 ∧ Row w4 ⟨ya, yn, yc⟩ is ∧ New w'.heap.size ⟨ya, yn, yc⟩ from ⟨Q1.out.trans q4, r4, n4.mono Q1.out.size⟩); clear q4 r4 n4))
    go_ret2
    rw [HE.out, HL.out]
    exact ⟨⟨ya, yn, yc⟩, rfl, HX.out⟩
end Go.Proofs.Ytnnjogfpapndaaa

/-
  What route's answer, proves and beginning do, and slices.Equal: contracts that the statement's walk uses.
-/
namespace Go.Proofs.Ytnnjogfpapndaaa
open Go.RowKit
set_option linter.unusedVariables false
set_option maxRecDepth 20000

/-- The words of a verdict. -/
abbrev vcells (k c : Int) (f p r : Sv) : Array Value := #[.int .i64 k, .int .i64 c, .slice f.a f.n f.c, .slice p.a p.n p.c, .slice r.a r.n r.c]
abbrev vv (k c : Int) (f p r : Sv) : Value := .agg (vcells k c f p r)
theorem vcells_one (k c : Int) (f p r : Sv) : (vcells k c f p r).all (·.oneCell') = true := by simp [vcells, Value.oneCell']
theorem vcells_info (k c : Int) (f p r : Sv) : (Try.prog.info? 54).map (·.size) = some (vcells k c f p r).size := by
  show (Try.prog.info? 54).map (·.size) = some 5
  kernel_rfl
theorem ret_vd {fn : Func} {p : Tmp} {a : Act} {w : World} {R : Ending → World → Prop} (hr : fn.results = #[.cell p 54]) (hd : a.defers = [])
    (g ty : Nat) (k c : Int) (f q r : Sv) (hp : a.tmps.getD p undef = .pointer (some ⟨g, 0, none⟩)) (hb : w.heap[g]? = some (.cells (vcells k c f q r) ty (0, 0))) (hR : R (.returned (vv k c f q r)) w) : bodyPost Try.prog fn R .ret a w :=
  ⟨hd, _, results_cell_row hr _ w g ty _ (0, 0) _ hp hb Try.underlying54 rfl (by kernel_rfl), hR⟩
set_option maxHeartbeats 4000000 in
theorem answer_any (x : Sv) (w : World) : Calls Try.prog 61 #[.slice x.a x.n x.c] w fun e w' => e = .returned (vv 3 0 nilS nilS x) ∧ Q w w' := by
  obtain ⟨xa, xn, xc⟩ := x
  dsimp only
  go_enter Try.func61, Try.ntmps61
  go_wp2_with (refine wpList_store_row rfl 54 _ _ rfl w.heap.size (vcells 3 0 nilS nilS ⟨xa, xn, xc⟩) rfl rfl 54 _ (heap_alloc_new w _) (vcells_info _ _ _ _ _) rfl (vcells_one _ _ _ _ _) ?_)
  refine ret_vd rfl rfl w.heap.size 54 3 0 nilS nilS ⟨xa, xn, xc⟩ rfl (setRow_heap _ _ _ _ 54 _ (heap_alloc_new w _)) ?_
  refine ⟨rfl, ?_⟩
  have k4 : Keep (fun i => i = w.heap.size) w ((w.alloc (.cells (vcells 0 0 nilS nilS nilS) 54)).setRow w.heap.size (vcells 3 0 nilS nilS ⟨xa, xn, xc⟩)) := ((Keep.refl (fun i => i = w.heap.size) w).alloc _).setRow _ _ (.inl rfl)
  exact k4.below (Q.refl _) (Nat.le_refl _) (fun i e => by omega)
set_option maxHeartbeats 4000000 in
/-- slices.Equal of the same bytes. -/
theorem eql_yes (x y : Sv) (zs : List Int) (w : World) (hx : In w x zs) (hy : In w y zs) (hb : x.n ≤ 1000000) :
    Calls Try.prog 93 #[.slice x.a x.n x.c, .slice y.a y.n y.c] w fun e w' => e = .returned (.bool true) ∧ Q w w' := by
  obtain ⟨xa, n, xc⟩ := x
  obtain ⟨ya, yn, yc⟩ := y
  have L1 := hid (show zs.length = n from hx.l)
  have hyn : yn = n := by have h1 := hy.l; rw [L1.out] at h1; exact h1.symm
  subst hyn
  have HX := hid hx
  have HY := hid hy
  dsimp only at hb
  clear hx hy
  have hne : ((yn : Int) != yn) = false := by simp
  dsimp only at *
  go_enter Try.func93, Try.ntmps93
  go_wp2
  go_loopw [13] (fun i wr => ∃ k : Nat, k ≤ yn ∧ i = .int .i64 k ∧ Q w wr) (fun i _ => yn - (intOf i).toNat)
  case atStart => exact ⟨0, Nat.zero_le _, rfl, Q.refl _⟩
  case round =>
    obtain ⟨k, hk, rfl, hq⟩ := hrel
    by_cases hlt : k < yn
    · obtain ⟨p1, o1, rfl, g1⟩ := (HX.out.s.q hq) (by intro h; have := L1.out; simp [h] at this; omega)
      obtain ⟨p2, o2, rfl, g2⟩ := (HY.out.s.q hq) (by intro h; have := L1.out; simp [h] at this; omega)
      have q1 := g1 k (by have := L1.out; omega)
      have q2 := g2 k (by have := L1.out; omega)
      have HQ := hid hq
      clear g1 g2 hq
      have hlt' : (k : Int) < (yn : Int) := by omega
      have hk0 : (0 : Int) ≤ (k : Int) := by omega
      generalize zs.getD k 0 = z at *
      have hd : (z != z) = false := by simp
      go_wp2
      go_quiet (fail)
      go_wp2
      go_roundw
      case rel => exact ⟨k + 1, by omega, by go_num, HQ.out.drewN _⟩
      case measure => simp [intOf]; omega
    · obtain rfl : k = yn := by omega
      go_wp2
      go_ret
      exact ⟨rfl, hq⟩
set_option maxHeartbeats 8000000 in
/-- A packet with the token of a retry. -/
theorem proves_ok (tb mi mc : Nat) (k : Sv) (ser : Int) (d s t v : Sv) (is : List Int) (H : Hd) (addr now until_ : Int) (w : World) (hT : Tb w tb mi mc k ser) (hd : In w d is) (ht : Row w t (toL secL addr until_ is)) (h20 : is.length ≤ 20) (ha : wiB addr 4294967295 = true) (hu : wiB until_ 4611686018427387903 = true) (hnow : now ≤ until_) :
    Calls Try.prog 83 #[.pointer (some ⟨tb, 0, none⟩), hv H d s t v, .int .i64 addr, .int .i64 now] w fun e w' => e = .returned (.bool true) ∧ Q w w' := by
  have hkn := hT.n
  obtain ⟨ka, kn, kc⟩ := k
  dsimp only at hkn
  subst hkn
  obtain ⟨da, dn, dc⟩ := d
  obtain ⟨ta, tn, tc⟩ := t
  have htl : tn = 36 + is.length := by have h := Row.len ht; rw [toL_len] at h; exact h.symm
  obtain ⟨tg, tf, e⟩ := row_addr ht (by show 0 < tn; omega)
  dsimp only at e
  subst e
  have HT := hid hT
  have HD := hid hd
  have HTK := hid (row_in ht (toL_by hd.z))
  have HC := hid (Row.cap ht)
  have HU := hid (wiB_iff.1 hu)
  have PR := hid (fun u (hq : Q w u) => proof_at ⟨ka, 16, kc⟩ tg tf tn tc secL is addr until_ now u (HT.out.i.q hq) rfl ha hu hd.z h20 (HTK.out.q hq) HC.out (by have := HU.out; omega))
  rw [show prE until_ now = 0 from by unfold prE; rw [if_neg (by omega)], show prL until_ now is = is from by unfold prL; rw [if_neg (by omega)]] at PR
  dsimp only at PR
  have LD := hid (show is.length = dn from hd.l)
  have H20 := hid h20
  clear hT hd ht h20 ha hu hnow htl
  go_enter Try.func83, Try.ntmps83
  go_wp2
  generalize hv1 : World.alloc w _ = v1
  have q1 : Q w v1 := by rw [← hv1]; exact (Q.refl w).alloc _
  have b1 : Box v1 80 w.heap.size H ⟨da, dn, dc⟩ s ⟨some ⟨tg, tf, none⟩, tn, tc⟩ v := by rw [← hv1]; exact heap_alloc_new w _
  clear hv1
  generalize w.heap.size = hb at *
  have Q1 := hid q1
  have B1 := hid b1
  have s0 : Q v1 v1 := Q.refl _
  have c0 := (HT.out.q q1).c0
  have c4 := b1.c4
  dsimp only at c0 c4
  clear q1 b1
  go_region_held3 (fun u => Q v1 u ∧ u.cell? ⟨tb, 0, none⟩ = some (.slice ka 16 kc) ∧ u.cell? ⟨hb, 4, none⟩ = some (.slice (some ⟨tg, tf, none⟩) tn tc)) (repeat (first | (with_reducible assumption) | (with_reducible apply Q.drew) | (with_reducible apply Q.drewN) | (with_reducible refine dcel ?_) | (with_reducible refine dcelN ?_) | (with_reducible apply And.intro)))
    (first | (go_at_call 19; refine (PR.out _ (Q.trans Q1.out (by repeat (first | (with_reducible assumption) | (with_reducible apply Q.drew) | (with_reducible apply Q.drewN))))).mono ?_; rintro e w2 ⟨⟨pa, pn, pc⟩, rfl, q2, r2, n2⟩; have j2 : Q v1 w2 := Q.trans (by repeat (first | (with_reducible assumption) | (with_reducible apply Q.drew) | (with_reducible apply Q.drewN))) q2; have t0 := (HT.out.q (Q1.out.trans j2)).c0; have t4 := (B1.out.q j2).c4; dsimp only at t0 t4))
  have Q2 := hid (Q1.out.trans j2)
  have EQ := hid (eql_yes ⟨pa, pn, pc⟩ ⟨da, dn, dc⟩ is w2 (row_in r2 HD.out.z) (HD.out.q Q2.out) (by have h := Row.len r2; have := H20.out; dsimp only at h ⊢; omega))
  have d2 := (B1.out.q j2).c2
  dsimp only at d2
  clear q2 r2 n2 j2 t0 t4 c0 c4 s0 PR
  go_wp2_with fail
  refine EQ.out.mono ?_
  rintro e w3 ⟨rfl, q3⟩
  have Q3 := hid (Q2.out.trans q3)
  clear q3
  go_wp2
  go_ret
  exact ⟨by first | rfl | simp, Q3.out⟩
end Go.Proofs.Ytnnjogfpapndaaa

/-
  What route's beginning and stray do with a client's first packet: contracts that the statement's walk uses.
-/
namespace Go.Proofs.Ytnnjogfpapndaaa
open Go.RowKit
set_option linter.unusedVariables false
set_option maxRecDepth 20000

/-- What a call leaves that answers a retry. -/
def Fst (w w' : World) (tb mi mc : Nat) (k : Sv) (ser : Int) (zs : List Int) (x : Sv) : Prop := Keep (fun i => i = tb) w w' ∧ Tb w' tb mi mc k (ser + 1) ∧ Row w' x zs ∧ New w.heap.size x
theorem fst_store {w u u' : World} {tb mi mc : Nat} {k : Sv} {ser : Int} {zs : List Int} {x : Sv} {rb : Nat} {cs : Array Value} (hT : Tb w tb mi mc k ser) (hq : Q w u) (h : Fst u u' tb mi mc k ser zs x) (h1 : w.heap.size ≤ rb) (h2 : rb < u.heap.size) : Fst w (u'.setRow rb cs) tb mi mc k ser zs x := by
  obtain ⟨a, b, c, d⟩ := h
  have kr : Keep (fun i => i = rb) u' (u'.setRow rb cs) := (Keep.refl (fun i => i = rb) u').setRow _ _ (.inl rfl)
  have ht := hT.lt
  refine ⟨((Keep.ofQ hq).trans a).setRow rb _ (.inr h1), ⟨?_, ?_, ?_, b.n, b.d, b.kd⟩, Sub.keep c kr (fun i e e2 => by have := d i e; omega), fun i e => Nat.le_trans hq.size (d i e)⟩
  · exact (kr.block tb b.lt (by omega)).trans b.b
  · have hm := lt_of_block hT.m
    exact (kr.block mi (lt_of_block b.m) (by omega)).trans b.m
  · refine ⟨b.i.s.keep kr (fun i e e2 => ?_), b.i.l, b.i.z⟩
    have hk := hT.i.s (by intro e; cases e)
    obtain ⟨kb, ko, he, hc⟩ := hk
    rw [he] at e
    simp only [blk, Option.map_some, Option.some.injEq] at e
    have := lt_of_cell (hc 0 (by simp [secL]))
    omega
set_option maxHeartbeats 16000000 in
theorem beginning_first (tb mi mc : Nat) (k : Sv) (ser : Int) (d s t v : Sv) (ps is : List Int) (H : Hd) (addr now : Int) (w : World) (hT : Tb w tb mi mc k ser) (s0 : 0 ≤ ser) (s1 : ser < 1000000) (hd : In w d is) (hs : In w s ps) (nd : d.n ≤ 20) (ns : s.n ≤ 20) (dt : ∀ x, blk d.a = some x → x ≠ tb) (st : ∀ x, blk s.a = some x → x ≠ tb) (ha : wiB addr 4294967295 = true) (n0 : 0 ≤ now) (n1 : now ≤ 1099511627776) (ht : t.n = 0) :
    Calls Try.prog 64 #[.pointer (some ⟨tb, 0, none⟩), hv H d s t v, .int .i64 addr, .int .i64 now] w fun e w' => ∃ x : Sv, e = .returned (vv 3 0 nilS nilS x) ∧ Fst w w' tb mi mc k ser (rtL ps is addr now ser) x := by
  have RT := hid (fun u (hq : Q w u) => retry_any tb mi mc k ser d s t v ps is H addr now u (hT.q hq) s0 s1 (hd.q hq) (hs.q hq) nd ns dt st ha n0 n1)
  have HT := hid hT
  obtain ⟨ta, tn, tc⟩ := t
  dsimp only at ht
  subst ht
  clear hT s0 s1 hd hs nd ns dt st ha n0 n1
  go_enter Try.func64, Try.ntmps64
  go_upto_region 1 with fail
  generalize hv1 : World.alloc (World.alloc w _) _ = v1
  have q1 : Q w v1 := by rw [← hv1]; exact ((Q.refl w).alloc _).alloc _
  have b1 : Box v1 80 w.heap.size H d s ⟨ta, 0, tc⟩ v := by
    rw [← hv1]
    have h := heap_alloc_new w (.cells (hcells H d s ⟨ta, 0, tc⟩ v) 80)
    exact (Below.block ((Q.refl (w.alloc (.cells (hcells H d s ⟨ta, 0, tc⟩ v) 80))).alloc _) _ (lt_of_block h)).trans h
  have r1 : v1.heap[w.heap.size + 1]? = some (.cells (vcells 0 0 nilS nilS nilS) 54 (0, 0)) := by
    rw [← hv1]
    have h := heap_alloc_new (w.alloc (.cells (hcells H d s ⟨ta, 0, tc⟩ v) 80)) (.cells (vcells 0 0 nilS nilS nilS) 54)
    rw [show (w.alloc (.cells (hcells H d s ⟨ta, 0, tc⟩ v) 80)).heap.size = w.heap.size + 1 from by simp] at h
    exact h
  have hs1 : v1.heap.size = w.heap.size + 2 := by rw [← hv1]; simp
  clear hv1
  have Q1 := hid q1
  have B1 := hid b1
  have R1 := hid r1
  have HS1 := hid hs1
  have c3 := (HT.out.q q1).c3
  obtain ⟨z0, z1, z2, z3, z4, z5, z6⟩ := b1.all
  clear q1 b1 r1 hs1
  dsimp only at z4
  obtain ⟨hb, hhb⟩ : ∃ hb, w.heap.size = hb := ⟨_, rfl⟩
  rw [hhb] at z0 z1 z2 z3 z4 z5 z6 B1 R1 HS1 ⊢
  have HHB := hid hhb
  clear hhb
  go_wp2_with fail
  refine (RT.out v1 Q1.out).mono ?_
  rintro e v2 ⟨⟨xa, xn, xc⟩, rfl, k2, t2, x2, n2⟩
  have F2 := hid (show Fst v1 v2 tb mi mc k ser (rtL ps is addr now ser) ⟨xa, xn, xc⟩ from ⟨k2, t2, x2, n2⟩)
  clear k2 t2 x2 n2 z0 z1 z2 z3 z4 z5 z6 c3
  go_wp2_with fail
  refine (answer_any ⟨xa, xn, xc⟩ v2).mono ?_
  rintro e v3 ⟨rfl, q3⟩
  have F3 := hid (show Fst v1 v3 tb mi mc k ser (rtL ps is addr now ser) ⟨xa, xn, xc⟩ from ⟨F2.out.1.trans (Keep.ofQ q3), F2.out.2.1.q q3, F2.out.2.2.1.q q3, F2.out.2.2.2⟩)
  have hne : hb + 1 ≠ tb := by have := HT.out.lt; have := HHB.out; omega
  have R3 := hid ((F3.out.1.block (hb + 1) (lt_of_block R1.out) hne).trans R1.out)
  have FIN := hid (fst_store (rb := hb + 1) (cs := vcells 3 0 nilS nilS ⟨xa, xn, xc⟩) HT.out Q1.out F3.out (by have := HHB.out; omega) (by have := HS1.out; omega))
  clear q3 F2 F3 hne
  dsimp only
  go_wp2_with (refine wpList_store_row rfl 54 _ _ rfl (hb + 1) (vcells 3 0 nilS nilS ⟨xa, xn, xc⟩) rfl rfl 54 _ R3.out (vcells_info _ _ _ _ _) rfl (vcells_one _ _ _ _ _) ?_)
  refine ret_vd rfl rfl (hb + 1) 54 3 0 nilS nilS ⟨xa, xn, xc⟩ rfl (setRow_heap _ _ _ _ 54 _ R3.out) ?_
  exact ⟨⟨xa, xn, xc⟩, rfl, FIN.out⟩
set_option maxHeartbeats 16000000 in
theorem beginning_again (tb mi mc : Nat) (k : Sv) (ser : Int) (d s t v : Sv) (is : List Int) (H : Hd) (addr now until_ : Int) (w : World) (hT : Tb w tb mi mc k ser) (hd : In w d is) (ht : Row w t (toL secL addr until_ is)) (h20 : is.length ≤ 20) (ha : wiB addr 4294967295 = true) (hu : wiB until_ 4611686018427387903 = true) (hnow : now ≤ until_) :
    Calls Try.prog 64 #[.pointer (some ⟨tb, 0, none⟩), hv H d s t v, .int .i64 addr, .int .i64 now] w fun e w' => e = .returned (vv 2 0 d s nilS) ∧ Q w w' := by
  have PV := hid (fun u (hq : Q w u) => proves_ok tb mi mc k ser d s t v is H addr now until_ u (hT.q hq) (hd.q hq) (ht.q hq) h20 ha hu hnow)
  have HT := hid hT
  have htn : t.n ≠ 0 := by have h := Row.len ht; rw [toL_len] at h; omega
  obtain ⟨da, dn, dc⟩ := d
  obtain ⟨sa, sn, sc⟩ := s
  obtain ⟨ta, tn, tc⟩ := t
  dsimp only at htn
  have ht0 : ((tn : Int) == 0) = false := by simp; omega
  clear hT hd ht h20 ha hu hnow htn
  go_enter Try.func64, Try.ntmps64
  go_upto_region 1 with fail
  generalize hv1 : World.alloc (World.alloc w _) _ = v1
  have q1 : Q w v1 := by rw [← hv1]; exact ((Q.refl w).alloc _).alloc _
  have b1 : Box v1 80 w.heap.size H ⟨da, dn, dc⟩ ⟨sa, sn, sc⟩ ⟨ta, tn, tc⟩ v := by
    rw [← hv1]
    have h := heap_alloc_new w (.cells (hcells H ⟨da, dn, dc⟩ ⟨sa, sn, sc⟩ ⟨ta, tn, tc⟩ v) 80)
    exact (Below.block ((Q.refl (w.alloc (.cells (hcells H ⟨da, dn, dc⟩ ⟨sa, sn, sc⟩ ⟨ta, tn, tc⟩ v) 80))).alloc _) _ (lt_of_block h)).trans h
  have r1 : v1.heap[w.heap.size + 1]? = some (.cells (vcells 0 0 nilS nilS nilS) 54 (0, 0)) := by
    rw [← hv1]
    have h := heap_alloc_new (w.alloc (.cells (hcells H ⟨da, dn, dc⟩ ⟨sa, sn, sc⟩ ⟨ta, tn, tc⟩ v) 80)) (.cells (vcells 0 0 nilS nilS nilS) 54)
    rw [show (w.alloc (.cells (hcells H ⟨da, dn, dc⟩ ⟨sa, sn, sc⟩ ⟨ta, tn, tc⟩ v) 80)).heap.size = w.heap.size + 1 from by simp] at h
    exact h
  have hs1 : v1.heap.size = w.heap.size + 2 := by rw [← hv1]; simp
  clear hv1
  have Q1 := hid q1
  have B1 := hid b1
  have R1 := hid r1
  have HS1 := hid hs1
  have c3 := (HT.out.q q1).c3
  obtain ⟨z0, z1, z2, z3, z4, z5, z6⟩ := b1.all
  clear q1 b1 r1 hs1
  dsimp only at z2 z3 z4
  obtain ⟨hb, hhb⟩ : ∃ hb, w.heap.size = hb := ⟨_, rfl⟩
  rw [hhb] at z0 z1 z2 z3 z4 z5 z6 B1 R1 HS1 ⊢
  have HHB := hid hhb
  clear hhb
  go_wp2_with fail
  refine (PV.out v1 Q1.out).mono ?_
  rintro e v2 ⟨rfl, q2⟩
  have Q2 := hid (Q1.out.trans q2)
  have e2 := (B1.out.q q2).c2
  have e3 := (B1.out.q q2).c3
  have R2 := hid ((Below.block q2 _ (lt_of_block R1.out)).trans R1.out)
  dsimp only at e2 e3
  clear q2 z0 z1 z2 z3 z4 z5 z6 c3
  go_wp2_with (refine wpList_store_row rfl 54 _ _ rfl (hb + 1) (vcells 2 0 ⟨da, dn, dc⟩ ⟨sa, sn, sc⟩ nilS) rfl rfl 54 _ R2.out (vcells_info _ _ _ _ _) rfl (vcells_one _ _ _ _ _) ?_)
  refine ret_vd rfl rfl (hb + 1) 54 2 0 ⟨da, dn, dc⟩ ⟨sa, sn, sc⟩ nilS rfl (setRow_heap _ _ _ _ 54 _ R2.out) ?_
  exact ⟨rfl, below_setRow Q2.out (by have := HHB.out; omega) _⟩
set_option maxHeartbeats 16000000 in
theorem stray_first (tb mi mc : Nat) (k : Sv) (ser : Int) (d s t v : Sv) (ps is : List Int) (H : Hd) (addr now : Int) (w : World) (hT : Tb w tb mi mc k ser) (s0 : 0 ≤ ser) (s1 : ser < 1000000) (hd : In w d is) (hs : In w s ps) (nd : d.n ≤ 20) (ns : s.n ≤ 20) (dt : ∀ x, blk d.a = some x → x ≠ tb) (st : ∀ x, blk s.a = some x → x ≠ tb) (ha : wiB addr 4294967295 = true) (n0 : 0 ≤ now) (n1 : now ≤ 1099511627776) (ht : t.n = 0) (hk : H.kind = 1) (g : Sv) (hg : 1200 ≤ g.n) (h8 : 8 ≤ d.n) :
    Calls Try.prog 46 #[.pointer (some ⟨tb, 0, none⟩), hv H d s t v, .int .i64 addr, .slice g.a g.n g.c, .int .i64 now] w fun e w' => ∃ x : Sv, e = .returned (vv 3 0 nilS nilS x) ∧ Fst w w' tb mi mc k ser (rtL ps is addr now ser) x := by
  have BG := hid (fun u (hq : Q w u) => beginning_first tb mi mc k ser d s t v ps is H addr now u (hT.q hq) s0 s1 (hd.q hq) (hs.q hq) nd ns dt st ha n0 n1 ht)
  have HT := hid hT
  obtain ⟨da, dn, dc⟩ := d
  obtain ⟨sa, sn, sc⟩ := s
  obtain ⟨ta, tn, tc⟩ := t
  obtain ⟨ga, gn, gc⟩ := g
  obtain ⟨kind, ver, dst, src, tok, vers, len⟩ := H
  dsimp only at hk hg h8
  subst hk
  have g1 : decide ((1200 : Int) ≤ (gn : Int)) = true := by simp; omega
  have g2 : decide ((8 : Int) ≤ (dn : Int)) = true := by simp; omega
  have g3 : decide ((43 : Int) ≤ (gn : Int)) = true := by simp; omega
  clear hT s0 s1 hd hs nd ns dt st ha n0 n1 ht hg h8
  go_enter Try.func46, Try.ntmps46
  go_upto_region 1 with fail
  generalize hv1 : World.alloc (World.alloc w _) _ = v1
  have q1 : Q w v1 := by rw [← hv1]; exact ((Q.refl w).alloc _).alloc _
  have b1 : Box v1 80 w.heap.size ⟨1, ver, dst, src, tok, vers, len⟩ ⟨da, dn, dc⟩ ⟨sa, sn, sc⟩ ⟨ta, tn, tc⟩ v := by
    rw [← hv1]
    have h := heap_alloc_new w (.cells (hcells ⟨1, ver, dst, src, tok, vers, len⟩ ⟨da, dn, dc⟩ ⟨sa, sn, sc⟩ ⟨ta, tn, tc⟩ v) 80)
    exact (Below.block ((Q.refl (w.alloc (.cells (hcells ⟨1, ver, dst, src, tok, vers, len⟩ ⟨da, dn, dc⟩ ⟨sa, sn, sc⟩ ⟨ta, tn, tc⟩ v) 80))).alloc _) _ (lt_of_block h)).trans h
  have r1 : v1.heap[w.heap.size + 1]? = some (.cells (vcells 0 0 nilS nilS nilS) 54 (0, 0)) := by
    rw [← hv1]
    have h := heap_alloc_new (w.alloc (.cells (hcells ⟨1, ver, dst, src, tok, vers, len⟩ ⟨da, dn, dc⟩ ⟨sa, sn, sc⟩ ⟨ta, tn, tc⟩ v) 80)) (.cells (vcells 0 0 nilS nilS nilS) 54)
    rw [show (w.alloc (.cells (hcells ⟨1, ver, dst, src, tok, vers, len⟩ ⟨da, dn, dc⟩ ⟨sa, sn, sc⟩ ⟨ta, tn, tc⟩ v) 80)).heap.size = w.heap.size + 1 from by simp] at h
    exact h
  have hs1 : v1.heap.size = w.heap.size + 2 := by rw [← hv1]; simp
  clear hv1
  have Q1 := hid q1
  have B1 := hid b1
  have R1 := hid r1
  have HS1 := hid hs1
  obtain ⟨z0, z1, z2, z3, z4, z5, z6⟩ := b1.all
  clear q1 b1 r1 hs1
  dsimp only at z0 z1 z2 z3 z4 z6
  obtain ⟨hb, hhb⟩ : ∃ hb, w.heap.size = hb := ⟨_, rfl⟩
  rw [hhb] at z0 z1 z2 z3 z4 z5 z6 B1 R1 HS1 ⊢
  have HHB := hid hhb
  clear hhb
  go_wp2_with fail
  refine (BG.out v1 Q1.out).mono ?_
  rintro e v3 ⟨⟨xa, xn, xc⟩, rfl, f3⟩
  have F3 := hid f3
  have hne : hb + 1 ≠ tb := by have := HT.out.lt; have := HHB.out; omega
  have R3 := hid ((F3.out.1.block (hb + 1) (lt_of_block R1.out) hne).trans R1.out)
  have FIN := hid (fst_store (rb := hb + 1) (cs := vcells 3 0 nilS nilS ⟨xa, xn, xc⟩) HT.out Q1.out F3.out (by have := HHB.out; omega) (by have := HS1.out; omega))
  clear f3 F3 hne z0 z1 z2 z3 z4 z5 z6
  dsimp only
  go_wp2_with (refine wpList_store_row rfl 54 _ _ rfl (hb + 1) (vcells 3 0 nilS nilS ⟨xa, xn, xc⟩) rfl rfl 54 _ R3.out (vcells_info _ _ _ _ _) rfl (vcells_one _ _ _ _ _) ?_)
  refine ret_vd rfl rfl (hb + 1) 54 3 0 nilS nilS ⟨xa, xn, xc⟩ rfl (setRow_heap _ _ _ _ 54 _ R3.out) ?_
  exact ⟨⟨xa, xn, xc⟩, rfl, FIN.out⟩
set_option maxHeartbeats 16000000 in
theorem stray_again (tb mi mc : Nat) (k : Sv) (ser : Int) (d s t v : Sv) (is : List Int) (H : Hd) (addr now until_ : Int) (w : World) (hT : Tb w tb mi mc k ser) (hd : In w d is) (ht : Row w t (toL secL addr until_ is)) (h20 : is.length ≤ 20) (ha : wiB addr 4294967295 = true) (hu : wiB until_ 4611686018427387903 = true) (hnow : now ≤ until_) (hk : H.kind = 1) (g : Sv) (hg : 1200 ≤ g.n) (h8 : 8 ≤ d.n) :
    Calls Try.prog 46 #[.pointer (some ⟨tb, 0, none⟩), hv H d s t v, .int .i64 addr, .slice g.a g.n g.c, .int .i64 now] w fun e w' => e = .returned (vv 2 0 d s nilS) ∧ Q w w' := by
  have BG := hid (fun u (hq : Q w u) => beginning_again tb mi mc k ser d s t v is H addr now until_ u (hT.q hq) (hd.q hq) (ht.q hq) h20 ha hu hnow)
  have HT := hid hT
  obtain ⟨da, dn, dc⟩ := d
  obtain ⟨sa, sn, sc⟩ := s
  obtain ⟨ta, tn, tc⟩ := t
  obtain ⟨ga, gn, gc⟩ := g
  obtain ⟨kind, ver, dst, src, tok, vers, len⟩ := H
  dsimp only at hk hg h8
  subst hk
  have g1 : decide ((1200 : Int) ≤ (gn : Int)) = true := by simp; omega
  have g2 : decide ((8 : Int) ≤ (dn : Int)) = true := by simp; omega
  have g3 : decide ((43 : Int) ≤ (gn : Int)) = true := by simp; omega
  clear hT hd ht h20 ha hu hnow hg h8
  go_enter Try.func46, Try.ntmps46
  go_upto_region 1 with fail
  generalize hv1 : World.alloc (World.alloc w _) _ = v1
  have q1 : Q w v1 := by rw [← hv1]; exact ((Q.refl w).alloc _).alloc _
  have b1 : Box v1 80 w.heap.size ⟨1, ver, dst, src, tok, vers, len⟩ ⟨da, dn, dc⟩ ⟨sa, sn, sc⟩ ⟨ta, tn, tc⟩ v := by
    rw [← hv1]
    have h := heap_alloc_new w (.cells (hcells ⟨1, ver, dst, src, tok, vers, len⟩ ⟨da, dn, dc⟩ ⟨sa, sn, sc⟩ ⟨ta, tn, tc⟩ v) 80)
    exact (Below.block ((Q.refl (w.alloc (.cells (hcells ⟨1, ver, dst, src, tok, vers, len⟩ ⟨da, dn, dc⟩ ⟨sa, sn, sc⟩ ⟨ta, tn, tc⟩ v) 80))).alloc _) _ (lt_of_block h)).trans h
  have r1 : v1.heap[w.heap.size + 1]? = some (.cells (vcells 0 0 nilS nilS nilS) 54 (0, 0)) := by
    rw [← hv1]
    have h := heap_alloc_new (w.alloc (.cells (hcells ⟨1, ver, dst, src, tok, vers, len⟩ ⟨da, dn, dc⟩ ⟨sa, sn, sc⟩ ⟨ta, tn, tc⟩ v) 80)) (.cells (vcells 0 0 nilS nilS nilS) 54)
    rw [show (w.alloc (.cells (hcells ⟨1, ver, dst, src, tok, vers, len⟩ ⟨da, dn, dc⟩ ⟨sa, sn, sc⟩ ⟨ta, tn, tc⟩ v) 80)).heap.size = w.heap.size + 1 from by simp] at h
    exact h
  have hs1 : v1.heap.size = w.heap.size + 2 := by rw [← hv1]; simp
  clear hv1
  have Q1 := hid q1
  have B1 := hid b1
  have R1 := hid r1
  have HS1 := hid hs1
  obtain ⟨z0, z1, z2, z3, z4, z5, z6⟩ := b1.all
  clear q1 b1 r1 hs1
  dsimp only at z0 z1 z2 z3 z4 z6
  obtain ⟨hb, hhb⟩ : ∃ hb, w.heap.size = hb := ⟨_, rfl⟩
  rw [hhb] at z0 z1 z2 z3 z4 z5 z6 B1 R1 HS1 ⊢
  have HHB := hid hhb
  clear hhb
  go_wp2_with fail
  refine (BG.out v1 Q1.out).mono ?_
  rintro e v3 ⟨rfl, q3⟩
  have Q3 := hid (Q1.out.trans q3)
  have R3 := hid ((Below.block q3 _ (lt_of_block R1.out)).trans R1.out)
  clear q3 z0 z1 z2 z3 z4 z5 z6
  dsimp only
  go_wp2_with (refine wpList_store_row rfl 54 _ _ rfl (hb + 1) (vcells 2 0 ⟨da, dn, dc⟩ ⟨sa, sn, sc⟩ nilS) rfl rfl 54 _ R3.out (vcells_info _ _ _ _ _) rfl (vcells_one _ _ _ _ _) ?_)
  refine ret_vd rfl rfl (hb + 1) 54 2 0 ⟨da, dn, dc⟩ ⟨sa, sn, sc⟩ nilS rfl (setRow_heap _ _ _ _ 54 _ R3.out) ?_
  exact ⟨rfl, below_setRow Q3.out (by have := HHB.out; omega) _⟩
end Go.Proofs.Ytnnjogfpapndaaa

/-
  What route's Look does with a client's first packet: contracts that the statement's walk uses.
-/
namespace Go.Proofs.Ytnnjogfpapndaaa
open Go.RowKit
set_option linter.unusedVariables false
set_option maxRecDepth 20000

theorem results23 (tmps : Array Value) (w : World) (rb : Nat) (k c : Int) (f p r : Sv) (h8 : tmps.getD 8 undef = .pointer (some ⟨rb, 0, none⟩)) (h9 : tmps.getD 9 undef = .int .i64 0)
    (b : w.heap[rb]? = some (.cells (vcells k c f p r) 54 (0, 0))) : (results Try.f23 tmps).run Try.prog w = .ok (.tuple #[vv k c f p r, .int .i64 0]) w := by
  have h8' : tmps[8]?.getD undef = .pointer (some ⟨rb, 0, none⟩) := by simpa using h8
  have h9' : tmps[9]?.getD undef = .int .i64 0 := by simpa using h9
  have c0 : w.cell? ⟨rb, 0, none⟩ = some (.int .i64 k) := by rw [cell_of_row w rb 0 _ 54 (0, 0) b]; rfl
  have c1 : w.cell? ⟨rb, 1, none⟩ = some (.int .i64 c) := by rw [cell_of_row w rb 1 _ 54 (0, 0) b]; rfl
  have c2 : w.cell? ⟨rb, 2, none⟩ = some (.slice f.a f.n f.c) := by rw [cell_of_row w rb 2 _ 54 (0, 0) b]; rfl
  have c3 : w.cell? ⟨rb, 3, none⟩ = some (.slice p.a p.n p.c) := by rw [cell_of_row w rb 3 _ 54 (0, 0) b]; rfl
  have c4 : w.cell? ⟨rb, 4, none⟩ = some (.slice r.a r.n r.c) := by rw [cell_of_row w rb 4 _ 54 (0, 0) b]; rfl
  simp [results, h8', h9', asAddr, go_sem, c0, c1, c2, c3, c4]
set_option maxHeartbeats 16000000 in
theorem look_first (tb mi mc : Nat) (k g : Sv) (ser : Int) (ps is : List Int) (addr now : Int) (w : World) (hT : Tb w tb mi mc k ser) (hg : In w g (akL ps is [])) (lp : ps.length ≤ 20) (l8 : 8 ≤ is.length) (li : is.length ≤ 20) (bp : By ps) (bi : By is) (ha : wiB addr 4294967295 = true) (n0 : 0 ≤ now) (n1 : now ≤ 1099511627776) (s0 : 0 ≤ ser) (s1 : ser < 1000000) :
    Calls Try.prog 23 #[.pointer (some ⟨tb, 0, none⟩), .int .i64 addr, .slice g.a g.n g.c, .int .i64 now] w fun e w' => ∃ x : Sv, e = .returned (.tuple #[vv 3 0 nilS nilS x, .int .i64 0]) ∧ Fst w w' tb mi mc k ser (rtL ps is addr now ser) x := by
  obtain ⟨ga, gn, gc⟩ := g
  have HT := hid hT
  have HG := hid hg
  have LG := hid (show (akL ps is []).length = gn from hg.l)
  obtain ⟨pa, pb, hpar⟩ := par_ak ps is [] lp li (by simp)
  have HP := hid hpar
  have g12 : 1200 ≤ gn := by rw [← LG.out, akL_len]; omega
  have gbd : gn ≤ 140737488355328 := by
    have h1 := akH_len ps is [] (by simp)
    rw [← LG.out, akL_len]
    omega
  have HL := hid (And.intro lp (And.intro l8 li))
  have hmx : max now 0 = now := by omega
  have hmn : min now 1099511627776 = now := by omega
  clear hT hg hpar
  dsimp only at *
  go_enter Try.func23, Try.ntmps23
  go_upto_region 1 with fail
  generalize hv1 : World.alloc w _ = v1
  have q1 : Q w v1 := by rw [← hv1]; exact (Q.refl w).alloc _
  have r1 : v1.heap[w.heap.size]? = some (.cells (vcells 0 0 nilS nilS nilS) 54 (0, 0)) := by rw [← hv1]; exact heap_alloc_new w _
  have hs1 : v1.heap.size = w.heap.size + 1 := by rw [← hv1]; simp
  clear hv1
  have Q1 := hid q1
  have R1 := hid r1
  have HS1 := hid hs1
  clear q1 r1 hs1
  obtain ⟨rb, hrb⟩ : ∃ rb, w.heap.size = rb := ⟨_, rfl⟩
  rw [hrb] at R1 HS1 ⊢
  have HRB := hid hrb
  clear hrb
  go_wp2_with (go_at_call 25; refine (within_any _ _ _).mono ?_; rintro e w' ⟨rfl, rfl⟩)
  refine (parse_any ga gn gc (akL ps is []) 8 _ LG.out HG.out.z gbd (HG.out.s.q Q1.out)).mono ?_
  rw [HP.out]
  rintro e v2 ⟨d, s, t, v, rfl, q2, hh⟩
  dsimp only at hh ⊢
  obtain ⟨da, dn, dc⟩ := d
  obtain ⟨sa, sn, sc⟩ := s
  obtain ⟨ta, tn, tc⟩ := t
  have LD := hid (show is.length = dn from Row.len hh.dr)
  have LS := hid (show ps.length = sn from Row.len hh.sr)
  have LT := hid (show ([] : List Int).length = tn from Row.len hh.tr)
  have HH := hid hh
  have Q2 := hid (Q1.out.trans q2)
  have R2 := hid ((Below.block q2 _ (lt_of_block R1.out)).trans R1.out)
  have HS2 := hid (show rb + 1 ≤ v2.heap.size from by have := q2.size; have := HS1.out; omega)
  clear q2 hh
  go_wp2_with (refine wpList_store_row rfl 80 _ _ rfl v2.heap.size (hcells (akD ps is []) ⟨da, dn, dc⟩ ⟨sa, sn, sc⟩ ⟨ta, tn, tc⟩ v) rfl rfl 80 _ (heap_alloc_new v2 _) (hcells_info _ _ _ _ _) rfl (hcells_one _ _ _ _ _) ?_; refine Hid.out ?_)
  refine hid ?_
  generalize hv3 : World.setRow _ _ _ = v3
  have k3 : Keep (fun i => i = v2.heap.size) v2 v3 := by rw [← hv3]; exact ((Keep.refl (fun i => i = v2.heap.size) v2).alloc _).setRow _ _ (.inl rfl)
  have q3 : Q v2 v3 := k3.below (Q.refl _) (Nat.le_refl _) (fun i e => by omega)
  have b3 : Box v3 80 v2.heap.size (akD ps is []) ⟨da, dn, dc⟩ ⟨sa, sn, sc⟩ ⟨ta, tn, tc⟩ v := by rw [← hv3]; exact setRow_heap _ _ _ _ 80 _ (heap_alloc_new v2 _)
  have hs3 : v2.heap.size + 1 ≤ v3.heap.size := by rw [← hv3]; simp
  clear hv3 k3
  have Q3 := hid (Q2.out.trans q3)
  have R3 := hid ((Below.block q3 _ (lt_of_block R2.out)).trans R2.out)
  have H3 := hid (HH.out.q q3)
  have B3 := hid b3
  have T3 := hid (HT.out.q Q3.out)
  have HS3 := hid hs3
  clear q3 b3 hs3 HH R2 Q2
  generalize v2.heap.size = hb at *
  have c5 := T3.out.c5
  have z2 := B3.out.c2
  dsimp only at z2
  have D3 := hid (row_in H3.out.dr bi)
  obtain ⟨dg_, do_, hda⟩ := row_addr H3.out.dr (by show 0 < dn; have := LD.out; omega)
  dsimp only at hda
  subst hda
  obtain ⟨str, hstr⟩ : ∃ str, strOfNums is = str := ⟨_, rfl⟩
  have cv : ∀ j, (convert 22 9 (.slice (some ⟨dg_, do_, none⟩) dn dc)).run Try.prog (v3.drewN j) = .ok (.string str) (v3.drewN j) := fun j => by rw [← hstr]; exact str_of (D3.out.q ((Q.refl v3).drewN j))
  have lk : ∀ j, (Instr.lookup 74 (.map (some mi)) (.string str) true).run Try.prog (v3.drewN j) = .ok (.tuple #[.int .i64 0, .bool false]) (v3.drewN j) := fun j => look_empty _ mi 0 str T3.out.m
  clear hstr
  go_wp2
  go_quiet (fail)
  generalize hv4 : World.drewN v3 _ = v4
  have q4 : Q v3 v4 := by rw [← hv4]; exact (Q.refl v3).drewN _
  have hs4 : v4.heap.size = v3.heap.size := by rw [← hv4]; rfl
  clear hv4 cv lk c5 z2
  have Q4 := hid (Q3.out.trans q4)
  have R4 := hid ((Below.block q4 _ (lt_of_block R3.out)).trans R3.out)
  have H4 := hid (H3.out.q q4)
  have T4 := hid (T3.out.q q4)
  have HS4 := hid (show rb + 1 ≤ v4.heap.size from by rw [hs4]; have := HS2.out; have := HS3.out; omega)
  obtain ⟨z0, z1, z2, z3, z4, z5, z6⟩ := (B3.out.q q4).all
  dsimp only [akD] at z0 z1 z2 z3 z4 z5 z6
  have DT := hid (show ∀ x, blk (some (⟨dg_, do_, none⟩ : Addr)) = some x → x ≠ tb from fun x e e2 => by have := H3.out.nd x e; have := HT.out.lt; have := HRB.out; have := HS1.out; omega)
  have ST := hid (show ∀ x, blk sa = some x → x ≠ tb from fun x e e2 => by have := H3.out.ns x e; have := HT.out.lt; have := HRB.out; have := HS1.out; omega)
  have STR := hid (stray_first tb mi mc k ser ⟨some ⟨dg_, do_, none⟩, dn, dc⟩ ⟨sa, sn, sc⟩ ⟨ta, tn, tc⟩ v ps is (akD ps is []) addr now v4 T4.out s0 s1 (row_in H4.out.dr bi) (row_in H4.out.sr bp) (by have := LD.out; show dn ≤ 20; omega) (by have := LS.out; show sn ≤ 20; omega) DT.out ST.out ha n0 n1 (by have := LT.out; simpa using this.symm) rfl ⟨ga, gn, gc⟩ g12 (by have := LD.out; show 8 ≤ dn; omega))
  dsimp only [akD] at STR
  clear q4 hs4 H3 B3 R3 Q3 D3 T3 lp l8 li n0 n1 g12 gbd s0 s1
  go_wp2_with fail
  refine STR.out.mono ?_
  rintro e v5 ⟨⟨xa, xn, xc⟩, rfl, f5⟩
  have F5 := hid f5
  have hne : rb ≠ tb := by have := HT.out.lt; have := HRB.out; omega
  have R5 := hid ((F5.out.1.block rb (lt_of_block R4.out) hne).trans R4.out)
  have FIN := hid (fst_store (rb := rb) (cs := vcells 3 0 nilS nilS ⟨xa, xn, xc⟩) HT.out Q4.out F5.out (by have := HRB.out; omega) (by have := HS4.out; omega))
  clear f5 F5 hne z0 z1 z2 z3 z4 z5 z6 STR
  dsimp only
  go_wp2_with (refine wpList_store_row rfl 54 _ _ rfl rb (vcells 3 0 nilS nilS ⟨xa, xn, xc⟩) rfl rfl 54 _ R5.out (vcells_info _ _ _ _ _) rfl (vcells_one _ _ _ _ _) ?_)
  exact ⟨rfl, _, results23 _ _ rb 3 0 nilS nilS ⟨xa, xn, xc⟩ rfl rfl (setRow_heap _ _ _ _ 54 _ R5.out), ⟨xa, xn, xc⟩, rfl, FIN.out⟩
set_option maxHeartbeats 16000000 in
theorem look_again (tb mi mc : Nat) (k g : Sv) (ser : Int) (ps is : List Int) (addr now : Int) (until_ : Int) (w : World) (hT : Tb w tb mi mc k ser) (hg : In w g (akL ps is (toL secL addr until_ is))) (lp : ps.length ≤ 20) (l8 : 8 ≤ is.length) (li : is.length ≤ 20) (bp : By ps) (bi : By is) (ha : wiB addr 4294967295 = true) (n0 : 0 ≤ now) (n1 : now ≤ 1099511627776) (hu : wiB until_ 4611686018427387903 = true) (hnow : now ≤ until_) :
    Calls Try.prog 23 #[.pointer (some ⟨tb, 0, none⟩), .int .i64 addr, .slice g.a g.n g.c, .int .i64 now] w fun e w' => ∃ d s : Sv, e = .returned (.tuple #[vv 2 0 d s nilS, .int .i64 0]) ∧ Q w w' ∧ In w' d is ∧ In w' s ps := by
  obtain ⟨ga, gn, gc⟩ := g
  have HT := hid hT
  have HG := hid hg
  have LG := hid (show (akL ps is (toL secL addr until_ is)).length = gn from hg.l)
  obtain ⟨pa, pb, hpar⟩ := par_ak ps is (toL secL addr until_ is) lp li (by rw [toL_len]; omega)
  have HP := hid hpar
  have g12 : 1200 ≤ gn := by rw [← LG.out, akL_len]; omega
  have gbd : gn ≤ 140737488355328 := by
    have h1 := akH_len ps is (toL secL addr until_ is) (by rw [toL_len]; omega)
    rw [← LG.out, akL_len]
    omega
  have HL := hid (And.intro lp (And.intro l8 li))
  have hmx : max now 0 = now := by omega
  have hmn : min now 1099511627776 = now := by omega
  clear hT hg hpar
  dsimp only at *
  go_enter Try.func23, Try.ntmps23
  go_upto_region 1 with fail
  generalize hv1 : World.alloc w _ = v1
  have q1 : Q w v1 := by rw [← hv1]; exact (Q.refl w).alloc _
  have r1 : v1.heap[w.heap.size]? = some (.cells (vcells 0 0 nilS nilS nilS) 54 (0, 0)) := by rw [← hv1]; exact heap_alloc_new w _
  have hs1 : v1.heap.size = w.heap.size + 1 := by rw [← hv1]; simp
  clear hv1
  have Q1 := hid q1
  have R1 := hid r1
  have HS1 := hid hs1
  clear q1 r1 hs1
  obtain ⟨rb, hrb⟩ : ∃ rb, w.heap.size = rb := ⟨_, rfl⟩
  rw [hrb] at R1 HS1 ⊢
  have HRB := hid hrb
  clear hrb
  go_wp2_with (go_at_call 25; refine (within_any _ _ _).mono ?_; rintro e w' ⟨rfl, rfl⟩)
  refine (parse_any ga gn gc (akL ps is (toL secL addr until_ is)) 8 _ LG.out HG.out.z gbd (HG.out.s.q Q1.out)).mono ?_
  rw [HP.out]
  rintro e v2 ⟨d, s, t, v, rfl, q2, hh⟩
  dsimp only at hh ⊢
  obtain ⟨da, dn, dc⟩ := d
  obtain ⟨sa, sn, sc⟩ := s
  obtain ⟨ta, tn, tc⟩ := t
  have LD := hid (show is.length = dn from Row.len hh.dr)
  have LS := hid (show ps.length = sn from Row.len hh.sr)
  have LT := hid (show ((toL secL addr until_ is) : List Int).length = tn from Row.len hh.tr)
  have HH := hid hh
  have Q2 := hid (Q1.out.trans q2)
  have R2 := hid ((Below.block q2 _ (lt_of_block R1.out)).trans R1.out)
  have HS2 := hid (show rb + 1 ≤ v2.heap.size from by have := q2.size; have := HS1.out; omega)
  clear q2 hh
  go_wp2_with (refine wpList_store_row rfl 80 _ _ rfl v2.heap.size (hcells (akD ps is (toL secL addr until_ is)) ⟨da, dn, dc⟩ ⟨sa, sn, sc⟩ ⟨ta, tn, tc⟩ v) rfl rfl 80 _ (heap_alloc_new v2 _) (hcells_info _ _ _ _ _) rfl (hcells_one _ _ _ _ _) ?_; refine Hid.out ?_)
  refine hid ?_
  generalize hv3 : World.setRow _ _ _ = v3
  have k3 : Keep (fun i => i = v2.heap.size) v2 v3 := by rw [← hv3]; exact ((Keep.refl (fun i => i = v2.heap.size) v2).alloc _).setRow _ _ (.inl rfl)
  have q3 : Q v2 v3 := k3.below (Q.refl _) (Nat.le_refl _) (fun i e => by omega)
  have b3 : Box v3 80 v2.heap.size (akD ps is (toL secL addr until_ is)) ⟨da, dn, dc⟩ ⟨sa, sn, sc⟩ ⟨ta, tn, tc⟩ v := by rw [← hv3]; exact setRow_heap _ _ _ _ 80 _ (heap_alloc_new v2 _)
  have hs3 : v2.heap.size + 1 ≤ v3.heap.size := by rw [← hv3]; simp
  clear hv3 k3
  have Q3 := hid (Q2.out.trans q3)
  have R3 := hid ((Below.block q3 _ (lt_of_block R2.out)).trans R2.out)
  have H3 := hid (HH.out.q q3)
  have B3 := hid b3
  have T3 := hid (HT.out.q Q3.out)
  have HS3 := hid hs3
  clear q3 b3 hs3 HH R2 Q2
  generalize v2.heap.size = hb at *
  have c5 := T3.out.c5
  have z2 := B3.out.c2
  dsimp only at z2
  have D3 := hid (row_in H3.out.dr bi)
  obtain ⟨dg_, do_, hda⟩ := row_addr H3.out.dr (by show 0 < dn; have := LD.out; omega)
  dsimp only at hda
  subst hda
  obtain ⟨str, hstr⟩ : ∃ str, strOfNums is = str := ⟨_, rfl⟩
  have cv : ∀ j, (convert 22 9 (.slice (some ⟨dg_, do_, none⟩) dn dc)).run Try.prog (v3.drewN j) = .ok (.string str) (v3.drewN j) := fun j => by rw [← hstr]; exact str_of (D3.out.q ((Q.refl v3).drewN j))
  have lk : ∀ j, (Instr.lookup 74 (.map (some mi)) (.string str) true).run Try.prog (v3.drewN j) = .ok (.tuple #[.int .i64 0, .bool false]) (v3.drewN j) := fun j => look_empty _ mi 0 str T3.out.m
  clear hstr
  go_wp2
  go_quiet (fail)
  generalize hv4 : World.drewN v3 _ = v4
  have q4 : Q v3 v4 := by rw [← hv4]; exact (Q.refl v3).drewN _
  have hs4 : v4.heap.size = v3.heap.size := by rw [← hv4]; rfl
  clear hv4 cv lk c5 z2
  have Q4 := hid (Q3.out.trans q4)
  have R4 := hid ((Below.block q4 _ (lt_of_block R3.out)).trans R3.out)
  have H4 := hid (H3.out.q q4)
  have T4 := hid (T3.out.q q4)
  have HS4 := hid (show rb + 1 ≤ v4.heap.size from by rw [hs4]; have := HS2.out; have := HS3.out; omega)
  obtain ⟨z0, z1, z2, z3, z4, z5, z6⟩ := (B3.out.q q4).all
  dsimp only [akD] at z0 z1 z2 z3 z4 z5 z6
  have DT := hid (show ∀ x, blk (some (⟨dg_, do_, none⟩ : Addr)) = some x → x ≠ tb from fun x e e2 => by have := H3.out.nd x e; have := HT.out.lt; have := HRB.out; have := HS1.out; omega)
  have ST := hid (show ∀ x, blk sa = some x → x ≠ tb from fun x e e2 => by have := H3.out.ns x e; have := HT.out.lt; have := HRB.out; have := HS1.out; omega)
  have STR := hid (stray_again tb mi mc k ser ⟨some ⟨dg_, do_, none⟩, dn, dc⟩ ⟨sa, sn, sc⟩ ⟨ta, tn, tc⟩ v is (akD ps is (toL secL addr until_ is)) addr now until_ v4 T4.out (row_in H4.out.dr bi) H4.out.tr li ha hu hnow rfl ⟨ga, gn, gc⟩ g12 (by have := LD.out; show 8 ≤ dn; omega))
  dsimp only [akD] at STR
  clear q4 hs4 H3 B3 R3 Q3 D3 T3 lp l8 li n0 n1 g12 gbd hu hnow
  go_wp2_with fail
  refine STR.out.mono ?_
  rintro e v5 ⟨rfl, q5⟩
  have Q5 := hid (Q4.out.trans q5)
  have R5 := hid ((Below.block q5 _ (lt_of_block R4.out)).trans R4.out)
  have H5 := hid (H4.out.q q5)
  have kr : Keep (fun i => i = rb) v5 (v5.setRow rb (vcells 2 0 ⟨some ⟨dg_, do_, none⟩, dn, dc⟩ ⟨sa, sn, sc⟩ nilS)) := (Keep.refl (fun i => i = rb) v5).setRow _ _ (.inl rfl)
  have FIN := hid (show Q w (v5.setRow rb (vcells 2 0 ⟨some ⟨dg_, do_, none⟩, dn, dc⟩ ⟨sa, sn, sc⟩ nilS)) ∧ In (v5.setRow rb (vcells 2 0 ⟨some ⟨dg_, do_, none⟩, dn, dc⟩ ⟨sa, sn, sc⟩ nilS)) ⟨some ⟨dg_, do_, none⟩, dn, dc⟩ is ∧ In (v5.setRow rb (vcells 2 0 ⟨some ⟨dg_, do_, none⟩, dn, dc⟩ ⟨sa, sn, sc⟩ nilS)) ⟨sa, sn, sc⟩ ps from
    ⟨below_setRow Q5.out (by have := HRB.out; omega) _, row_in (Sub.keep H5.out.dr kr (fun i e e2 => by have := H5.out.nd i e; have := HS1.out; omega)) bi, row_in (Sub.keep H5.out.sr kr (fun i e e2 => by have := H5.out.ns i e; have := HS1.out; omega)) bp⟩)
  clear q5 kr z0 z1 z2 z3 z4 z5 z6 STR H4 H5
  dsimp only
  go_wp2_with (refine wpList_store_row rfl 54 _ _ rfl rb (vcells 2 0 ⟨some ⟨dg_, do_, none⟩, dn, dc⟩ ⟨sa, sn, sc⟩ nilS) rfl rfl 54 _ R5.out (vcells_info _ _ _ _ _) rfl (vcells_one _ _ _ _ _) ?_)
  exact ⟨rfl, _, results23 _ _ rb 2 0 ⟨some ⟨dg_, do_, none⟩, dn, dc⟩ ⟨sa, sn, sc⟩ nilS rfl rfl (setRow_heap _ _ _ _ 54 _ R5.out), ⟨some ⟨dg_, do_, none⟩, dn, dc⟩, ⟨sa, sn, sc⟩, rfl, FIN.out⟩
end Go.Proofs.Ytnnjogfpapndaaa
namespace Go.Proofs.Ytnnjogfpapndaaa.routeAsked
open Go.ChangeShapes Go.WideShapes Go.ChangeAt Go.RowKit
set_option linter.unusedVariables false
set_option maxRecDepth 20000

theorem same_rows {w : World} {x y : Sv} {zs : List Int} (hx : In w x zs) (hy : In w y zs) (hb : x.n ≤ 140737488355328) :
    Calls Try.prog 16 #[.slice x.a x.n x.c, .slice y.a y.n y.c] w fun e w' => e = .returned (.bool true) ∧ Q w w' := by
  refine (same_any x.a y.a x.n y.n x.c y.c zs zs w hx.l hy.l (by omega) (by have := hx.l; have := hy.l; omega) hx.s hy.s).mono ?_
  rintro e w' ⟨rfl, h⟩
  exact ⟨by simp, h⟩
theorem in_mid {w : World} {g o n c k m : Nat} {zs : List Int} (h : In w ⟨some ⟨g, o, none⟩, n, c⟩ zs) (hk : k + m ≤ n) (c' : Nat) : In w ⟨some ⟨g, o + k, none⟩, m, c'⟩ ((zs.drop k).take m) := by
  have hl : zs.length = n := h.l
  exact ⟨seg_take (seg_drop h.s k) m, by rw [List.length_take, List.length_drop]; show _ = m; omega, By.take (By.drop h.z k) m⟩
theorem sl_mid (g o n c k m : Nat) (hk : k ≤ m) (hm : m ≤ c) (hc : k < c) (u : World) : (Instr.slice 22 (.slice (some ⟨g, o, none⟩) n c) (some (.int .i64 k)) (some (.int .i64 m)) none).run Try.prog u = .ok (.slice (some ⟨g, o + k, none⟩) (m - k) (c - k)) u := by
  have h := run_slice_lh (P := Try.prog) u 22 (some ⟨g, o, none⟩) n c Try.underlying22 .i64 .i64 k m (by omega) (by omega) (by omega)
  have hs : (sizeOf (Try.prog.elem 22)).run Try.prog u = .ok 1 u := by kernel_rfl
  rw [h, hs]
  simp only [Result.andThen_ok, sliced, Int.toNat_natCast]
  rw [if_neg (by omega), Nat.mul_one, Option.map_some, addr_add]
/-- The reply's parts. -/
theorem rt_shape (ps is : List Int) (addr now : Int) : rtL ps is addr now 0 = [240, 0, 0, 0, 1, (ps.length : Int)] ++ (ps ++ ([(8 : Int)] ++ (rtI 0 ++ (rtT addr now 0 ++ dg (rtyL ++ (sdL is ++ rtA ps addr now 0)))))) := by
  have h := (rtI_ok (ser := 0) (by omega) (by omega)).1
  unfold rtL
  rw [show rtA ps addr now 0 = lhL 240 ps (rtI 0) ++ rtT addr now 0 from rfl]
  unfold lhL sdL
  rw [h]
  simp
theorem rt_by {ps is : List Int} {addr now : Int} (hp : By ps) (lp : ps.length ≤ 20) : By (rtL ps is addr now 0) := by
  rw [rt_shape]
  have h := rtI_ok (ser := 0) (by omega) (by omega)
  exact By.app (by intro y hy; simp at hy; omega) (By.app hp (By.app (by intro y hy; simp at hy; omega) (By.app h.2 (By.app (toL_by h.2) (dg_lt _)))))
theorem rt_0 (ps is : List Int) (addr now : Int) : (rtL ps is addr now 0)[0]? = some 240 := by rw [rt_shape]; rfl
theorem rt_8 (ps is : List Int) (addr now : Int) : (rtL ps is addr now 0)[6 + ps.length]? = some 8 := by
  rw [rt_shape, List.getElem?_append_right (by simp), List.getElem?_append_right (by simp)]
  simp
theorem rt_id (ps is : List Int) (addr now : Int) : ((rtL ps is addr now 0).drop (7 + ps.length)).take 8 = rtI 0 := by
  have h := (rtI_ok (ser := 0) (by omega) (by omega)).1
  rw [rt_shape, ← List.append_assoc, ← List.append_assoc, List.drop_append_of_le_length (by simp; omega), List.drop_of_length_le (by simp; omega), List.nil_append, List.take_append_of_le_length (by omega)]
  exact List.take_of_length_le (by omega)
theorem rt_tok (ps is : List Int) (addr now : Int) : ((rtL ps is addr now 0).drop (15 + ps.length)).take 44 = rtT addr now 0 := by
  have h := (rtI_ok (ser := 0) (by omega) (by omega)).1
  have h2 : (rtT addr now 0).length = 44 := rtT_len (by omega) (by omega)
  rw [rt_shape, ← List.append_assoc, ← List.append_assoc, ← List.append_assoc, List.drop_append_of_le_length (by simp; omega), List.drop_of_length_le (by simp; omega), List.nil_append, List.take_append_of_le_length (by omega)]
  exact List.take_of_length_le (by omega)
set_option maxHeartbeats 16000000 in
theorem walk (addr now later : Int) (f p : Sv) (fs ps : List Int) (w : World) (hf : In w f fs) (hp : In w p ps) :
    Calls Try.prog 7 #[.agg (agncells addr now later f p)] w fun r w' => r = .returned (.bool true) ∧ Below w.heap.size w w' := by
  obtain ⟨fa, fn, fc⟩ := f
  obtain ⟨pa, pn, pc⟩ := p
  have HF := hid hf
  have HP := hid hp
  have LF := hid (show fs.length = fn from hf.l)
  have LP := hid (show ps.length = pn from hp.l)
  clear hf hp
  go_enter Try.func7, Try.ntmps7
  go_wp2
  generalize hw0 : World.alloc w _ = v0
  have Q0 := hid (show Q w v0 from by rw [← hw0]; exact (Q.refl w).alloc _)
  have c0 : v0.cell? ⟨w.heap.size, 0, none⟩ = some (.int .i64 addr) := by rw [← hw0, cell_lit]; rfl
  have c1 : v0.cell? ⟨w.heap.size, 1, none⟩ = some (.int .i64 now) := by rw [← hw0, cell_lit]; rfl
  have c2 : v0.cell? ⟨w.heap.size, 2, none⟩ = some (.int .i64 later) := by rw [← hw0, cell_lit]; rfl
  have c3 : v0.cell? ⟨w.heap.size, 3, none⟩ = some (.slice fa fn fc) := by rw [← hw0, cell_lit]; rfl
  have c4 : v0.cell? ⟨w.heap.size, 4, none⟩ = some (.slice pa pn pc) := by rw [← hw0, cell_lit]; rfl
  clear hw0
  go_quiet (fail)
  clear c0 c1 c2 c3 c4
  generalize hu0 : World.drewN v0 _ = u0
  have U0 := hid (show Q w u0 from by rw [← hu0]; exact Q0.out.drewN _)
  clear hu0 Q0
  go_wp2_with fail
  refine (secret_any u0).mono ?_
  rintro e u1 ⟨kg, rfl, q, i⟩
  have U1 := hid (U0.out.trans q)
  have I1 := hid i
  clear q i U0
  go_wp2_with fail
  refine (new_any kg u1 I1.out).mono ?_
  rintro e u2 ⟨tb, mi, mc, k, rfl, q, tt, htb⟩
  have U2 := hid (U1.out.trans q)
  have T2 := hid tt
  have HTB := hid (Nat.le_trans U1.out.size htb)
  clear q tt htb I1 U1
  by_cases h1 : (fn : Int) < 8
  · have dh1 : decide ((fn : Int) < 8) = true := by simp; omega
    go_wp2_with fail
    refine (awake_any u2).mono ?_
    rintro e ux ⟨rfl, q⟩
    have UX := hid (U2.out.trans q)
    clear q
    go_wp2
    go_ret
    exact ⟨by first | rfl | simp, UX.out⟩
  have dh1 : decide ((fn : Int) < 8) = false := by simp; omega
  by_cases h2 : (20 : Int) < (fn : Int)
  · have dh2 : decide ((20 : Int) < (fn : Int)) = true := by simp; omega
    go_wp2_with fail
    refine (awake_any u2).mono ?_
    rintro e ux ⟨rfl, q⟩
    have UX := hid (U2.out.trans q)
    clear q
    go_wp2
    go_ret
    exact ⟨by first | rfl | simp, UX.out⟩
  have dh2 : decide ((20 : Int) < (fn : Int)) = false := by simp; omega
  by_cases h3 : (20 : Int) < (pn : Int)
  · have dh3 : decide ((20 : Int) < (pn : Int)) = true := by simp; omega
    go_wp2_with fail
    refine (awake_any u2).mono ?_
    rintro e ux ⟨rfl, q⟩
    have UX := hid (U2.out.trans q)
    clear q
    go_wp2
    go_ret
    exact ⟨by first | rfl | simp, UX.out⟩
  have dh3 : decide ((20 : Int) < (pn : Int)) = false := by simp; omega
  by_cases h4 : addr < 0
  · have dh4 : decide (addr < 0) = true := by simp; omega
    go_wp2_with fail
    refine (awake_any u2).mono ?_
    rintro e ux ⟨rfl, q⟩
    have UX := hid (U2.out.trans q)
    clear q
    go_wp2
    go_ret
    exact ⟨by first | rfl | simp, UX.out⟩
  have dh4 : decide (addr < 0) = false := by simp; omega
  by_cases h5 : 4294967295 < addr
  · have dh5 : decide (4294967295 < addr) = true := by simp; omega
    go_wp2_with fail
    refine (awake_any u2).mono ?_
    rintro e ux ⟨rfl, q⟩
    have UX := hid (U2.out.trans q)
    clear q
    go_wp2
    go_ret
    exact ⟨by first | rfl | simp, UX.out⟩
  have dh5 : decide (4294967295 < addr) = false := by simp; omega
  by_cases h6 : now < 0
  · have dh6 : decide (now < 0) = true := by simp; omega
    go_wp2_with fail
    refine (awake_any u2).mono ?_
    rintro e ux ⟨rfl, q⟩
    have UX := hid (U2.out.trans q)
    clear q
    go_wp2
    go_ret
    exact ⟨by first | rfl | simp, UX.out⟩
  have dh6 : decide (now < 0) = false := by simp; omega
  by_cases h7 : 1073741824 < now
  · have dh7 : decide (1073741824 < now) = true := by simp; omega
    go_wp2_with fail
    refine (awake_any u2).mono ?_
    rintro e ux ⟨rfl, q⟩
    have UX := hid (U2.out.trans q)
    clear q
    go_wp2
    go_ret
    exact ⟨by first | rfl | simp, UX.out⟩
  have dh7 : decide (1073741824 < now) = false := by simp; omega
  by_cases h8 : later < 0
  · have dh8 : decide (later < 0) = true := by simp; omega
    go_wp2_with fail
    refine (awake_any u2).mono ?_
    rintro e ux ⟨rfl, q⟩
    have UX := hid (U2.out.trans q)
    clear q
    go_wp2
    go_ret
    exact ⟨by first | rfl | simp, UX.out⟩
  have dh8 : decide (later < 0) = false := by simp; omega
  by_cases h9 : 10000 < later
  · have dh9 : decide (10000 < later) = true := by simp; omega
    go_wp2_with fail
    refine (awake_any u2).mono ?_
    rintro e ux ⟨rfl, q⟩
    have UX := hid (U2.out.trans q)
    clear q
    go_wp2
    go_ret
    exact ⟨by first | rfl | simp, UX.out⟩
  have dh9 : decide (10000 < later) = false := by simp; omega
  have HB := hid (show 8 ≤ fn ∧ fn ≤ 20 ∧ pn ≤ 20 ∧ 0 ≤ addr ∧ addr ≤ 4294967295 ∧ 0 ≤ now ∧ now ≤ 1073741824 ∧ 0 ≤ later ∧ later ≤ 10000 from by omega)
  have HA := hid (show wiB addr 4294967295 = true from wiB_iff.2 (by omega))
  clear h1 h2 h3 h4 h5 h6 h7 h8 h9
  go_wp2_with fail
  refine (asked_any ⟨pa, pn, pc⟩ ⟨fa, fn, fc⟩ ⟨none, 0, 0⟩ ps fs [] u2 (HP.out.q U2.out) (HF.out.q U2.out) ⟨seg_nil _ _, rfl, by_nil⟩ (by have := HB.out; show pn ≤ 20; omega) (by have := HB.out; show fn ≤ 20; omega) (by show 0 ≤ 100; omega)).mono ?_
  rintro e u3 ⟨⟨ga, gn, gc⟩, rfl, q, i⟩
  have U3 := hid (U2.out.trans q)
  have T3 := hid (T2.out.q q)
  have G3 := hid i
  clear q i U2 T2 dh1 dh2 dh3 dh4 dh5 dh6 dh7 dh8 dh9
  go_wp2_with fail
  refine (look_first tb mi mc k ⟨ga, gn, gc⟩ 0 ps fs addr now u3 T3.out G3.out (by rw [LP.out]; have := HB.out; omega) (by rw [LF.out]; have := HB.out; omega) (by rw [LF.out]; have := HB.out; omega) HP.out.z HF.out.z HA.out (by have := HB.out; omega) (by have := HB.out; omega) (by omega) (by omega)).mono ?_
  rintro e u4 ⟨⟨ra, rn, rc⟩, rfl, k4, t4, r4, n4⟩
  have U4 := hid (show Q w u4 from k4.below U3.out U3.out.size (fun i e => by have := HTB.out; omega))
  have T4 := hid t4
  have hrl : rn = 75 + pn := by have h := Row.len r4; rw [rtL_len (by omega) (by omega), LP.out] at h; exact h.symm
  have hrc := Row.cap r4
  obtain ⟨rg, ro, hra⟩ := row_addr r4 (by show 0 < rn; omega)
  dsimp only at hra hrc
  subst hra
  have X4 := hid (row_in r4 (rt_by HP.out.z (by rw [LP.out]; have := HB.out; omega)))
  have R4 := hid r4
  have HRL := hid hrl
  have HRC := hid hrc
  clear k4 t4 r4 n4 hrl hrc G3 T3 U3
  dsimp only
  go_wp2_with (refine wpList_store_row rfl 54 _ _ rfl u4.heap.size (vcells 3 0 nilS nilS ⟨some ⟨rg, ro, none⟩, rn, rc⟩) rfl rfl 54 _ (heap_alloc_new u4 _) (vcells_info _ _ _ _ _) rfl (vcells_one _ _ _ _ _) ?_; refine Hid.out ?_)
  refine hid ?_
  generalize hv5 : World.setRow _ _ _ = u5
  have k5 : Keep (fun i => i = u4.heap.size) u4 u5 := by rw [← hv5]; exact ((Keep.refl (fun i => i = u4.heap.size) u4).alloc _).setRow _ _ (.inl rfl)
  have q5 : Q u4 u5 := k5.below (Q.refl _) (Nat.le_refl _) (fun i e => by omega)
  have b5 : u5.heap[u4.heap.size]? = some (.cells (vcells 3 0 nilS nilS ⟨some ⟨rg, ro, none⟩, rn, rc⟩) 54 (0, 0)) := by rw [← hv5]; exact setRow_heap _ _ _ _ 54 _ (heap_alloc_new u4 _)
  clear hv5 k5
  have U5 := hid (U4.out.trans q5)
  have T5 := hid (T4.out.q q5)
  have X5 := hid (X4.out.q q5)
  have R5 := hid (show Row u5 ⟨some ⟨rg, ro, none⟩, rn, rc⟩ (rtL ps fs addr now 0) from R4.out.q q5)
  clear q5 U4 T4 X4 R4
  generalize u4.heap.size = vb at *
  have e0 : u5.cell? ⟨vb, 0, none⟩ = some (.int .i64 3) := by rw [cell_of_row u5 vb 0 _ 54 (0, 0) b5]; rfl
  have e4 : u5.cell? ⟨vb, 4, none⟩ = some (.slice (some ⟨rg, ro, none⟩) rn rc) := by rw [cell_of_row u5 vb 4 _ 54 (0, 0) b5]; rfl
  obtain ⟨m, hm⟩ : ∃ m : Nat, 6 + pn = m := ⟨_, rfl⟩
  have y0 := (row_cellc R5.out (g := rg) (off := ro) (j := 0) rfl (rt_0 ps fs addr now)).1
  have y8 := (row_cellc R5.out (g := rg) (off := ro) (j := m) rfl (by rw [← hm, ← LP.out]; exact rt_8 ps fs addr now)).1
  rw [Nat.add_zero] at y0
  have hm1 : (6 : Int) + (pn : Int) = (m : Int) := by omega
  have HM := hid hm
  have hw0 : IntKind.i64.wrap (m : Int) = (m : Int) := by have := HB.out; rw [wrap_i64]; omega
  have hw1 : IntKind.i64.wrap ((m : Int) + 1) = (m : Int) + 1 := by have := HB.out; rw [wrap_i64]; omega
  have hw9 : IntKind.i64.wrap ((m : Int) + 1 + 8) = (m : Int) + 1 + 8 := by have := HB.out; rw [wrap_i64]; omega
  have hw25 : IntKind.i64.wrap ((m : Int) + 1 + 8 + 16) = (m : Int) + 1 + 8 + 16 := by have := HB.out; rw [wrap_i64]; omega
  have hcl : decide ((rn : Int) < (m : Int) + 1 + 8 + 16) = false := by have := HRL.out; have := HM.out; simp; omega
  have hmr : (m : Int) < (rn : Int) := by have := HRL.out; have := HM.out; omega
  have hm0 : (0 : Int) ≤ (m : Int) := by omega
  have hr0 : (0 : Int) < (rn : Int) := by have := HRL.out; omega
  clear b5 hm
  go_upto_region 11 with fail
  have hv9 : IntKind.i64.wrap ((m : Int) + 9) = (m : Int) + 9 := by have := HB.out; have := HM.out; rw [wrap_i64]; omega
  have hv16 : IntKind.i64.wrap ((rn : Int) - 16) = (rn : Int) - 16 := by have := HB.out; have := HRL.out; rw [wrap_i64]; omega
  have sA : ∀ u, (Instr.slice 22 (.slice (some ⟨rg, ro, none⟩) rn rc) (some (.int .i64 ((m : Int) + 1))) (some (.int .i64 ((m : Int) + 9))) none).run Try.prog u = .ok (.slice (some ⟨rg, ro + (m + 1), none⟩) 8 (rc - (m + 1))) u := fun u => by
    have h := sl_mid rg ro rn rc (m + 1) (m + 9) (by omega) (by have := HRC.out; have := HRL.out; have := HM.out; omega) (by have := HRC.out; have := HRL.out; have := HM.out; omega) u
    rw [show ((m + 1 : Nat) : Int) = (m : Int) + 1 from by omega, show ((m + 9 : Nat) : Int) = (m : Int) + 9 from by omega, show m + 9 - (m + 1) = 8 from by omega] at h
    exact h
  have sB : ∀ u, (Instr.slice 22 (.slice (some ⟨rg, ro, none⟩) rn rc) (some (.int .i64 ((m : Int) + 9))) (some (.int .i64 ((rn : Int) - 16))) none).run Try.prog u = .ok (.slice (some ⟨rg, ro + (m + 9), none⟩) 44 (rc - (m + 9))) u := fun u => by
    have e : rn - 16 = m + 53 := by have := HRL.out; have := HM.out; omega
    have h := sl_mid rg ro rn rc (m + 9) (m + 53) (by omega) (by have := HRC.out; have := HRL.out; have := HM.out; omega) (by have := HRC.out; have := HRL.out; have := HM.out; omega) u
    rw [show ((m + 9 : Nat) : Int) = (m : Int) + 9 from by omega, show ((m + 53 : Nat) : Int) = (rn : Int) - 16 from by have := HRL.out; have := HM.out; omega, show m + 53 - (m + 9) = 44 from by omega] at h
    exact h
  have I5 := hid (show In u5 ⟨some ⟨rg, ro + (m + 1), none⟩, 8, rc - (m + 1)⟩ (rtI 0) from by
    have h := in_mid X5.out (k := m + 1) (m := 8) (by have := HRL.out; have := HM.out; omega) (rc - (m + 1))
    rw [show m + 1 = 7 + ps.length from by rw [LP.out, ← HM.out]; omega, rt_id] at h
    rw [show m + 1 = 7 + ps.length from by rw [LP.out, ← HM.out]; omega]
    exact h)
  have K5 := hid (show In u5 ⟨some ⟨rg, ro + (m + 9), none⟩, 44, rc - (m + 9)⟩ (rtT addr now 0) from by
    have h := in_mid X5.out (k := m + 9) (m := 44) (by have := HRL.out; have := HM.out; omega) (rc - (m + 9))
    rw [show m + 9 = 15 + ps.length from by rw [LP.out, ← HM.out]; omega, rt_tok] at h
    rw [show m + 9 = 15 + ps.length from by rw [LP.out, ← HM.out]; omega]
    exact h)
  clear y0 y8 hw1 hw9 hw25 hcl
  have hw1 : IntKind.i64.wrap ((m : Int) + 1) = (m : Int) + 1 := by have := HB.out; have := HM.out; rw [wrap_i64]; omega
  go_quiet (fail)
  generalize hu6 : World.drewN u5 _ = u6
  have q6 : Q u5 u6 := by rw [← hu6]; exact (Q.refl u5).drewN _
  clear hu6 sA sB hv9 hv16 hw1 e0 e4 hmr hm0 hr0
  have U6 := hid (U5.out.trans q6)
  have T6 := hid (T5.out.q q6)
  have I6 := hid (I5.out.q q6)
  have K6 := hid (K5.out.q q6)
  clear q6 U5 T5 X5 R5 I5 K5
  generalize rc - (m + 1) = c8 at *
  generalize rc - (m + 9) = c44 at *
  generalize ro + (m + 1) = o8 at *
  generalize ro + (m + 9) = o44 at *
  have HI := hid (rtI_ok (ser := 0) (by omega) (by omega))
  go_wp2_with fail
  refine (asked_any ⟨pa, pn, pc⟩ ⟨some ⟨rg, o8, none⟩, 8, c8⟩ ⟨some ⟨rg, o44, none⟩, 44, c44⟩ ps (rtI 0) (rtT addr now 0) u6 (HP.out.q U6.out) I6.out K6.out (by have := HB.out; show pn ≤ 20; omega) (by show 8 ≤ 20; omega) (by show 44 ≤ 100; omega)).mono ?_
  rintro e u7 ⟨⟨ga, gn, gc⟩, rfl, q, i⟩
  have U7 := hid (U6.out.trans q)
  have T7 := hid (T6.out.q q)
  have I7 := hid (I6.out.q q)
  have G7 := hid (show In u7 ⟨ga, gn, gc⟩ (akL ps (rtI 0) (toL secL addr (now + 10000) (rtI 0))) from i)
  have hwl : IntKind.i64.wrap (now + later) = now + later := by have := HB.out; rw [wrap_i64]; omega
  clear q i U6 T6 I6 K6
  go_wp2_with fail
  refine (look_again tb mi mc k ⟨ga, gn, gc⟩ (0 + 1) ps (rtI 0) addr (now + later) (now + 10000) u7 T7.out G7.out (by rw [LP.out]; have := HB.out; omega) (by rw [HI.out.1]; omega) (by rw [HI.out.1]; omega) HP.out.z HI.out.2 HA.out (by have := HB.out; omega) (by have := HB.out; omega) (wiB_iff.2 (by have := HB.out; omega)) (by have := HB.out; omega)).mono ?_
  rintro e u8 ⟨⟨da, dn, dc⟩, ⟨sa, sn, sc⟩, rfl, q, id8, is8⟩
  have U8 := hid (U7.out.trans q)
  have I8 := hid (I7.out.q q)
  have D8 := hid id8
  have S8 := hid is8
  clear q id8 is8 U7 T7 I7 G7 hwl
  dsimp only
  go_wp2_with (refine wpList_store_row rfl 54 _ _ rfl u8.heap.size (vcells 2 0 ⟨da, dn, dc⟩ ⟨sa, sn, sc⟩ nilS) rfl rfl 54 _ (heap_alloc_new u8 _) (vcells_info _ _ _ _ _) rfl (vcells_one _ _ _ _ _) ?_; refine Hid.out ?_)
  refine hid ?_
  generalize hv9 : World.setRow _ _ _ = u9
  have k9 : Keep (fun i => i = u8.heap.size) u8 u9 := by rw [← hv9]; exact ((Keep.refl (fun i => i = u8.heap.size) u8).alloc _).setRow _ _ (.inl rfl)
  have q9 : Q u8 u9 := k9.below (Q.refl _) (Nat.le_refl _) (fun i e => by omega)
  have b9 : u9.heap[u8.heap.size]? = some (.cells (vcells 2 0 ⟨da, dn, dc⟩ ⟨sa, sn, sc⟩ nilS) 54 (0, 0)) := by rw [← hv9]; exact setRow_heap _ _ _ _ 54 _ (heap_alloc_new u8 _)
  clear hv9 k9
  have U9 := hid (U8.out.trans q9)
  have B9 := hid b9
  have SM1 := hid (same_rows (x := ⟨da, dn, dc⟩) (y := ⟨some ⟨rg, o8, none⟩, 8, c8⟩) (D8.out.q q9) (I8.out.q q9) (by have h := D8.out.l; rw [HI.out.1] at h; dsimp only at h ⊢; omega))
  have S9 := hid (S8.out.q q9)
  clear q9 U8 D8 S8 I8
  generalize u8.heap.size = wb at *
  have e0 : u9.cell? ⟨wb, 0, none⟩ = some (.int .i64 2) := by rw [cell_of_row u9 wb 0 _ 54 (0, 0) b9]; rfl
  have e2 : u9.cell? ⟨wb, 2, none⟩ = some (.slice da dn dc) := by rw [cell_of_row u9 wb 2 _ 54 (0, 0) b9]; rfl
  clear b9
  go_wp2_with fail
  refine SM1.out.mono ?_
  rintro e ua ⟨rfl, q⟩
  have UA := hid (U9.out.trans q)
  have e3 : ua.cell? ⟨wb, 3, none⟩ = some (.slice sa sn sc) := by rw [cell_of_row ua wb 3 _ 54 (0, 0) ((Below.block q _ (lt_of_block B9.out)).trans B9.out)]; rfl
  have SM2 := hid (same_rows (x := ⟨sa, sn, sc⟩) (y := ⟨pa, pn, pc⟩) (S9.out.q q) (HP.out.q UA.out) (by have h := S9.out.l; rw [LP.out] at h; have := HB.out; dsimp only at h ⊢; omega))
  clear q U9 S9 SM1 e0 e2
  go_wp2_with fail
  refine SM2.out.mono ?_
  rintro e ub ⟨rfl, q⟩
  have UB := hid (UA.out.trans q)
  clear q UA SM2 e3
  go_wp2_with fail
  refine (awake_any ub).mono ?_
  rintro e uc ⟨rfl, q⟩
  have UC := hid (UB.out.trans q)
  clear q
  go_wp2
  go_ret
  exact ⟨by first | rfl | simp, UC.out⟩

set_option maxRecDepth 100000 in
theorem lifted (os : Os) (started : os.Started) (H : Type) (enc : TypeId × Value → H) :
    ReturnsInHanded {} Try.checked os 7 .any (Rows.routeAskedSpec.pre6 enc Try.prog Try.f7 Rows.routeAskedRow.domain false) (Rows.routeAskedSpec.post enc Try.prog Try.f7 false true false false) := by
  refine returnsInHanded_of_change_sized (C := Try.checked) own_knob started (by kernel_rfl) Try.func7
    (ChangeSpec.witness6 (enc := enc) (C := Try.checked) false ⟨#[], #[.agg #[.int .i64 0, .int .i64 0, .int .i64 0, .slice none 0 0, .slice none 0 0]], []⟩ 8 (by kernel_rfl) (by kernel_rfl) (by kernel_rfl) (by kernel_rfl)) ?_
  intro W base args ds gs before hval0 hW hcnd hsz0 _
  have hval : ∀ (j : Nat) t v, Try.f7.params[j]? = some t → args[j]? = some v → Value.okWide Try.prog W .any base t v := hval0
  have hsz : (DataW.weightsEach Try.prog (Try.f7.params.toList ++ Rows.routeAskedSpec.plain.varTypes Try.prog) (ds ++ gs)).all (· ≤ reachBytes) = true := hsz0
  have hW' := hW
  obtain ⟨p, q, hA0, hV, rfl, hfz, hnd⟩ := hW
  have hA : DataW.TrodAll enc Try.prog W 0 (fun _ => true) true Try.f7.params.toList args.toList ds p := hA0
  rw [Try.params7] at hA hval hsz
  obtain ⟨v0, vs0, d0, ds0, p0, q0, hargs, rfl, rfl, h0, r0⟩ := trodAll_cons hA
  obtain ⟨rfl, rfl, rfl⟩ := trodAll_nil r0
  obtain rfl : args = #[v0] := by cases args; simp_all
  obtain ⟨rfl, rfl⟩ := trodVars_none hV
  obtain ⟨cs0, rfl, hcs0⟩ := okWide_struct Try.underlying46 (hval 0 46 v0 rfl rfl)
  have k0 := h0
  have lt0 : ∀ x ∈ p0, x.block < W.heap.size := by obtain ⟨m, hm⟩ := k0; exact DataW.trod_lt m _ _ _ hm
  obtain ⟨n0, n1, n2, s3, s4, z3, z4, rfl, hc0⟩ := agn_open h0 hcs0
  have ft0 := agn_fit hsz (j := 0) rfl rfl hc0
  clear hA0 hval0
  refine (walk n0 n1 n2 s3 s4 z3 z4 W hc0.i3 hc0.i4).mono fun e W' ⟨he, bel⟩ => ?_
  subst he
  exact ⟨_, rfl, _, _, _, [], _, [], hW', trodAll_mk1 (shut_bool Try.underlying4 _), (trodAll_cons_mk (Below.trod laid_out (by kernel_rfl) (of_decide_eq_true (by kernel_rfl)) k0 bel lt0) trodAll_mk0), rfl, bel.frame _, fun h => by cases h⟩

theorem over : Rows.routeAskedRow.holds Try.pinned (OpenSpec.ofChange Rows.routeAskedSpec) :=
  OpenClaim.holds_of_wide 7 Try.f7 rfl rfl rfl rfl rfl rfl rfl ⟨rfl, rfl, rfl, rfl, rfl⟩ rfl rfl rfl rfl rfl (by kernel_rfl) Try.func7 (by kernel_rfl)
    (of_decide_eq_true (by kernel_rfl)) (by unfold Func.isWrapper; first | (rw [if_pos (by decide +kernel)]; kernel_rfl) | (rw [if_neg (by decide +kernel)]; exact ⟨rfl, rfl⟩))
    (fun os started H enc _ => lifted os started H enc)

end Go.Proofs.Ytnnjogfpapndaaa.routeAsked
namespace Go.Proofs.Ytnnjogfpapndaaa

/-- The statement. -/
theorem routeAsked_holds : Rows.RouteAskedSaid := routeAsked.over
#print axioms routeAsked_holds
end Go.Proofs.Ytnnjogfpapndaaa
