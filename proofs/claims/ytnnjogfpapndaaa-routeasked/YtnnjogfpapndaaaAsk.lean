/-
  What the statement's own asked does: the bytes of a first packet; and how they are read. Contracts that the statement's walk uses.
-/
import Derived.Test.YtnnjogfpapndaaaAns
import Derived.Test.YtnnjogfpapndaaaRef
namespace Go.Proofs.Ytnnjogfpapndaaa
open Go.RowKit
set_option linter.unusedVariables false
set_option maxRecDepth 20000

/-- A first packet ahead of its payload. -/
def akH (ps is ts : List Int) : List Int := [192] ++ ([0, 0, 0, 1] ++ (sdL is ++ (sdL ps ++ (form ts.length ++ (ts ++ [67, 232])))))
def akL (ps is ts : List Int) : List Int := akH ps is ts ++ List.replicate 1200 0
theorem akH_by {ps is ts : List Int} (hp : By ps) (hi : By is) (ht : By ts) (lp : ps.length ≤ 20) (li : is.length ≤ 20) : By (akH ps is ts) := by
  unfold akH
  refine By.app (by intro y hy; simp at hy; omega) (By.app (by intro y hy; simp at hy; omega) (By.app (sdL_by hi li) (By.app (sdL_by hp lp) (By.app (form_bytes _) (By.app ht (by intro y hy; simp at hy; omega))))))
theorem akL_by {ps is ts : List Int} (hp : By ps) (hi : By is) (ht : By ts) (lp : ps.length ≤ 20) (li : is.length ≤ 20) : By (akL ps is ts) := By.app (akH_by hp hi ht lp li) (by intro y hy; have := List.eq_of_mem_replicate hy; omega)
theorem akL_len (ps is ts : List Int) : (akL ps is ts).length = (akH ps is ts).length + 1200 := by unfold akL; rw [List.length_append, List.length_replicate]
theorem akH_len (ps is ts : List Int) (ht : ts.length ≤ 100) : (akH ps is ts).length ≤ 117 + ps.length + is.length := by
  unfold akH
  simp only [List.length_append, List.length_cons, List.length_nil, sdL_len, form_length]
  have := sz_le (ts.length : Int)
  omega
set_option maxHeartbeats 8000000 in
theorem asked_any (p d t : Sv) (ps is ts : List Int) (w : World) (hp : In w p ps) (hd : In w d is) (ht : In w t ts) (np : p.n ≤ 20) (nd : d.n ≤ 20) (nt : t.n ≤ 100) :
    Calls Try.prog 24 #[.slice p.a p.n p.c, .slice d.a d.n d.c, .slice t.a t.n t.c] w fun e w' => ∃ x : Sv, e = .returned (.slice x.a x.n x.c) ∧ Q w w' ∧ In w' x (akL ps is ts) := by
  obtain ⟨pa, pn, pc⟩ := p
  obtain ⟨da, dn, dc⟩ := d
  obtain ⟨ta, tn, tc⟩ := t
  have HP := hid hp
  have HD := hid hd
  have HT := hid ht
  have LP := hid (show ps.length = pn from hp.l)
  have LD := hid (show is.length = dn from hd.l)
  have LT := hid (show ts.length = tn from ht.l)
  dsimp only at np nd nt
  have HN := hid (And.intro np (And.intro nd nt))
  have w1 : IntKind.u8.wrap (pn : Int) = (pn : Int) := by simp only [IntKind.wrap, IntKind.bits, IntKind.signed]; simp; omega
  have w2 : IntKind.u8.wrap (dn : Int) = (dn : Int) := by simp only [IntKind.wrap, IntKind.bits, IntKind.signed]; simp; omega
  have b1 : (pn : Int) < 256 := by omega
  have b2 : (dn : Int) < 256 := by omega
  have b3 : (0 : Int) ≤ (pn : Int) := by omega
  have b4 : (0 : Int) ≤ (dn : Int) := by omega
  clear hp hd ht np nd nt
  dsimp only at *
  go_enter Try.func24, Try.ntmps24
  go_wp2_with fail
  generalize hv2 : World.alloc (World.alloc w _) _ = v2
  have Q2 := hid (show Q w v2 from by rw [← hv2]; exact ((Q.refl w).alloc _).alloc _)
  have A2 := hid (show In v2 ⟨some ⟨w.heap.size, 0, none⟩, 6, 6⟩ [192, 0, 0, 0, 1, (dn : Int)] from by
    rw [← hv2]
    exact ⟨(seg_litm w [192, 0, 0, 0, 1, (dn : Int)] (0, 0)).q ((Q.refl _).alloc _), rfl, by intro y hy; simp at hy; omega⟩)
  have P2 := hid (show In v2 ⟨some ⟨w.heap.size + 1, 0, none⟩, 1, 1⟩ [(pn : Int)] from by
    rw [← hv2]
    have h := seg_litm (w.alloc (.cells #[.int .u8 192, .int .u8 0, .int .u8 0, .int .u8 0, .int .u8 1, .int .u8 (dn : Int)] 5)) [(pn : Int)] (0, 0)
    rw [show (w.alloc (.cells #[.int .u8 192, .int .u8 0, .int .u8 0, .int .u8 0, .int .u8 1, .int .u8 (dn : Int)] 5)).heap.size = w.heap.size + 1 from by simp] at h
    exact ⟨h, rfl, one_byte _ b3 b1⟩)
  clear hv2
  have HB := hid (Eq.refl w.heap.size)
  refine (rput_ok (tn : Int) v2 (sz (tn : Int)) (by omega) (by have := HN.out; omega) (hid rfl)).mono ?_
  rintro e v3 ⟨g, rfl, q, o⟩
  have Q3 := hid (Q2.out.trans q)
  have A3 := hid (A2.out.q q)
  have P3 := hid (P2.out.q q)
  have G3 := hid (show In v3 ⟨some ⟨g, 0, none⟩, sz (tn : Int), sz (tn : Int)⟩ (form (tn : Int)) from ⟨o.seg, o.len, form_bytes _⟩)
  clear q o Q2 A2 P2 HB
  have hsz := sz_le (tn : Int)
  generalize sz (tn : Int) = sn at *
  go_wp2_with fail
  obtain ⟨v4, hv4⟩ : ∃ v4, v4 = v3.alloc (.cells #[.int .u8 67, .int .u8 232] 5) := ⟨_, rfl⟩
  have q4 : Q v3 v4 := by rw [hv4]; exact (Q.refl _).alloc _
  have E4 := hid (show In v4 ⟨some ⟨v3.heap.size, 0, none⟩, 2, 2⟩ [67, 232] from by rw [hv4]; exact ⟨seg_litm v3 [67, 232] (0, 0), rfl, by intro y hy; simp at hy; omega⟩)
  have hs4 : v4.heap.size = v3.heap.size + 1 := by rw [hv4]; simp
  have JL := join_lit v4 [⟨some ⟨w.heap.size, 0, none⟩, 6, 6⟩, ⟨da, dn, dc⟩, ⟨some ⟨w.heap.size + 1, 0, none⟩, 1, 1⟩, ⟨pa, pn, pc⟩, ⟨some ⟨g, 0, none⟩, sn, sn⟩, ⟨ta, tn, tc⟩, ⟨some ⟨v3.heap.size, 0, none⟩, 2, 2⟩] [[192, 0, 0, 0, 1, (dn : Int)], is, [(pn : Int)], ps, form (tn : Int), ts, [67, 232]] rfl (fun j hj => by
    rcases (show j = 0 ∨ j = 1 ∨ j = 2 ∨ j = 3 ∨ j = 4 ∨ j = 5 ∨ j = 6 by simp at hj; omega) with rfl | rfl | rfl | rfl | rfl | rfl | rfl
    · exact A3.out.q q4
    · exact HD.out.q (Q3.out.trans q4)
    · exact P3.out.q q4
    · exact HP.out.q (Q3.out.trans q4)
    · exact G3.out.q q4
    · exact HT.out.q (Q3.out.trans q4)
    · exact E4.out) (by simp) (by
      have h1 := LP.out
      have h2 := LD.out
      have h3 := LT.out
      have h4 := form_length (tn : Int)
      have h5 := sz_le (tn : Int)
      have h6 := HN.out
      simp
      omega)
  have ef : ([[192, 0, 0, 0, 1, (dn : Int)], is, [(pn : Int)], ps, form (tn : Int), ts, [67, 232]] : List (List Int)).flatten = akH ps is ts := by
    unfold akH sdL
    rw [LP.out, LD.out, LT.out]
    simp
  rw [ef, hs4, hv4] at JL
  rw [hv4] at q4
  refine JL.mono ?_
  rintro e v5 ⟨⟨xa, xn, xc⟩, rfl, q, i, r, n⟩
  have Q5 := hid (Q3.out.trans (q4.trans q))
  have hxn : xn ≤ 200 := by
    have h1 := Row.len r
    have h2 := akH_len ps is ts (by rw [LT.out]; exact HN.out.2.2)
    rw [LP.out, LD.out] at h2
    have h6 := HN.out
    dsimp only at h1
    omega
  have n5 : New w.heap.size ⟨xa, xn, xc⟩ := n.mono (by have := Q3.out.size; simp; omega)
  obtain ⟨⟨ya, yn, yc⟩, v6, hrun, hrow, hkp, hb⟩ := row_zeros (ty := 22) (d := ⟨xa, xn, xc⟩) (m := 1200) r (by omega) (by show xn + 1200 ≤ _; omega)
  have hns := new_step (x := ⟨xa, xn, xc⟩) (y := ⟨ya, yn, yc⟩) rfl Q5.out n5 hkp hb
  have HX := hid (show Q w v6 ∧ In v6 ⟨ya, yn, yc⟩ (akL ps is ts) from ⟨hns.1, row_in hrow (akL_by HP.out.z HD.out.z HT.out.z (by rw [LP.out]; exact HN.out.1) (by rw [LD.out]; exact HN.out.2.1))⟩)
  have hrun' : (Builtin.append_ #[22, 3] 22 #[.slice xa xn xc, .int .i64 1200]).run Try.prog v5 = .ok (.slice ya yn yc) v6 := hrun
  clear hrow hkp hb hns hrun q i r n n5 JL ef hs4 q4 hv4 E4 A3 P3 G3 Q3 hxn
  go_wp2_with (at_builtin; refine Lib.wpList_append_run _ rfl _ _ _ _ rfl _ _ rfl rfl _ _ hrun' ?_)
  go_ret
  exact ⟨⟨ya, yn, yc⟩, rfl, HX.out⟩
end Go.Proofs.Ytnnjogfpapndaaa
