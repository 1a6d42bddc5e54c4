/-
  What prim.Seal does: a contract that the statements' walks use.
-/
import Derived.Test.YtnnjogfpapndaaaOvr
namespace Go.Proofs.Ytnnjogfpapndaaa
open Go.RowKit
set_option linter.unusedVariables false
set_option maxRecDepth 20000

/-- The sealed bytes. -/
def sealL (ks ns az ds : List Int) : List Int := ovl ks ns ds ++ tagL ks ns az (ovl ks ns ds)
theorem chk_ok {kl nl al : Nat} {s : Int} (h : chkE kl nl al s = 0) : kl ≤ 255 ∧ nl ≤ 255 ∧ al ≤ 16384 ∧ s ≤ 16384 := by
  unfold chkE at h
  split at h
  · simp at h
  split at h
  · simp at h
  omega
theorem chk_cases (kl nl al : Nat) (s : Int) : chkE kl nl al s = 0 ∨ chkE kl nl al s = 70 ∨ chkE kl nl al s = 52 := by
  unfold chkE
  split
  · exact .inr (.inl rfl)
  split
  · exact .inr (.inr rfl)
  exact .inl rfl
theorem cell_lit (w : World) (vs : Array Value) (t j : Nat) : (w.alloc (.cells vs t)).cell? ⟨w.heap.size, j, none⟩ = vs[j]? := by
  rw [cell_of_row _ w.heap.size j vs t (0, 0) (heap_alloc_new w _)]
theorem seg_arr {w : World} {g : Nat} {zs : List Int} {t : Nat} (h : w.heap[g]? = some (.cells (u8s zs).toArray t (0, 0))) : Seg w (some ⟨g, 0, none⟩) zs := by
  intro _
  refine ⟨g, 0, rfl, fun i hi => ?_⟩
  rw [cell_of_row w g (0 + i) _ t (0, 0) h, Nat.zero_add]
  simp [List.getD_eq_getElem?_getD, hi]
/-- Two pieces. -/
def two {α : Type} (x y : α) : Nat → α
  | 0 => x
  | _ => y
set_option maxHeartbeats 4000000 in
theorem seal_any (k n ad d : Sv) (ks ns az ds : List Int) (w : World) (hk : In w k ks) (hn : In w n ns) (ha : In w ad az) (hd : In w d ds) (bd : d.n ≤ 140737488355328) :
    Calls Try.prog 37 #[.slice k.a k.n k.c, .slice n.a n.n n.c, .slice ad.a ad.n ad.c, .slice d.a d.n d.c] w fun e w' => ∃ x : Sv, e = .returned (.tuple #[.slice x.a x.n x.c, .int .i64 (chkE k.n n.n ad.n d.n)]) ∧ Q w w' ∧ Row w' x (if chkE k.n n.n ad.n d.n = 0 then sealL ks ns az ds else []) ∧ New w.heap.size x := by
  have HC := hid (check_any k n ad d.n w)
  have HO := hid (overlay_any k n d ks ns ds w hk hn hd)
  have HT := hid (tagOf_any k n ad · ks ns az (ovl ks ns ds) ·)
  have HOK := hid (@chk_ok k.n n.n ad.n d.n)
  have HCC := hid (chk_cases k.n n.n ad.n d.n)
  have HK := hid hk
  have HN := hid hn
  have HA := hid ha
  have HD := hid hd
  clear hk hn ha hd
  obtain ⟨ka, kn, kc⟩ := k
  obtain ⟨na, nn, nc⟩ := n
  obtain ⟨aa, an, ac⟩ := ad
  obtain ⟨da, dn, dc⟩ := d
  dsimp only at *
  generalize chkE kn nn an dn = E at *
  by_cases hE : E = 0
  · subst hE
    rw [if_pos rfl]
    obtain ⟨b1, b2, b3, b4⟩ := HOK.out rfl
    have b5 : dn ≤ 16384 := by omega
    go_enter Try.func37, Try.ntmps37
    go_wp2_with (go_at_call 52; refine HC.out.mono ?_; rintro e w' ⟨rfl, rfl⟩)
    refine (HO.out b1 b2 b5).mono ?_
    rintro e w2 ⟨⟨xa, xn, xc⟩, rfl, q2, r2, n2⟩
    have hxn : xn = dn := by have h1 := Row.len r2; rw [ovl_len] at h1; have h2 : ds.length = dn := HD.out.l; dsimp only at h1; omega
    subst hxn
    have Q2 := hid q2
    have R2 := hid r2
    have HOV := hid (show In w2 ⟨xa, xn, xc⟩ (ovl ks ns ds) from ⟨r2.seg, Row.len r2, ovl_lt HD.out.z⟩)
    clear q2 r2 n2 HO HC
    go_wp2_with fail
    refine (HT.out ⟨xa, xn, xc⟩ w2 (HK.out.q Q2.out) (HN.out.q Q2.out) (HA.out.q Q2.out) HOV.out b1 b2 b3 b5).mono ?_
    rintro e w3 ⟨rfl, q3⟩
    have Q3 := hid (Q2.out.trans q3)
    have H3 := hid (HOV.out.q q3)
    have HSL := hid (show sealL ks ns az ds = ovl ks ns ds ++ tagL ks ns az (ovl ks ns ds) from rfl)
    have HTL := hid (tagL_len ks ns az (ovl ks ns ds))
    clear q3 R2 HT HOV Q2
    generalize tagL ks ns az (ovl ks ns ds) = ts at *
    go_wp2_with (refine wpList_store_row rfl 90 _ _ rfl w3.heap.size (u8s ts).toArray rfl rfl 90 _ (heap_alloc_new w3 _) (arr_info _ HTL.out) (arr_sizes (List.replicate 16 0) _ rfl HTL.out) (arr_one _) ?_; refine Hid.out ?_)
    refine hid ?_
    generalize hw4 : World.setRow _ _ _ = w4
    have Q4 := hid (show Q w3 w4 from by
      have k4 : Keep (fun i => i = w3.heap.size) w3 w4 := by rw [← hw4]; exact ((Keep.refl (fun i => i = w3.heap.size) w3).alloc _).setRow _ _ (.inl rfl)
      exact k4.below (Q.refl _) (Nat.le_refl _) (fun i e => by omega))
    have T4 := hid (show w4.heap[w3.heap.size]? = some (.cells (u8s ts).toArray 90 (0, 0)) from by rw [← hw4]; exact setRow_heap _ _ _ _ 90 _ (heap_alloc_new w3 _))
    clear hw4
    generalize w3.heap.size = tg at *
    go_wp2_with fail
    have q5 : Q w4 (w4.alloc (.cells #[.slice xa xn xc, .slice (some ⟨tg, 0, none⟩) 16 16] 22)) := (Q.refl w4).alloc _
    have CC := hid (concat_any w4.heap.size 2 2 (two ⟨xa, xn, xc⟩ ⟨some ⟨tg, 0, none⟩, 16, 16⟩) (two (ovl ks ns ds) ts) (w4.alloc (.cells #[.slice xa xn xc, .slice (some ⟨tg, 0, none⟩) 16 16] 22))
      (by
        intro j hj
        rw [cell_lit]
        rcases (show j = 0 ∨ j = 1 by omega) with rfl | rfl <;> rfl)
      (by
        intro j hj
        rcases (show j = 0 ∨ j = 1 by omega) with rfl | rfl
        · exact ⟨(H3.out.s.q Q4.out).q q5, H3.out.l⟩
        · exact ⟨(seg_arr T4.out).q q5, HTL.out⟩)
      (by omega)
      (by
        have h1 : (ovl ks ns ds).length = xn := H3.out.l
        show ([] ++ ovl ks ns ds ++ ts).length ≤ 1000000
        rw [List.nil_append, List.length_append, h1, HTL.out]; omega))
    refine CC.out.mono ?_
    rintro e w6 ⟨y, rfl, q6, r6, n6⟩
    have Q6 := hid ((Q3.out.trans Q4.out).trans (q5.trans q6))
    have R6 := hid (show Row w6 y (sealL ks ns az ds) from by rw [HSL.out]; exact r6)
    have N6 := hid (n6.mono (show w'.heap.size ≤ _ from ((Q3.out.trans Q4.out).trans q5).size))
    clear CC q5 q6 r6 n6
    go_wp2
    go_ret2
    exact ⟨y, rfl, Q6.out, R6.out, N6.out⟩
  · rw [if_neg hE]
    have hne : (E != 0) = true := by simp [hE]
    go_enter Try.func37, Try.ntmps37
    go_wp2_with (go_at_call 52; refine HC.out.mono ?_; rintro e w' ⟨rfl, rfl⟩)
    go_ret2
    exact ⟨nilS, rfl, Q.refl _, sub_nil _ _ _, new_nil _⟩
end Go.Proofs.Ytnnjogfpapndaaa
