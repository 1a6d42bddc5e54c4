/-
  What guard's Secrets and the document's do: contracts that the statements' walks use.
-/
import Derived.Test.YtihmlfpfpadfpaaKys
import Derived.Lib.SlBytesConst
namespace Go.Proofs.Ytihmlfpfpadfpaa
open Go.RowKit
set_option linter.unusedVariables false
set_option maxRecDepth 20000

/-- The text ahead of a connection id; the first secrets. -/
def tiL : List Int := [116, 117, 114, 110, 112, 105, 107, 101, 32, 105, 110, 105, 116, 105, 97, 108]
def cliL (cs : List Int) : List Int := exL (dg (tiL ++ cs)) (sb ⟨#[99, 108, 105, 101, 110, 116, 32, 105, 110]⟩) 16
def srvL (cs : List Int) : List Int := exL (dg (tiL ++ cs)) (sb ⟨#[115, 101, 114, 118, 101, 114, 32, 105, 110]⟩) 16
def if20 (cs zs : List Int) : List Int := if cs.length ≤ 20 then zs else []
def e20 (n : Nat) : Int := if n ≤ 20 then 0 else 70
theorem tiL_lt : By tiL := by intro y hy; simp [tiL] at hy; omega
theorem seg_litm (w : World) (zs : List Int) (m : Nat × Nat) : Seg (w.alloc (.cells (u8s zs).toArray 5 m)) (some ⟨w.heap.size, 0, none⟩) zs := by
  intro _
  refine ⟨w.heap.size, 0, rfl, fun i hi => ?_⟩
  rw [cell_of_row _ w.heap.size (0 + i) _ 5 m (heap_alloc_new w _), Nat.zero_add]
  simp [List.getD_eq_getElem?_getD, hi]
set_option maxHeartbeats 4000000 in
theorem rsecrets_any (s : Sv) (cs : List Int) (w : World) (hk : In w s cs) :
    Calls Try.prog 11 #[.slice s.a s.n s.c] w fun e w' => ∃ x y : Sv, e = .returned (.tuple #[.slice x.a x.n x.c, .slice y.a y.n y.c, .int .i64 (e20 s.n)]) ∧ Q w w' ∧ Row w' x (if20 cs (cliL cs)) ∧ Row w' y (if20 cs (srvL cs)) := by
  obtain ⟨ka, kn, kc⟩ := s
  have HK := hid hk
  have HL := hid hk.l
  clear hk
  dsimp only at *
  by_cases h : kn ≤ 20
  · rw [show e20 kn = 0 from by unfold e20; rw [if_pos h], show if20 cs (cliL cs) = cliL cs from by unfold if20; rw [if_pos (by rw [HL.out]; exact h)], show if20 cs (srvL cs) = srvL cs from by unfold if20; rw [if_pos (by rw [HL.out]; exact h)]]
    go_enter Try.func11, Try.ntmps11
    have kcv := Lib.run_convert_bytes_const (P := Try.prog) w 22 5 (u8s tiL).toArray 16 16 Try.underlying22 Try.underlying5
    rw [show (u8s tiL).toArray = #[.int .u8 116, .int .u8 117, .int .u8 114, .int .u8 110, .int .u8 112, .int .u8 105, .int .u8 107, .int .u8 101, .int .u8 32, .int .u8 105, .int .u8 110, .int .u8 105, .int .u8 116, .int .u8 105, .int .u8 97, .int .u8 108] from rfl] at kcv
    have h20 : decide ((20 : Int) < (kn : Int)) = false := by simp; omega
    go_wp2_with fail
    generalize hw1 : World.alloc (World.alloc w _) _ = w1
    have Q1 := hid (show Q w w1 from by rw [← hw1]; exact ((Q.refl w).alloc _).alloc _)
    have I1 := hid (show In w1 ⟨some ⟨w.heap.size, 0, none⟩, 16, 16⟩ tiL from ⟨by rw [← hw1]; exact (seg_litm w tiL (16, 17)).q ((Q.refl _).alloc _), rfl, tiL_lt⟩)
    have C1 := hid (show ∀ j, j < 2 → w1.cell? ⟨w.heap.size + 1, j, none⟩ = some (.slice (two (⟨some ⟨w.heap.size, 0, none⟩, 16, 16⟩ : Sv) ⟨ka, kn, kc⟩ j).a (two (⟨some ⟨w.heap.size, 0, none⟩, 16, 16⟩ : Sv) ⟨ka, kn, kc⟩ j).n (two (⟨some ⟨w.heap.size, 0, none⟩, 16, 16⟩ : Sv) ⟨ka, kn, kc⟩ j).c) from by
      intro j hj
      have hs : (w.alloc (.cells (u8s tiL).toArray 5 (16, 17))).heap.size = w.heap.size + 1 := by simp
      have := cell_lit (w.alloc (.cells (u8s tiL).toArray 5 (16, 17))) #[.slice (some ⟨w.heap.size, 0, none⟩) 16 16, .slice ka kn kc] 22 j
      rw [hs] at this
      rw [← hw1]
      refine this.trans ?_
      rcases (show j = 0 ∨ j = 1 by omega) with rfl | rfl <;> rfl)
    clear hw1
    have HT := hid (show (cat (two tiL cs) 2).length ≤ 1000000 from by
      show ([] ++ tiL ++ cs).length ≤ 1000000
      rw [List.nil_append, List.length_append, HL.out, show tiL.length = 16 from rfl]; omega)
    have HZ := hid (show ∀ j, j < 2 → Seg w1 (two (⟨some ⟨w.heap.size, 0, none⟩, 16, 16⟩ : Sv) ⟨ka, kn, kc⟩ j).a (two tiL cs j) ∧ (two tiL cs j).length = (two (⟨some ⟨w.heap.size, 0, none⟩, 16, 16⟩ : Sv) ⟨ka, kn, kc⟩ j).n from by
      intro j hj
      rcases (show j = 0 ∨ j = 1 by omega) with rfl | rfl
      · exact ⟨I1.out.s, I1.out.l⟩
      · exact ⟨HK.out.s.q Q1.out, HL.out⟩)
    refine (join_any (w.heap.size + 1) 2 2 (two ⟨some ⟨w.heap.size, 0, none⟩, 16, 16⟩ ⟨ka, kn, kc⟩) (two tiL cs) w1 C1.out HZ.out (by omega) HT.out).mono ?_
    rintro e w2 ⟨⟨xa, xn, xc⟩, rfl, q2, r2, n2⟩
    have Q2 := hid (Q1.out.trans q2)
    have R2 := hid (show Row w2 ⟨xa, xn, xc⟩ (tiL ++ cs) from r2)
    have hxn : xn ≤ 36 := by have h1 := Row.len R2.out; rw [List.length_append, HL.out, show tiL.length = 16 from rfl] at h1; dsimp only at h1; omega
    clear q2 r2 n2 I1 Q1 C1 HT HZ
    go_wp2_with fail
    refine (rdigest_any xa xn xc (tiL ++ cs) w2 (Row.len R2.out) (by omega) (By.app tiL_lt HK.out.z) R2.out.seg).mono ?_
    rintro e w3 ⟨gd, rfl, q3, r3, l3⟩
    have Q3 := hid (Q2.out.trans q3)
    have I3 := hid (row_in r3 (dg_lt _))
    clear q3 R2 Q2 r3 l3
    have HC := hid (show cliL cs = exL (dg (tiL ++ cs)) (sb ⟨#[99, 108, 105, 101, 110, 116, 32, 105, 110]⟩) 16 from rfl)
    have HS := hid (show srvL cs = exL (dg (tiL ++ cs)) (sb ⟨#[115, 101, 114, 118, 101, 114, 32, 105, 110]⟩) 16 from rfl)
    have HDG := hid (Eq.refl (dg (tiL ++ cs)))
    generalize dg (tiL ++ cs) = ts at *
    go_wp2_with fail
    refine (rnext_c ⟨some ⟨gd, 0, none⟩, 16, 16⟩ ts ⟨#[99, 108, 105, 101, 110, 116, 32, 105, 110]⟩ 16 w3 I3.out (by show 16 ≤ _; omega) (by decide) (by omega)).mono ?_
    rintro e wc ⟨⟨ca, cn, cc⟩, rfl, qc, rc⟩
    have QC := hid qc
    have RC := hid rc
    clear qc rc
    go_wp2_with fail
    refine (rnext_c ⟨some ⟨gd, 0, none⟩, 16, 16⟩ ts ⟨#[115, 101, 114, 118, 101, 114, 32, 105, 110]⟩ 16 wc (I3.out.q QC.out) (by show 16 ≤ _; omega) (by decide) (by omega)).mono ?_
    rintro e ws ⟨⟨sa, sn, sc⟩, rfl, qs, rs⟩
    have QS := hid qs
    have RS := hid rs
    clear qs rs
    go_wp2
    go_ret3
    exact ⟨⟨ca, cn, cc⟩, ⟨sa, sn, sc⟩, rfl, (Q3.out.trans QC.out).trans QS.out, by rw [HC.out]; exact RC.out.q QS.out, by rw [HS.out]; exact RS.out⟩
  · rw [show e20 kn = 70 from by unfold e20; rw [if_neg h], show if20 cs (cliL cs) = [] from by unfold if20; rw [if_neg (by rw [HL.out]; exact h)], show if20 cs (srvL cs) = [] from by unfold if20; rw [if_neg (by rw [HL.out]; exact h)]]
    go_enter Try.func11, Try.ntmps11
    go_wp2
    go_ret3
    exact ⟨nilS, nilS, rfl, Q.refl _, sub_nil _ _ _, sub_nil _ _ _⟩
set_option maxHeartbeats 4000000 in
theorem secrets_any (s : Sv) (cs : List Int) (w : World) (hk : In w s cs) :
    Calls Try.prog 9 #[.slice s.a s.n s.c] w fun e w' => ∃ x y : Sv, e = .returned (.tuple #[.slice x.a x.n x.c, .slice y.a y.n y.c, .int .i64 (e20 s.n)]) ∧ Q w w' ∧ Row w' x (if20 cs (cliL cs)) ∧ Row w' y (if20 cs (srvL cs)) := by
  obtain ⟨ka, kn, kc⟩ := s
  have HK := hid hk
  have HL := hid hk.l
  clear hk
  dsimp only at *
  by_cases h : kn ≤ 20
  · rw [show e20 kn = 0 from by unfold e20; rw [if_pos h], show if20 cs (cliL cs) = cliL cs from by unfold if20; rw [if_pos (by rw [HL.out]; exact h)], show if20 cs (srvL cs) = srvL cs from by unfold if20; rw [if_pos (by rw [HL.out]; exact h)]]
    go_enter Try.func9, Try.ntmps9
    have kcv := Lib.run_convert_bytes_const (P := Try.prog) w 22 5 (u8s tiL).toArray 16 16 Try.underlying22 Try.underlying5
    rw [show (u8s tiL).toArray = #[.int .u8 116, .int .u8 117, .int .u8 114, .int .u8 110, .int .u8 112, .int .u8 105, .int .u8 107, .int .u8 101, .int .u8 32, .int .u8 105, .int .u8 110, .int .u8 105, .int .u8 116, .int .u8 105, .int .u8 97, .int .u8 108] from rfl] at kcv
    have h20 : decide ((20 : Int) < (kn : Int)) = false := by simp; omega
    go_wp2_with fail
    generalize hw1 : World.alloc (World.alloc w _) _ = w1
    have Q1 := hid (show Q w w1 from by rw [← hw1]; exact ((Q.refl w).alloc _).alloc _)
    have I1 := hid (show In w1 ⟨some ⟨w.heap.size, 0, none⟩, 16, 16⟩ tiL from ⟨by rw [← hw1]; exact (seg_litm w tiL (16, 17)).q ((Q.refl _).alloc _), rfl, tiL_lt⟩)
    have C1 := hid (show ∀ j, j < 2 → w1.cell? ⟨w.heap.size + 1, j, none⟩ = some (.slice (two (⟨some ⟨w.heap.size, 0, none⟩, 16, 16⟩ : Sv) ⟨ka, kn, kc⟩ j).a (two (⟨some ⟨w.heap.size, 0, none⟩, 16, 16⟩ : Sv) ⟨ka, kn, kc⟩ j).n (two (⟨some ⟨w.heap.size, 0, none⟩, 16, 16⟩ : Sv) ⟨ka, kn, kc⟩ j).c) from by
      intro j hj
      have hs : (w.alloc (.cells (u8s tiL).toArray 5 (16, 17))).heap.size = w.heap.size + 1 := by simp
      have := cell_lit (w.alloc (.cells (u8s tiL).toArray 5 (16, 17))) #[.slice (some ⟨w.heap.size, 0, none⟩) 16 16, .slice ka kn kc] 22 j
      rw [hs] at this
      rw [← hw1]
      refine this.trans ?_
      rcases (show j = 0 ∨ j = 1 by omega) with rfl | rfl <;> rfl)
    clear hw1
    have HT := hid (show (cat (two tiL cs) 2).length ≤ 1000000 from by
      show ([] ++ tiL ++ cs).length ≤ 1000000
      rw [List.nil_append, List.length_append, HL.out, show tiL.length = 16 from rfl]; omega)
    have HZ := hid (show ∀ j, j < 2 → Seg w1 (two (⟨some ⟨w.heap.size, 0, none⟩, 16, 16⟩ : Sv) ⟨ka, kn, kc⟩ j).a (two tiL cs j) ∧ (two tiL cs j).length = (two (⟨some ⟨w.heap.size, 0, none⟩, 16, 16⟩ : Sv) ⟨ka, kn, kc⟩ j).n from by
      intro j hj
      rcases (show j = 0 ∨ j = 1 by omega) with rfl | rfl
      · exact ⟨I1.out.s, I1.out.l⟩
      · exact ⟨HK.out.s.q Q1.out, HL.out⟩)
    refine (concat_any (w.heap.size + 1) 2 2 (two ⟨some ⟨w.heap.size, 0, none⟩, 16, 16⟩ ⟨ka, kn, kc⟩) (two tiL cs) w1 C1.out HZ.out (by omega) HT.out).mono ?_
    rintro e w2 ⟨⟨xa, xn, xc⟩, rfl, q2, r2, n2⟩
    have Q2 := hid (Q1.out.trans q2)
    have R2 := hid (show Row w2 ⟨xa, xn, xc⟩ (tiL ++ cs) from r2)
    have hxn : xn ≤ 36 := by have h1 := Row.len R2.out; rw [List.length_append, HL.out, show tiL.length = 16 from rfl] at h1; dsimp only at h1; omega
    clear q2 r2 n2 I1 Q1 C1 HT HZ
    go_wp2_with fail
    refine (digest_any xa xn xc (tiL ++ cs) w2 (Row.len R2.out) (by omega) (By.app tiL_lt HK.out.z) R2.out.seg).mono ?_
    rintro e w3 ⟨rfl, q3⟩
    have Q3 := hid (Q2.out.trans q3)
    have HDL := hid (dg_len (tiL ++ cs))
    have HDZ := hid (dg_lt (tiL ++ cs))
    have HC := hid (show cliL cs = exL (dg (tiL ++ cs)) (sb ⟨#[99, 108, 105, 101, 110, 116, 32, 105, 110]⟩) 16 from rfl)
    have HS := hid (show srvL cs = exL (dg (tiL ++ cs)) (sb ⟨#[115, 101, 114, 118, 101, 114, 32, 105, 110]⟩) 16 from rfl)
    clear q3 R2 Q2
    generalize dg (tiL ++ cs) = ts at *
    go_wp2_with (refine wpList_store_row rfl 75 _ _ rfl w3.heap.size (u8s ts).toArray rfl rfl 75 _ (heap_alloc_new w3 _) (arr_info _ HDL.out) (arr_sizes (List.replicate 16 0) _ rfl HDL.out) (arr_one _) ?_; refine Hid.out ?_)
    refine hid ?_
    generalize hw4 : World.setRow _ _ _ = w4
    have Q4 := hid (show Q w3 w4 from by
      have k4 : Keep (fun i => i = w3.heap.size) w3 w4 := by rw [← hw4]; exact ((Keep.refl (fun i => i = w3.heap.size) w3).alloc _).setRow _ _ (.inl rfl)
      exact k4.below (Q.refl _) (Nat.le_refl _) (fun i e => by omega))
    have T4 := hid (show w4.heap[w3.heap.size]? = some (.cells (u8s ts).toArray 75 (0, 0)) from by rw [← hw4]; exact setRow_heap _ _ _ _ 75 _ (heap_alloc_new w3 _))
    clear hw4
    generalize w3.heap.size = tg at *
    have I4 := hid (show In w4 ⟨some ⟨tg, 0, none⟩, 16, 16⟩ ts from ⟨seg_arr T4.out, HDL.out, HDZ.out⟩)
    have CE := hid (fun u (hu : Q w4 u) (s : ByteArray) (hs : s.size ≤ 255) => expand_ok ⟨some ⟨tg, 0, none⟩, 16, 16⟩ ts s 16 u (I4.out.q hu) (by show 16 ≤ _; omega) hs (by omega))
    have s1 : Q w4 w4 := Q.refl _
    go_wp2
    go_region_held3 (fun u => Q w4 u) (repeat (first | (with_reducible assumption) | (with_reducible apply Q.drew) | (with_reducible apply Q.drewN)))
      (first
        | (go_at_call 32; have t_ := qc; clear t_; refine (CE.out _ (by repeat (first | (with_reducible assumption) | (with_reducible exact Q.refl _) | (with_reducible apply Q.drew) | (with_reducible apply Q.drewN) | (with_reducible apply Q.alloc))) _ (by decide)).mono ?_; rintro e ws ⟨⟨sa, sn, sc⟩, rfl, qs, rs⟩; have js : Q w4 ws := Q.trans (by repeat (first | (with_reducible assumption) | (with_reducible exact Q.refl _) | (with_reducible apply Q.drew) | (with_reducible apply Q.drewN) | (with_reducible apply Q.alloc))) qs)
        | (go_at_call 32; refine (CE.out _ (by repeat (first | (with_reducible assumption) | (with_reducible exact Q.refl _) | (with_reducible apply Q.drew) | (with_reducible apply Q.drewN) | (with_reducible apply Q.alloc))) _ (by decide)).mono ?_; rintro e wc ⟨⟨ca, cn, cc⟩, rfl, qc, rc⟩; have jc : Q w4 wc := Q.trans (by repeat (first | (with_reducible assumption) | (with_reducible exact Q.refl _) | (with_reducible apply Q.drew) | (with_reducible apply Q.drewN) | (with_reducible apply Q.alloc))) qc))
    all_goals (
      have RC := hid (rc.q (show Q wc ws from (by repeat (first | (with_reducible assumption) | (with_reducible exact Q.refl _) | (with_reducible apply Q.drew) | (with_reducible apply Q.drewN) | (with_reducible refine Q.trans ?_ qs) | (with_reducible apply Q.alloc)))))
      have RS := hid rs
      have JS := hid js
      clear rc rs jc js qc qs s1
      go_wp2
      go_ret3
      refine ⟨⟨ca, cn, cc⟩, ⟨sa, sn, sc⟩, rfl, ?_, ?_, ?_⟩
      · exact (Q3.out.trans Q4.out).trans JS.out
      · rw [HC.out]; exact RC.out
      · rw [HS.out]; exact RS.out)
  · rw [show e20 kn = 70 from by unfold e20; rw [if_neg h], show if20 cs (cliL cs) = [] from by unfold if20; rw [if_neg (by rw [HL.out]; exact h)], show if20 cs (srvL cs) = [] from by unfold if20; rw [if_neg (by rw [HL.out]; exact h)]]
    go_enter Try.func9, Try.ntmps9
    go_wp2
    go_ret3
    exact ⟨nilS, nilS, rfl, Q.refl _, sub_nil _ _ _, sub_nil _ _ _⟩
end Go.Proofs.Ytihmlfpfpadfpaa
