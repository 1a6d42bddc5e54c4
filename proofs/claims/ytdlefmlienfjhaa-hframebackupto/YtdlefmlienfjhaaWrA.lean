/-
  What hframe's Frame, PutSettings and PutGoaway answer: contracts that the statements' walks use.
-/
import Derived.Test.YtdlefmlienfjhaaCct
import Derived.Test.YtdlefmlienfjhaaPut
import Derived.Test.YtdlefmlienfjhaaWrM
import Derived.Deep.Cut
import Derived.Deep.CutRange
namespace Go.Proofs.Ytdlefmlienfjhaa
open Go.RowKit
set_option linter.unusedVariables false
set_option maxRecDepth 20000

theorem row_new {w : World} {x : Sv} {zs : List Int} (h : Row w x zs) : zs.length = x.n := Row.len h
theorem take_flat {zs : List Int} {k : Nat} (h : k < zs.length) : (zs.take (k + 1)).flatMap form = (zs.take k).flatMap form ++ form (zs.getD k 0) := by
  rw [take_snoc zs k h, List.flatMap_append]
  simp
theorem Own.blk_ge {w : World} {base : Nat} {g n cap : Nat} {zs : List Int} (h : Own w base (some ⟨g, 0, none⟩) n cap zs) : base ≤ g := (World.ownsRow.lt h g rfl).1
set_option maxHeartbeats 8000000 in
theorem numbers_any (a : Option Addr) (m c : Nat) (zs : List Int) (w : World) (hl : zs.length = m) (hm : m ≤ 100) (hs : SegN w a zs) :
    Calls Try.prog 34 #[.slice a m c] w fun e w' => ∃ y : Sv, e = .returned (.tuple #[.slice y.a y.n y.c, .int .i64 (nmE zs)]) ∧ Q w w' ∧ Row w' y (nmB zs) ∧ New w.heap.size y := by
  have HL := hid hl
  have HS := hid hs
  clear hl hs
  go_enter Try.func34, Try.ntmps34
  go_wp2
  go_loopw [4, 11] (fun bv iv wr => Q w wr ∧ ∃ (k : Nat) (x : Sv), k ≤ m ∧ iv = .int .i64 k ∧ bv = .slice x.a x.n x.c ∧ Row wr x ((zs.take k).flatMap form) ∧ New w.heap.size x ∧ ∀ n ∈ zs.take k, okN n) (fun _ iv _ => ((m : Int) - intOf iv).toNat)
  case atStart => exact ⟨Q.refl _, 0, nilS, Nat.zero_le _, rfl, rfl, sub_nil _ _ _, new_nil _, by simp⟩
  case round =>
    obtain ⟨hq, k, ⟨xa, xn, xc⟩, hk, rfl, rfl, hr, hnew, hok⟩ := hrel
    have HQ := hid hq
    have HR := hid hr
    have HN := hid hnew
    have HK := hid hok
    clear hq hr hnew hok
    by_cases hkm : k < m
    · have hki : (k : Int) < (m : Int) := by omega
      have hzl := HL.out
      obtain ⟨b, off, rfl, hcell⟩ := HS.out (by intro e; rw [e] at hzl; simp at hzl; omega)
      have hc0 := hcell k (by omega)
      have hc : wr.cell? ⟨b, off + k, none⟩ = some (.int .i64 (zs.getD k 0)) := (HQ.out.cell (lt_of_cell hc0)).trans hc0
      have HT := hid (take_flat (zs := zs) (k := k) (by omega))
      have HM := hid (show zs.getD k 0 ∈ zs from by rw [List.getD_eq_getElem?_getD, List.getElem?_eq_getElem (by omega)]; simp)
      have HTS := hid (take_snoc zs k (by omega))
      have hfl := flat_len (zs.take k)
      have hxl : ((zs.take k).flatMap form).length = xn := Row.len HR.out
      rw [List.length_take] at hfl
      clear hcell hc0 hzl
      generalize zs.getD k 0 = n at *
      by_cases hn : n < 0 ∨ 4611686018427387903 < n
      · have HP := hid (put_no n wr hn)
        have HE := hid (nmE_no HM.out (show ¬ okN n by omega))
        clear hn hfl hxl
        go_wp2_with (go_at_call 48; refine HP.out.mono ?_; rintro e w2 ⟨rfl, rfl⟩)
        go_ret2
        exact ⟨nilS, by rw [HE.out]; rfl, HQ.out, by rw [nmB_no HE.out]; exact sub_nil _ _ _, new_nil _⟩
      · have HP := hid (put_ok n wr (sz n) (by omega) (by omega) (hid rfl))
        have hsz := sz_le n
        generalize hS : sz n = s at *
        have HSZ := hid hS
        have HOK := hid (show okN n by omega)
        clear hn hS
        go_wp2_with (first
          | (go_at_call 48; refine HP.out.mono ?_; rintro e w2 ⟨g, rfl, q2, o2⟩; obtain ⟨⟨ya, yn, yc⟩, w3, hrun, hrow, hkp, hb⟩ := row_appendB (ty := 30) (d := ⟨xa, xn, xc⟩) (x := .slice (some ⟨g, 0, none⟩) s s) (m := s) (ys := form n) (Sub.q HR.out q2) (src_seg o2.seg (by rw [form_length]; exact HSZ.out)) (by show xn + s ≤ _; omega); have HX := hid (new_step rfl (HQ.out.trans q2) HN.out hkp hb); have HY := hid hrow; clear q2 o2 hrow hkp hb)
          | (at_builtin; refine Lib.wpList_append_run _ rfl _ _ _ _ rfl _ _ rfl rfl _ _ hrun ?_))
        go_roundw
        case rel => exact ⟨HX.out.1, k + 1, ⟨ya, yn, yc⟩, by omega, by go_num, rfl, by rw [HT.out]; exact HY.out, HX.out.2, by rw [HTS.out]; intro u hu; rcases List.mem_append.1 hu with hu | hu; exact HK.out u hu; simp at hu; subst hu; exact HOK.out⟩
        case measure => simp [intOf]; omega
    · obtain rfl : k = m := by omega
      have hki : ¬ (k : Int) < (k : Int) := by omega
      have ht : zs.take k = zs := List.take_of_length_le (by rw [HL.out]; exact Nat.le_refl _)
      rw [ht] at HR HK
      have HE := hid (nmE_ok HK.out)
      have HB := hid (nmB_ok HK.out)
      clear ht
      go_wp2
      go_ret2
      exact ⟨⟨xa, xn, xc⟩, by rw [HE.out]; rfl, HQ.out, by rw [HB.out]; exact HR.out, HN.out⟩
theorem segN_lit2 (w : World) (x y : Int) : SegN (w.alloc (.cells #[.int .i64 x, .int .i64 y] 3)) (some ⟨w.heap.size, 0, none⟩) [x, y] := by
  intro _
  refine ⟨w.heap.size, 0, rfl, fun i hi => ?_⟩
  rw [cell_of_row _ _ _ _ 3 (0, 0) (heap_alloc_new w _)]
  rcases (show i = 0 ∨ i = 1 by simp at hi; omega) with rfl | rfl <;> rfl
theorem segN_lit1 (w : World) (x : Int) : SegN (w.alloc (.cells #[.int .i64 x] 3)) (some ⟨w.heap.size, 0, none⟩) [x] := by
  intro _
  refine ⟨w.heap.size, 0, rfl, fun i hi => ?_⟩
  rw [cell_of_row _ _ _ _ 3 (0, 0) (heap_alloc_new w _)]
  rcases (show i = 0 by simp at hi; omega) with rfl
  rfl
theorem nm_two {k : Int} {n : Nat} (hn : n ≤ 140737488355328) : nmE [k, (n : Int)] = (if ¬ okN k then 10 else 0) ∧ (okN k → nmB [k, (n : Int)] = form k ++ form (n : Int)) := by
  by_cases h : okN k
  · have ha : ∀ u ∈ [k, (n : Int)], okN u := by intro u hu; simp at hu; rcases hu with rfl | rfl; exact h; exact ⟨by omega, by omega⟩
    refine ⟨by rw [nmE_ok ha, if_neg (fun x => x h)], fun _ => ?_⟩
    rw [nmB_ok ha]
    simp
  · exact ⟨by rw [nmE_no (n := k) (by simp) h, if_pos h], fun x => absurd x h⟩
set_option maxHeartbeats 8000000 in
theorem frame_any (k : Int) (a : Option Addr) (n c : Nat) (ps : List Int) (w : World) (hl : ps.length = n) (hn : n ≤ 140737488355328) (hs : Seg w a ps) :
    Calls Try.prog 20 #[.int .i64 k, .slice a n c] w fun e w' => ∃ y : Sv, e = .returned (.tuple #[.slice y.a y.n y.c, .int .i64 (frE k n)]) ∧ Q w w' ∧ Row w' y (frB k ps) ∧ New w.heap.size y := by
  have HL := hid hl
  have HS := hid hs
  have HNM := hid (numbers_any (some ⟨w.heap.size, 0, none⟩) 2 2 [k, (n : Int)] _ rfl (by decide) (segN_lit2 w k n))
  have hq0 : Q w (w.alloc (.cells #[.int .i64 k, .int .i64 (n : Int)] 3)) := (Q.refl w).alloc _
  have HQ0 := hid hq0
  have hs0 := hq0.size
  have hB : frB k ps = if frE k n = 0 then form k ++ (form n ++ ps) else [] := by unfold frB; rw [hl]
  rw [hB]
  obtain ⟨h1, h2⟩ := nm_two (k := k) hn
  rw [h1] at HNM
  clear hl hs hq0 hB h1
  by_cases hk : okN k
  · rw [if_neg (fun x => x hk), h2 hk] at HNM
    clear h2
    by_cases hb : 1048576 < n
    · have hE : frE k n = 52 := by unfold frE; rw [if_neg (fun x => x hk), if_pos hb]
      rw [hE, if_neg (by decide)]
      have hbi : (1048576 : Int) < (n : Int) := by omega
      clear hE hk
      go_enter Try.func20, Try.ntmps20
      go_wp2_with (go_at_call 34; refine HNM.out.mono ?_; rintro e w2 ⟨⟨ya, yn, yc⟩, rfl, q2, r2, n2⟩; have Q2 := hid (HQ0.out.trans q2); clear q2 r2 n2)
      go_ret2
      exact ⟨nilS, rfl, Q2.out, sub_nil _ _ _, new_nil _⟩
    · have hE : frE k n = 0 := by unfold frE; rw [if_neg (fun x => x hk), if_neg hb]
      rw [hE, if_pos rfl]
      have hbi : ¬ (1048576 : Int) < (n : Int) := by omega
      have hfl : (form k ++ form (n : Int)).length ≤ 16 := by rw [List.length_append, form_length, form_length]; have := sz_le k; have := sz_le (n : Int); omega
      clear hE hk
      go_enter Try.func20, Try.ntmps20
      go_wp2_with (first
        | (go_at_call 34; refine HNM.out.mono ?_; rintro e w2 ⟨⟨ya, yn, yc⟩, rfl, q2, r2, n2⟩; have Q2 := hid (HQ0.out.trans q2); have HC := hid (concat_two w2 ⟨ya, yn, yc⟩ ⟨a, n, c⟩ (form k ++ form (n : Int)) ps ⟨Row.seg r2, Row.len r2⟩ ⟨HS.out.q Q2.out, HL.out⟩ (by rw [HL.out]; omega)); clear q2 r2 n2)
        | (go_at_call 35; refine HC.out.mono ?_; rintro e w3 ⟨⟨za, zn, zc⟩, rfl, q3, r3, n3⟩; have X3 := hid (And.intro (Q2.out.trans q3) (And.intro r3 (n3.mono Q2.out.size))); clear q3 r3 n3))
      go_ret2
      exact ⟨⟨za, zn, zc⟩, rfl, X3.out.1, by rw [← List.append_assoc]; exact X3.out.2.1, X3.out.2.2⟩
  · rw [if_pos hk] at HNM
    have hE : frE k n = 10 := by unfold frE; rw [if_pos hk]
    rw [hE, if_neg (by decide)]
    clear hE hk h2
    go_enter Try.func20, Try.ntmps20
    go_wp2_with (go_at_call 34; refine HNM.out.mono ?_; rintro e w2 ⟨⟨ya, yn, yc⟩, rfl, q2, r2, n2⟩; have Q2 := hid (HQ0.out.trans q2); clear q2 r2 n2)
    go_ret2
    exact ⟨nilS, rfl, Q2.out, sub_nil _ _ _, new_nil _⟩
set_option maxHeartbeats 8000000 in
theorem frameof_any (k : Int) (a : Option Addr) (m c : Nat) (zs : List Int) (w : World) (hl : zs.length = m) (hm : m ≤ 100) (hs : SegN w a zs) (h4 : frE k (nmB zs).length = 0) :
    Calls Try.prog 36 #[.int .i64 k, .slice a m c] w fun e w' => ∃ y : Sv, e = .returned (.tuple #[.slice y.a y.n y.c, .int .i64 (nmE zs)]) ∧ Q w w' ∧ Row w' y (if nmE zs = 0 then frB k (nmB zs) else []) ∧ New w.heap.size y := by
  have HNM := hid (numbers_any a m c zs w hl hm hs)
  have hbl := nmB_len zs
  rw [hl] at hbl
  clear hl hs
  rcases nmE_two zs with h | h
  · rw [h] at HNM
    rw [h, if_pos rfl]
    clear h
    have H4 := hid h4
    clear h4
    go_enter Try.func36, Try.ntmps36
    go_wp2_with (first
      | (go_at_call 34; refine HNM.out.mono ?_; rintro e w2 ⟨⟨ya, yn, yc⟩, rfl, q2, r2, n2⟩; have Q2 := hid q2; have hyl : (nmB zs).length = yn := Row.len r2; have HF := hid (frame_any k ya yn yc (nmB zs) w2 hyl (by omega) (Row.seg r2)); have hE : frE k yn = 0 := (by rw [← hyl]; exact H4.out); rw [hE] at HF; clear q2 r2 n2 hE)
      | (go_at_call 20; refine HF.out.mono ?_; rintro e w3 ⟨⟨za, zn, zc⟩, rfl, q3, r3, n3⟩; have X3 := hid (And.intro (Q2.out.trans q3) (And.intro r3 (n3.mono Q2.out.size))); clear q3 r3 n3))
    go_ret2
    exact ⟨⟨za, zn, zc⟩, rfl, X3.out⟩
  · rw [h] at HNM
    rw [h, if_neg (by decide)]
    clear h h4
    go_enter Try.func36, Try.ntmps36
    go_wp2_with (go_at_call 34; refine HNM.out.mono ?_; rintro e w2 ⟨⟨ya, yn, yc⟩, rfl, q2, r2, n2⟩; have Q2 := hid q2; clear q2 r2 n2)
    go_ret2
    exact ⟨nilS, rfl, Q2.out, sub_nil _ _ _, new_nil _⟩
set_option maxHeartbeats 8000000 in
theorem goaway_any (n : Int) (w : World) : Calls Try.prog 24 #[.int .i64 n] w fun e w' => ∃ y : Sv, e = .returned (.tuple #[.slice y.a y.n y.c, .int .i64 (gaE n)]) ∧ Q w w' ∧ Row w' y (gaB n) ∧ New w.heap.size y := by
  have HF := hid (frameof_any 7 (some ⟨w.heap.size, 0, none⟩) 1 1 [n] _ rfl (by decide) (segN_lit1 w n) (fr7 n))
  have HQ0 := hid ((Q.refl w).alloc (.cells #[.int .i64 n] 3))
  unfold gaE gaB gaE
  generalize nmE [n] = E at *
  generalize (if E = 0 then frB 7 (nmB [n]) else []) = B at *
  go_enter Try.func24, Try.ntmps24
  go_wp2_with (go_at_call 36; refine HF.out.mono ?_; rintro e w2 ⟨⟨ya, yn, yc⟩, rfl, q2, r2, n2⟩; have X2 := hid (And.intro (HQ0.out.trans q2) (And.intro r2 (n2.mono HQ0.out.size))); clear q2 r2 n2)
  go_ret2
  exact ⟨⟨ya, yn, yc⟩, rfl, X2.out⟩
end Go.Proofs.Ytdlefmlienfjhaa
