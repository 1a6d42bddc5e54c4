/-
  What frame.withLength, leadingItems, lastItems and streamHead do: contracts that the statements' walks use.
-/
import Derived.Test.YtdoodbaogmdloabNumb
namespace Go.Proofs.Ytdoodbaogmdloab
open Go.RowKit
set_option linter.unusedVariables false
set_option maxRecDepth 20000

theorem segN_new (w : World) (l : List Int) : SegN (w.alloc (.cells (l.map (Value.int .i64)).toArray 3)) (some ⟨w.heap.size, 0, none⟩) l := by
  intro _
  refine ⟨w.heap.size, 0, rfl, fun i hi => ?_⟩
  rw [cell_of_row _ w.heap.size (0 + i) _ 3 (0, 0) (heap_alloc_new w _), Nat.zero_add]
  simp [List.getD_eq_getElem?_getD, hi]

theorem nums_lit (l : List Int) (m : Nat) (w : World) (hm : l.length = m) (hb : m ≤ 1000) :
    Calls Try.prog 27 #[.slice (some ⟨w.heap.size, 0, none⟩) m m] (w.alloc (.cells (l.map (Value.int .i64)).toArray 3)) fun e w' => ∃ x : Sv, e = .returned (.slice x.a x.n x.c) ∧ Q w w' ∧ Row w' x (forms l) ∧ New w.heap.size x := by
  refine (numbers_any _ m m l _ hm (segN_new w l) hb).mono ?_
  rintro e w' ⟨x, rfl, hq, hr, hn⟩
  exact ⟨x, rfl, ((Q.refl w).alloc _).trans hq, hr, hn.mono (by simp)⟩

/-- A slice's value. -/
abbrev Sv.v (p : Sv) : Value := .slice p.a p.n p.c

def pick3 {α : Type} (x y z : α) (j : Nat) : α := if j = 0 then x else if j = 1 then y else z

theorem join2_any (p q : Sv) (x y : List Int) (w : World) (hx : Seg w p.a x) (lx : x.length = p.n) (hy : Seg w q.a y) (ly : y.length = q.n) (ht : p.n + q.n ≤ 1000000) :
    Calls Try.prog 26 #[.slice (some ⟨w.heap.size, 0, none⟩) 2 2] (w.alloc (.cells #[.slice p.a p.n p.c, .slice q.a q.n q.c] 22)) fun e w' => ∃ r : Sv, e = .returned (.slice r.a r.n r.c) ∧ Q w w' ∧ Row w' r (x ++ y) ∧ New w.heap.size r := by
  have hq : Q w (w.alloc (.cells #[.slice p.a p.n p.c, .slice q.a q.n q.c] 22)) := (Q.refl w).alloc _
  refine (join_any w.heap.size 2 2 (pick3 p q q) (pick3 x y y) _ ?_ ?_ (by omega) ?_).mono ?_
  · intro j hj
    rw [cell_of_row _ w.heap.size j _ 22 (0, 0) (heap_alloc_new w _)]
    obtain rfl | rfl : j = 0 ∨ j = 1 := by omega
    all_goals rfl
  · intro j hj
    obtain rfl | rfl : j = 0 ∨ j = 1 := by omega
    · exact ⟨hx.q hq, lx⟩
    · exact ⟨hy.q hq, ly⟩
  · show ([] ++ x ++ y).length ≤ 1000000
    simp [lx, ly]; exact ht
  · rintro e w' ⟨r, rfl, h1, h2, h3⟩
    exact ⟨r, rfl, hq.trans h1, h2, h3.mono (by simp)⟩

theorem join3_any (p q s : Sv) (x y z : List Int) (w : World) (hx : Seg w p.a x) (lx : x.length = p.n) (hy : Seg w q.a y) (ly : y.length = q.n) (hz : Seg w s.a z) (lz : z.length = s.n) (ht : p.n + q.n + s.n ≤ 1000000) :
    Calls Try.prog 26 #[.slice (some ⟨w.heap.size, 0, none⟩) 3 3] (w.alloc (.cells #[.slice p.a p.n p.c, .slice q.a q.n q.c, .slice s.a s.n s.c] 22)) fun e w' => ∃ r : Sv, e = .returned (.slice r.a r.n r.c) ∧ Q w w' ∧ Row w' r (x ++ y ++ z) ∧ New w.heap.size r := by
  have hq : Q w (w.alloc (.cells #[.slice p.a p.n p.c, .slice q.a q.n q.c, .slice s.a s.n s.c] 22)) := (Q.refl w).alloc _
  refine (join_any w.heap.size 3 3 (pick3 p q s) (pick3 x y z) _ ?_ ?_ (by omega) ?_).mono ?_
  · intro j hj
    rw [cell_of_row _ w.heap.size j _ 22 (0, 0) (heap_alloc_new w _)]
    obtain rfl | rfl | rfl : j = 0 ∨ j = 1 ∨ j = 2 := by omega
    all_goals rfl
  · intro j hj
    obtain rfl | rfl | rfl : j = 0 ∨ j = 1 ∨ j = 2 := by omega
    · exact ⟨hx.q hq, lx⟩
    · exact ⟨hy.q hq, ly⟩
    · exact ⟨hz.q hq, lz⟩
  · show ([] ++ x ++ y ++ z).length ≤ 1000000
    simp [lx, ly, lz]; omega
  · rintro e w' ⟨r, rfl, h1, h2, h3⟩
    exact ⟨r, rfl, hq.trans h1, h2, h3.mono (by simp)⟩

set_option maxHeartbeats 1000000 in
theorem withLength_any (d : Sv) (zs : List Int) (w : World) (hs : Seg w d.a zs) (hl : zs.length = d.n) (hn : d.n ≤ 20000) :
    Calls Try.prog 30 #[.slice d.a d.n d.c] w fun e w' => ∃ r : Sv, e = .returned (.slice r.a r.n r.c) ∧ Q w w' ∧ Row w' r (form zs.length ++ zs) ∧ New w.heap.size r := by
  have HS := hid hs
  have HL := hid hl
  have h8 := hid (form_len8 zs.length)
  clear hs hl
  go_enter Try.func30, Try.ntmps30
  go_wp2_with fail
  refine (nums_lit [(d.n : Int)] 1 w rfl (by omega)).mono ?_
  rintro e w1 ⟨⟨xa, xn, xc⟩, rfl, hq, hr, hnew⟩
  rw [show forms [(d.n : Int)] = form zs.length from by rw [HL.out]; simp [forms]] at hr
  have HQ := hid hq
  have HR := hid hr
  clear hq hr hnew
  go_wp2_with fail
  refine (join2_any ⟨xa, xn, xc⟩ d (form zs.length) zs w1 HR.out.seg (Row.len HR.out) (HS.out.q HQ.out) HL.out (by have := Row.len HR.out; have := h8.out; dsimp only at *; omega)).mono ?_
  rintro e w2 ⟨⟨ya, yn, yc⟩, rfl, hq2, hr2, hn2⟩
  have HQ2 := hid (HQ.out.trans hq2)
  have HR2 := hid hr2
  have HN2 := hid (New.mono hn2 HQ.out.size)
  clear hq2 hr2 hn2
  go_wp2
  go_ret
  exact ⟨⟨ya, yn, yc⟩, rfl, HQ2.out, HR2.out, HN2.out⟩

/-- The numbers that are a frame's first items. -/
def leads (f : Fr) : List Int := (lead f.kind).map (fget f)

set_option maxHeartbeats 1600000 in
theorem leadingItems_any (f : Fr) (d c s : Sv) (w : World) : Calls Try.prog 31 #[fv f d c s] w fun e w' => ∃ r : Sv, e = .returned (.slice r.a r.n r.c) ∧ Q w w' ∧ Row w' r (forms (leads f)) ∧ New w.heap.size r := by
  obtain ⟨M, hM⟩ : ∃ M, (lead f.kind).length = M := ⟨_, rfl⟩
  have hMle : M ≤ 3 := by
    rw [← hM]
    rcases lead_cases f.kind with e | e
    · rw [e]; simp
    · rcases e with e | e | e | e | e | e | e | e | e | e | e | e | e | e | e | e
      all_goals (rw [e]; decide)
  go_enter Try.func31, Try.ntmps31
  go_wp2_with fail
  refine (leading_any w.heap.size f.kind _ (by simp [go_sem])).mono ?_
  rintro e w1 ⟨a, rfl, hq, hp⟩
  have hq1 : Q w w1 := ((Q.refl w).alloc _).trans hq
  have hbx : Box w1 34 w.heap.size f d c s := Box.q (w := w.alloc _) (heap_alloc_new w _) hq
  have HP := hid hp
  have HB := hid hbx
  have HQ := hid hq1
  have HM := hid hM
  rw [hM]
  clear hp hbx hq1 hq hM
  go_wp2
  go_loopw [3, 8] (fun it i wr => Q w1 wr ∧ ∃ (j : Nat) (x : Sv), j ≤ M ∧ i = .int .i64 j ∧ it = .slice x.a x.n x.c ∧ Row wr x (forms ((leads f).take j)) ∧ New w.heap.size x) (fun _ i _ => ((M : Int) - intOf i).toNat)
  case atStart => exact ⟨Q.refl _, 0, ⟨none, 0, 0⟩, Nat.zero_le _, rfl, rfl, by simp [forms]; exact sub_nil _ _ _, by intro b hb; cases hb⟩
  case round =>
    obtain ⟨hqr, j, ⟨xa, xn, xc⟩, hj, rfl, rfl, hr, hnew⟩ := hrel
    have HQR := hid hqr
    have HR := hid hr
    have HN := hid hnew
    clear hqr hr hnew
    by_cases hjm : j < M
    · obtain ⟨g, rfl, _, hc⟩ := ptr_cell HP.out (j := j) (by rw [HM.out]; exact hjm)
      have hmem : (lead f.kind).getD j 0 ∈ lead f.kind := by
        rw [List.getD_eq_getElem?_getD, List.getElem?_eq_getElem (by rw [HM.out]; exact hjm)]; exact List.getElem_mem _
      have hv := (HB.out.q HQR.out).num hmem
      rw [← HQR.out.cell (lt_of_cell hc)] at hc
      have HF := hid (show forms ((leads f).take (j + 1)) = forms ((leads f).take j) ++ form (fget f ((lead f.kind).getD j 0)) from by
        rw [forms_snoc (by simp [leads]; rw [HM.out]; exact hjm)]
        congr 2
        simp [leads, List.getD_eq_getElem?_getD, List.getElem?_map, List.getElem?_eq_getElem (show j < (lead f.kind).length by rw [HM.out]; exact hjm)])
      have hxl := forms_len ((leads f).take j)
      have hxl2 := Row.len HR.out
      have h8 := form_len8 (fget f ((lead f.kind).getD j 0))
      rw [List.length_take] at hxl
      have HLN := hid (show xn ≤ 24 from by dsimp only at hxl2; omega)
      have H8 := hid h8
      generalize (lead f.kind).getD j 0 = o at *
      have hji : (j : Int) < (M : Int) := by omega
      generalize fget f o = z at *
      clear hmem hxl hxl2 h8
      go_wp2_with fail
      refine (nums_lit [z] 1 wr rfl (by omega)).mono ?_
      rintro e w2 ⟨⟨ya, yn, yc⟩, rfl, hq2, hr2, hn2⟩
      rw [show forms [z] = form z from by simp [forms]] at hr2
      have HQ2 := hid hq2
      have HR2 := hid hr2
      clear hq2 hr2 hn2 hc hv
      go_wp2_with fail
      refine (join2_any ⟨xa, xn, xc⟩ ⟨ya, yn, yc⟩ _ _ w2 (HR.out.seg.q HQ2.out) (Row.len HR.out) HR2.out.seg (Row.len HR2.out) (by have := Row.len HR2.out; have := H8.out; have := HLN.out; dsimp only at *; omega)).mono ?_
      rintro e w3 ⟨⟨ta, tn, tc⟩, rfl, hq3, hr3, hn3⟩
      have HQ3 := hid (HQR.out.trans (HQ2.out.trans hq3))
      have HR3 := hid hr3
      have HN3 := hid (New.mono hn3 (show w.heap.size ≤ w2.heap.size from Nat.le_trans HQ.out.size (Nat.le_trans HQR.out.size HQ2.out.size)))
      clear hq3 hr3 hn3
      go_wp2
      go_roundw
      case rel => exact ⟨HQ3.out, j + 1, ⟨ta, tn, tc⟩, by omega, by go_num, rfl, by rw [HF.out]; exact HR3.out, HN3.out⟩
      case measure => simp [intOf]; omega
    · have hji : ¬ (j : Int) < (M : Int) := by omega
      go_wp2
      go_ret
      exact ⟨⟨xa, xn, xc⟩, rfl, HQ.out.trans HQR.out, by have := HR.out; rwa [List.take_of_length_le (by simp [leads]; rw [HM.out]; omega)] at this, HN.out⟩
end Go.Proofs.Ytdoodbaogmdloab
