/-
  What header.check, firstByte and shortest do: contracts that the statements' walks use.
-/
import Derived.Test.YtbhhajmfdffdbaaLong
namespace Go.Proofs.Ytbhhajmfdffdbaa
open Go.RowKit
set_option linter.unusedVariables false
set_option maxRecDepth 20000

/-- What Build refuses: the error's number, 0 if nothing. -/
def bldE (h : Hd) (width : Int) : Int :=
  if h.kind ≠ 1 ∧ h.kind ≠ 2 ∧ h.kind ≠ 3 ∧ h.kind ≠ 6 then 50 else if width < 1 ∨ 4 < width then 10
  else if 20 < h.dst.length ∨ (h.kind ≠ 6 ∧ 20 < h.src.length) then 61 else if h.kind = 1 ∧ 16384 < h.tok.length then 52
  else if h.kind ≠ 6 ∧ (h.len < 1 ∨ 16384 < h.len) then 54 else 0
set_option maxHeartbeats 4000000 in
theorem check_1 (ve : Int) (dl sl tl vl : List Int) (ln : Int) (d s t v : Sv) (width : Int) (w : World) (e1 : dl.length = d.n) (e2 : sl.length = s.n) (e3 : tl.length = t.n) :
    Calls Try.prog 34 #[hv ⟨1, ve, dl, sl, tl, vl, ln⟩ d s t v, .int .i64 width] w fun e w' => e = .returned (.int .i64 (bldE ⟨1, ve, dl, sl, tl, vl, ln⟩ width)) ∧ Q w w' := by
  obtain ⟨da, dn, dc⟩ := d
  obtain ⟨sa, sn, sc⟩ := s
  obtain ⟨ta, tn, tc⟩ := t
  obtain ⟨va, vn, vc⟩ := v
  dsimp only at e1 e2 e3
  by_cases h1 : width < 1
  · have HB := hid (show bldE ⟨1, ve, dl, sl, tl, vl, ln⟩ width = 10 from by unfold bldE; dsimp only; rw [if_neg (by omega), if_pos (by omega)])
    clear e1 e2 e3
    go_enter Try.func34, Try.ntmps34
    go_wp2
    go_ret
    exact ⟨ret_int HB.out.symm, (Q.refl w).alloc _⟩
  by_cases h2 : 4 < width
  · have HB := hid (show bldE ⟨1, ve, dl, sl, tl, vl, ln⟩ width = 10 from by unfold bldE; dsimp only; rw [if_neg (by omega), if_pos (by omega)])
    clear e1 e2 e3
    go_enter Try.func34, Try.ntmps34
    go_wp2
    go_ret
    exact ⟨ret_int HB.out.symm, (Q.refl w).alloc _⟩
  by_cases h3 : (20 : Int) < (dn : Int)
  · have HB := hid (show bldE ⟨1, ve, dl, sl, tl, vl, ln⟩ width = 61 from by unfold bldE; dsimp only; rw [if_neg (by omega), if_neg (by omega), if_pos (by omega)])
    clear e1 e2 e3
    go_enter Try.func34, Try.ntmps34
    go_wp2
    go_ret
    exact ⟨ret_int HB.out.symm, (Q.refl w).alloc _⟩
  by_cases h4 : (20 : Int) < (sn : Int)
  · have HB := hid (show bldE ⟨1, ve, dl, sl, tl, vl, ln⟩ width = 61 from by unfold bldE; dsimp only; rw [if_neg (by omega), if_neg (by omega), if_pos (by omega)])
    clear e1 e2 e3
    go_enter Try.func34, Try.ntmps34
    go_wp2
    go_ret
    exact ⟨ret_int HB.out.symm, (Q.refl w).alloc _⟩
  by_cases h5 : (16384 : Int) < (tn : Int)
  · have HB := hid (show bldE ⟨1, ve, dl, sl, tl, vl, ln⟩ width = 52 from by unfold bldE; dsimp only; rw [if_neg (by omega), if_neg (by omega), if_neg (by omega), if_pos (by omega)])
    clear e1 e2 e3
    go_enter Try.func34, Try.ntmps34
    go_wp2
    go_ret
    exact ⟨ret_int HB.out.symm, (Q.refl w).alloc _⟩
  by_cases h6 : ln < 1
  · have HB := hid (show bldE ⟨1, ve, dl, sl, tl, vl, ln⟩ width = 54 from by unfold bldE; dsimp only; rw [if_neg (by omega), if_neg (by omega), if_neg (by omega), if_neg (by omega), if_pos (by omega)])
    clear e1 e2 e3
    go_enter Try.func34, Try.ntmps34
    go_wp2
    go_ret
    exact ⟨ret_int HB.out.symm, (Q.refl w).alloc _⟩
  by_cases h7 : 16384 < ln
  · have HB := hid (show bldE ⟨1, ve, dl, sl, tl, vl, ln⟩ width = 54 from by unfold bldE; dsimp only; rw [if_neg (by omega), if_neg (by omega), if_neg (by omega), if_neg (by omega), if_pos (by omega)])
    clear e1 e2 e3
    go_enter Try.func34, Try.ntmps34
    go_wp2
    go_ret
    exact ⟨ret_int HB.out.symm, (Q.refl w).alloc _⟩
  have HB := hid (show bldE ⟨1, ve, dl, sl, tl, vl, ln⟩ width = 0 from by unfold bldE; dsimp only; rw [if_neg (by omega), if_neg (by omega), if_neg (by omega), if_neg (by omega), if_neg (by omega)])
  clear e1 e2 e3
  go_enter Try.func34, Try.ntmps34
  go_wp2
  go_ret
  exact ⟨ret_int HB.out.symm, (Q.refl w).alloc _⟩
set_option maxHeartbeats 4000000 in
theorem check_2 (ve : Int) (dl sl tl vl : List Int) (ln : Int) (d s t v : Sv) (width : Int) (w : World) (e1 : dl.length = d.n) (e2 : sl.length = s.n) (e3 : tl.length = t.n) :
    Calls Try.prog 34 #[hv ⟨2, ve, dl, sl, tl, vl, ln⟩ d s t v, .int .i64 width] w fun e w' => e = .returned (.int .i64 (bldE ⟨2, ve, dl, sl, tl, vl, ln⟩ width)) ∧ Q w w' := by
  obtain ⟨da, dn, dc⟩ := d
  obtain ⟨sa, sn, sc⟩ := s
  obtain ⟨ta, tn, tc⟩ := t
  obtain ⟨va, vn, vc⟩ := v
  dsimp only at e1 e2 e3
  by_cases h1 : width < 1
  · have HB := hid (show bldE ⟨2, ve, dl, sl, tl, vl, ln⟩ width = 10 from by unfold bldE; dsimp only; rw [if_neg (by omega), if_pos (by omega)])
    clear e1 e2 e3
    go_enter Try.func34, Try.ntmps34
    go_wp2
    go_ret
    exact ⟨ret_int HB.out.symm, (Q.refl w).alloc _⟩
  by_cases h2 : 4 < width
  · have HB := hid (show bldE ⟨2, ve, dl, sl, tl, vl, ln⟩ width = 10 from by unfold bldE; dsimp only; rw [if_neg (by omega), if_pos (by omega)])
    clear e1 e2 e3
    go_enter Try.func34, Try.ntmps34
    go_wp2
    go_ret
    exact ⟨ret_int HB.out.symm, (Q.refl w).alloc _⟩
  by_cases h3 : (20 : Int) < (dn : Int)
  · have HB := hid (show bldE ⟨2, ve, dl, sl, tl, vl, ln⟩ width = 61 from by unfold bldE; dsimp only; rw [if_neg (by omega), if_neg (by omega), if_pos (by omega)])
    clear e1 e2 e3
    go_enter Try.func34, Try.ntmps34
    go_wp2
    go_ret
    exact ⟨ret_int HB.out.symm, (Q.refl w).alloc _⟩
  by_cases h4 : (20 : Int) < (sn : Int)
  · have HB := hid (show bldE ⟨2, ve, dl, sl, tl, vl, ln⟩ width = 61 from by unfold bldE; dsimp only; rw [if_neg (by omega), if_neg (by omega), if_pos (by omega)])
    clear e1 e2 e3
    go_enter Try.func34, Try.ntmps34
    go_wp2
    go_ret
    exact ⟨ret_int HB.out.symm, (Q.refl w).alloc _⟩
  by_cases h6 : ln < 1
  · have HB := hid (show bldE ⟨2, ve, dl, sl, tl, vl, ln⟩ width = 54 from by unfold bldE; dsimp only; rw [if_neg (by omega), if_neg (by omega), if_neg (by omega), if_neg (by omega), if_pos (by omega)])
    clear e1 e2 e3
    go_enter Try.func34, Try.ntmps34
    go_wp2
    go_ret
    exact ⟨ret_int HB.out.symm, (Q.refl w).alloc _⟩
  by_cases h7 : 16384 < ln
  · have HB := hid (show bldE ⟨2, ve, dl, sl, tl, vl, ln⟩ width = 54 from by unfold bldE; dsimp only; rw [if_neg (by omega), if_neg (by omega), if_neg (by omega), if_neg (by omega), if_pos (by omega)])
    clear e1 e2 e3
    go_enter Try.func34, Try.ntmps34
    go_wp2
    go_ret
    exact ⟨ret_int HB.out.symm, (Q.refl w).alloc _⟩
  have HB := hid (show bldE ⟨2, ve, dl, sl, tl, vl, ln⟩ width = 0 from by unfold bldE; dsimp only; rw [if_neg (by omega), if_neg (by omega), if_neg (by omega), if_neg (by omega), if_neg (by omega)])
  clear e1 e2 e3
  go_enter Try.func34, Try.ntmps34
  go_wp2
  go_ret
  exact ⟨ret_int HB.out.symm, (Q.refl w).alloc _⟩
set_option maxHeartbeats 4000000 in
theorem check_3 (ve : Int) (dl sl tl vl : List Int) (ln : Int) (d s t v : Sv) (width : Int) (w : World) (e1 : dl.length = d.n) (e2 : sl.length = s.n) (e3 : tl.length = t.n) :
    Calls Try.prog 34 #[hv ⟨3, ve, dl, sl, tl, vl, ln⟩ d s t v, .int .i64 width] w fun e w' => e = .returned (.int .i64 (bldE ⟨3, ve, dl, sl, tl, vl, ln⟩ width)) ∧ Q w w' := by
  obtain ⟨da, dn, dc⟩ := d
  obtain ⟨sa, sn, sc⟩ := s
  obtain ⟨ta, tn, tc⟩ := t
  obtain ⟨va, vn, vc⟩ := v
  dsimp only at e1 e2 e3
  by_cases h1 : width < 1
  · have HB := hid (show bldE ⟨3, ve, dl, sl, tl, vl, ln⟩ width = 10 from by unfold bldE; dsimp only; rw [if_neg (by omega), if_pos (by omega)])
    clear e1 e2 e3
    go_enter Try.func34, Try.ntmps34
    go_wp2
    go_ret
    exact ⟨ret_int HB.out.symm, (Q.refl w).alloc _⟩
  by_cases h2 : 4 < width
  · have HB := hid (show bldE ⟨3, ve, dl, sl, tl, vl, ln⟩ width = 10 from by unfold bldE; dsimp only; rw [if_neg (by omega), if_pos (by omega)])
    clear e1 e2 e3
    go_enter Try.func34, Try.ntmps34
    go_wp2
    go_ret
    exact ⟨ret_int HB.out.symm, (Q.refl w).alloc _⟩
  by_cases h3 : (20 : Int) < (dn : Int)
  · have HB := hid (show bldE ⟨3, ve, dl, sl, tl, vl, ln⟩ width = 61 from by unfold bldE; dsimp only; rw [if_neg (by omega), if_neg (by omega), if_pos (by omega)])
    clear e1 e2 e3
    go_enter Try.func34, Try.ntmps34
    go_wp2
    go_ret
    exact ⟨ret_int HB.out.symm, (Q.refl w).alloc _⟩
  by_cases h4 : (20 : Int) < (sn : Int)
  · have HB := hid (show bldE ⟨3, ve, dl, sl, tl, vl, ln⟩ width = 61 from by unfold bldE; dsimp only; rw [if_neg (by omega), if_neg (by omega), if_pos (by omega)])
    clear e1 e2 e3
    go_enter Try.func34, Try.ntmps34
    go_wp2
    go_ret
    exact ⟨ret_int HB.out.symm, (Q.refl w).alloc _⟩
  by_cases h6 : ln < 1
  · have HB := hid (show bldE ⟨3, ve, dl, sl, tl, vl, ln⟩ width = 54 from by unfold bldE; dsimp only; rw [if_neg (by omega), if_neg (by omega), if_neg (by omega), if_neg (by omega), if_pos (by omega)])
    clear e1 e2 e3
    go_enter Try.func34, Try.ntmps34
    go_wp2
    go_ret
    exact ⟨ret_int HB.out.symm, (Q.refl w).alloc _⟩
  by_cases h7 : 16384 < ln
  · have HB := hid (show bldE ⟨3, ve, dl, sl, tl, vl, ln⟩ width = 54 from by unfold bldE; dsimp only; rw [if_neg (by omega), if_neg (by omega), if_neg (by omega), if_neg (by omega), if_pos (by omega)])
    clear e1 e2 e3
    go_enter Try.func34, Try.ntmps34
    go_wp2
    go_ret
    exact ⟨ret_int HB.out.symm, (Q.refl w).alloc _⟩
  have HB := hid (show bldE ⟨3, ve, dl, sl, tl, vl, ln⟩ width = 0 from by unfold bldE; dsimp only; rw [if_neg (by omega), if_neg (by omega), if_neg (by omega), if_neg (by omega), if_neg (by omega)])
  clear e1 e2 e3
  go_enter Try.func34, Try.ntmps34
  go_wp2
  go_ret
  exact ⟨ret_int HB.out.symm, (Q.refl w).alloc _⟩
set_option maxHeartbeats 4000000 in
theorem check_6 (ve : Int) (dl sl tl vl : List Int) (ln : Int) (d s t v : Sv) (width : Int) (w : World) (e1 : dl.length = d.n) (e2 : sl.length = s.n) (e3 : tl.length = t.n) :
    Calls Try.prog 34 #[hv ⟨6, ve, dl, sl, tl, vl, ln⟩ d s t v, .int .i64 width] w fun e w' => e = .returned (.int .i64 (bldE ⟨6, ve, dl, sl, tl, vl, ln⟩ width)) ∧ Q w w' := by
  obtain ⟨da, dn, dc⟩ := d
  obtain ⟨sa, sn, sc⟩ := s
  obtain ⟨ta, tn, tc⟩ := t
  obtain ⟨va, vn, vc⟩ := v
  dsimp only at e1 e2 e3
  by_cases h1 : width < 1
  · have HB := hid (show bldE ⟨6, ve, dl, sl, tl, vl, ln⟩ width = 10 from by unfold bldE; dsimp only; rw [if_neg (by omega), if_pos (by omega)])
    clear e1 e2 e3
    go_enter Try.func34, Try.ntmps34
    go_wp2
    go_ret
    exact ⟨ret_int HB.out.symm, (Q.refl w).alloc _⟩
  by_cases h2 : 4 < width
  · have HB := hid (show bldE ⟨6, ve, dl, sl, tl, vl, ln⟩ width = 10 from by unfold bldE; dsimp only; rw [if_neg (by omega), if_pos (by omega)])
    clear e1 e2 e3
    go_enter Try.func34, Try.ntmps34
    go_wp2
    go_ret
    exact ⟨ret_int HB.out.symm, (Q.refl w).alloc _⟩
  by_cases h3 : (20 : Int) < (dn : Int)
  · have HB := hid (show bldE ⟨6, ve, dl, sl, tl, vl, ln⟩ width = 61 from by unfold bldE; dsimp only; rw [if_neg (by omega), if_neg (by omega), if_pos (by omega)])
    clear e1 e2 e3
    go_enter Try.func34, Try.ntmps34
    go_wp2
    go_ret
    exact ⟨ret_int HB.out.symm, (Q.refl w).alloc _⟩
  have HB := hid (show bldE ⟨6, ve, dl, sl, tl, vl, ln⟩ width = 0 from by unfold bldE; dsimp only; rw [if_neg (by omega), if_neg (by omega), if_neg (by omega), if_neg (by omega), if_neg (by omega)])
  clear e1 e2 e3
  go_enter Try.func34, Try.ntmps34
  go_wp2
  go_ret
  exact ⟨ret_int HB.out.symm, (Q.refl w).alloc _⟩
set_option maxHeartbeats 4000000 in
theorem check_o (kd ve : Int) (dl sl tl vl : List Int) (ln : Int) (d s t v : Sv) (width : Int) (w : World) (h1 : kd ≠ 1) (h2 : kd ≠ 2) (h3 : kd ≠ 3) (h6 : kd ≠ 6) :
    Calls Try.prog 34 #[hv ⟨kd, ve, dl, sl, tl, vl, ln⟩ d s t v, .int .i64 width] w fun e w' => e = .returned (.int .i64 (bldE ⟨kd, ve, dl, sl, tl, vl, ln⟩ width)) ∧ Q w w' := by
  have HB := hid (show bldE ⟨kd, ve, dl, sl, tl, vl, ln⟩ width = 50 from by unfold bldE; dsimp only; rw [if_pos ⟨h1, h2, h3, h6⟩])
  have k1 : (kd != 1) = true := by simp [h1]
  have k2 : (kd != 2) = true := by simp [h2]
  have k3 : (kd != 3) = true := by simp [h3]
  have k6 : (kd != 6) = true := by simp [h6]
  clear h1 h2 h3 h6
  go_enter Try.func34, Try.ntmps34
  go_wp2
  go_ret
  exact ⟨ret_int HB.out.symm, (Q.refl w).alloc _⟩
theorem check_any (H : Hd) (d s t v : Sv) (width : Int) (w : World) (e1 : H.dst.length = d.n) (e2 : H.src.length = s.n) (e3 : H.tok.length = t.n) :
    Calls Try.prog 34 #[hv H d s t v, .int .i64 width] w fun e w' => e = .returned (.int .i64 (bldE H width)) ∧ Q w w' := by
  obtain ⟨kd, ve, dl, sl, tl, vl, ln⟩ := H
  by_cases h1 : kd = 1
  · subst h1; exact check_1 ve dl sl tl vl ln d s t v width w e1 e2 e3
  by_cases h2 : kd = 2
  · subst h2; exact check_2 ve dl sl tl vl ln d s t v width w e1 e2 e3
  by_cases h3 : kd = 3
  · subst h3; exact check_3 ve dl sl tl vl ln d s t v width w e1 e2 e3
  by_cases h6 : kd = 6
  · subst h6; exact check_6 ve dl sl tl vl ln d s t v width w e1 e2 e3
  · exact check_o kd ve dl sl tl vl ln d s t v width w h1 h2 h3 h6
/-- The first byte. -/
def fstB (kind width : Int) : Int := if kind = 6 then 64 + (width - 1) else 192 + 16 * (kind - 1) + (width - 1)
set_option maxHeartbeats 1000000 in
theorem first_any (kind width : Int) (w : World) (hk : kind = 1 ∨ kind = 2 ∨ kind = 3 ∨ kind = 6) (hw : 1 ≤ width ∧ width ≤ 4) : Calls Try.prog 36 #[.int .i64 kind, .int .i64 width] w fun e w' => e = .returned (.int .u8 (fstB kind width)) ∧ w = w' := by
  have hc : width = 1 ∨ width = 2 ∨ width = 3 ∨ width = 4 := by omega
  clear hw
  rcases hk with rfl | rfl | rfl | rfl <;> rcases hc with rfl | rfl | rfl | rfl
  all_goals
    go_enter Try.func36, Try.ntmps36
    go_wp2
    go_ret
    exact ⟨by first | rfl | (simp [fstB]; try rfl), rfl⟩
set_option maxHeartbeats 400000 in
theorem shortest_any (n : Int) (w : World) (h0 : 0 ≤ n) (h1 : n ≤ 4611686018427387903) : Calls Try.prog 38 #[.int .i64 n] w fun e w' => ∃ r : Sv, e = .returned (.slice r.a r.n r.c) ∧ Q w w' ∧ Row w' r (form n) ∧ New w.heap.size r := by
  go_enter Try.func38, Try.ntmps38
  go_wp2_with fail
  refine (put_ok n w _ (by omega) (by omega) (hid rfl)).mono ?_
  rintro e w' ⟨g, rfl, hq, ho⟩
  have HX := hid (show Q w w' ∧ Row w' ⟨some ⟨g, 0, none⟩, sz n, sz n⟩ (form n) ∧ New w.heap.size ⟨some ⟨g, 0, none⟩, sz n, sz n⟩ from ⟨hq, ho.row (by simp), by intro b hb; cases hb; exact (ho.lt g rfl).1⟩)
  clear hq ho
  go_wp2
  go_ret
  exact ⟨⟨some ⟨g, 0, none⟩, sz n, sz n⟩, rfl, HX.out⟩
end Go.Proofs.Ytbhhajmfdffdbaa
