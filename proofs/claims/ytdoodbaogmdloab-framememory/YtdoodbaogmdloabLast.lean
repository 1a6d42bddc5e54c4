/-
  What frame.lastItems and streamHead do: contracts that the statements' walks use.
-/
import Derived.Test.YtdoodbaogmdloabItems
namespace Go.Proofs.Ytdoodbaogmdloab
open Go.RowKit
set_option linter.unusedVariables false
set_option maxRecDepth 20000

/-- The items behind the numbers. -/
def last (f : Fr) : List Int :=
  if f.kind = 6 ∨ f.kind = 7 ∨ f.kind = 28 ∨ f.kind = 29 then form f.data.length ++ f.data
  else if f.kind = 24 then [(f.cid.length : Int)] ++ f.cid ++ f.data else if f.kind = 26 ∨ f.kind = 27 then f.data else []

theorem seg_new (w : World) (l : List Int) : Seg (w.alloc (.cells (l.map (Value.int .u8)).toArray 5)) (some ⟨w.heap.size, 0, none⟩) l := by
  intro _
  refine ⟨w.heap.size, 0, rfl, fun i hi => ?_⟩
  rw [cell_of_row _ w.heap.size (0 + i) _ 5 (0, 0) (heap_alloc_new w _), Nat.zero_add]
  simp [List.getD_eq_getElem?_getD, hi]

/-- A slice that holds these bytes. -/
def Got (w : World) (r : Sv) (zs : List Int) : Prop := Seg w r.a zs ∧ zs.length = r.n

section
variable (k i pl num code : Int) (fin : Bool) (data cid : List Int) (sp : List (Int × Int)) (dl e0 e1 e2 : Int) (d c s : Sv) (w : World)
set_option maxHeartbeats 1000000 in
theorem last_6 (h : k = 6 ∨ k = 7 ∨ k = 28 ∨ k = 29) (hs : Seg w d.a data) (hl : data.length = d.n) (hd : d.n ≤ 16384) :
    Calls Try.prog 32 #[fv ⟨k, i, pl, num, code, fin, data, cid, sp, dl, e0, e1, e2⟩ d c s] w fun e w' => ∃ r : Sv, e = .returned (.slice r.a r.n r.c) ∧ Q w w' ∧ Got w' r (form data.length ++ data) := by
  have HS := hid hs
  have HL := hid hl
  clear hs hl
  rcases h with rfl | rfl | rfl | rfl
  all_goals
    go_enter Try.func32, Try.ntmps32
    go_wp2_with fail
    refine (withLength_any d data _ (HS.out.q ((Q.refl w).alloc _)) HL.out (by omega)).mono ?_
    rintro e w1 ⟨⟨ra, rn, rc⟩, rfl, hq, hr, hn⟩
    have HQ := hid (((Q.refl w).alloc _).trans hq)
    have HR := hid (show Got w1 ⟨ra, rn, rc⟩ (form data.length ++ data) from ⟨Row.seg hr, Row.len hr⟩)
    clear hq hr hn
    go_wp2
    go_ret
    exact ⟨⟨ra, rn, rc⟩, rfl, HQ.out, HR.out⟩
set_option maxHeartbeats 1000000 in
theorem last_24 (h : k = 24) (hs : Seg w d.a data) (hl : data.length = d.n) (hcs : Seg w c.a cid) (hcl : cid.length = c.n) (hd : d.n ≤ 16384) (hc : c.n ≤ 20) :
    Calls Try.prog 32 #[fv ⟨k, i, pl, num, code, fin, data, cid, sp, dl, e0, e1, e2⟩ d c s] w fun e w' => ∃ r : Sv, e = .returned (.slice r.a r.n r.c) ∧ Q w w' ∧ Got w' r ([(cid.length : Int)] ++ cid ++ data) := by
  subst h
  have HS := hid hs
  have HL := hid hl
  have HCS := hid hcs
  have HCL := hid hcl
  have hw : IntKind.u8.wrap (c.n : Int) = c.n := by simp [IntKind.wrap, IntKind.bits, IntKind.signed]; omega
  clear hs hl hcs hcl
  go_enter Try.func32, Try.ntmps32
  go_wp2_with fail
  generalize hw1 : World.alloc w _ = w1
  have hz : w.heap.size + 1 = w1.heap.size := by rw [← hw1]; simp
  have hq1 : Q w w1 := by rw [← hw1]; exact (Q.refl w).alloc _
  have HQ1 := hid hq1
  generalize hw2 : World.alloc w1 _ = w2
  have hz2 : w.heap.size + 1 + 1 = w2.heap.size := by rw [← hw2]; simp [hz]
  have hs2 : Seg w2 (some ⟨w1.heap.size, 0, none⟩) [(cid.length : Int)] := by rw [← hw2, HCL.out]; exact seg_new w1 [(c.n : Int)]
  have HQ2 := hid (show Q w w2 from by rw [← hw2]; exact HQ1.out.alloc _)
  have HS2 := hid hs2
  try rw [hz2]
  try rw [show w.heap.size + 2 = w2.heap.size from hz2]
  try rw [hz]
  clear hw1 hq1 hw2 hz2 hs2 hz
  refine (join3_any ⟨some ⟨w1.heap.size, 0, none⟩, 1, 1⟩ c d [(cid.length : Int)] cid data w2 HS2.out rfl (HCS.out.q HQ2.out) HCL.out (HS.out.q HQ2.out) HL.out (by dsimp only; omega)).mono ?_
  rintro e w3 ⟨⟨ra, rn, rc⟩, rfl, hq, hr, hn⟩
  have HQ := hid (HQ2.out.trans hq)
  have HR := hid (show Got w3 ⟨ra, rn, rc⟩ ([(cid.length : Int)] ++ cid ++ data) from ⟨Row.seg hr, Row.len hr⟩)
  clear hq hr hn
  go_wp2
  go_ret
  exact ⟨⟨ra, rn, rc⟩, rfl, HQ.out, HR.out⟩
set_option maxHeartbeats 1000000 in
theorem last_26 (h : k = 26 ∨ k = 27) (hs : Seg w d.a data) (hl : data.length = d.n) :
    Calls Try.prog 32 #[fv ⟨k, i, pl, num, code, fin, data, cid, sp, dl, e0, e1, e2⟩ d c s] w fun e w' => ∃ r : Sv, e = .returned (.slice r.a r.n r.c) ∧ Q w w' ∧ Got w' r data := by
  have HS := hid hs
  have HL := hid hl
  clear hs hl
  rcases h with rfl | rfl
  all_goals
    go_enter Try.func32, Try.ntmps32
    go_wp2
    go_ret
    exact ⟨d, rfl, (Q.refl w).alloc _, HS.out.q ((Q.refl w).alloc _), HL.out⟩
set_option maxHeartbeats 1000000 in
theorem last_no (h : ¬ (k = 6 ∨ k = 7 ∨ k = 28 ∨ k = 29)) (h2 : ¬ k = 24) (h3 : ¬ (k = 26 ∨ k = 27)) :
    Calls Try.prog 32 #[fv ⟨k, i, pl, num, code, fin, data, cid, sp, dl, e0, e1, e2⟩ d c s] w fun e w' => ∃ r : Sv, e = .returned (.slice r.a r.n r.c) ∧ Q w w' ∧ Got w' r [] := by
  have b6 : (k == 6) = false := by simp; omega
  have b7 : (k == 7) = false := by simp; omega
  have b28 : (k == 28) = false := by simp; omega
  have b29 : (k == 29) = false := by simp; omega
  have b24 : (k == 24) = false := by simp; omega
  have b26 : (k == 26) = false := by simp; omega
  have b27 : (k == 27) = false := by simp; omega
  clear h h2 h3
  go_enter Try.func32, Try.ntmps32
  go_wp2
  go_ret
  exact ⟨⟨none, 0, 0⟩, rfl, (Q.refl w).alloc _, seg_nil _ _, rfl⟩
end

theorem lastItems_any (f : Fr) (d c s : Sv) (w : World) (h : Holds w f d c s) (hd : d.n ≤ 16384) (hc : f.kind = 24 → c.n ≤ 20) :
    Calls Try.prog 32 #[fv f d c s] w fun e w' => ∃ r : Sv, e = .returned (.slice r.a r.n r.c) ∧ Q w w' ∧ Got w' r (last f) := by
  obtain ⟨k, i, pl, num, code, fin, data, cid, sp, dl, e0, e1, e2⟩ := f
  unfold last
  dsimp only at hc ⊢
  by_cases h6 : k = 6 ∨ k = 7 ∨ k = 28 ∨ k = 29
  · rw [if_pos h6]; exact last_6 _ _ _ _ _ _ _ _ _ _ _ _ _ _ _ _ _ h6 h.ds h.dl hd
  rw [if_neg h6]
  by_cases h24 : k = 24
  · rw [if_pos h24]; exact last_24 _ _ _ _ _ _ _ _ _ _ _ _ _ _ _ _ _ h24 h.ds h.dl h.cs h.cl hd (hc h24)
  rw [if_neg h24]
  by_cases h26 : k = 26 ∨ k = 27
  · rw [if_pos h26]; exact last_26 _ _ _ _ _ _ _ _ _ _ _ _ _ _ _ _ _ h26 h.ds h.dl
  · rw [if_neg h26]; exact last_no _ _ _ _ _ _ _ _ _ _ _ _ _ _ _ _ _ h6 h24 h26

/-- The type of a stream frame and its items ahead of the length. -/
def shead (f : Fr) : List Int := if 0 < f.pl then forms [if f.fin then 15 else 14, f.id, f.pl] else forms [if f.fin then 11 else 10, f.id]

set_option maxHeartbeats 1000000 in
theorem streamHead_any (f : Fr) (d c s : Sv) (w : World) : Calls Try.prog 29 #[fv f d c s] w fun e w' => ∃ r : Sv, e = .returned (.slice r.a r.n r.c) ∧ Q w w' ∧ Row w' r (shead f) ∧ New w.heap.size r := by
  obtain ⟨k, i, pl, num, code, fin, data, cid, sp, dl, e0, e1, e2⟩ := f
  have o1 : bits .or .i64 10 1 = 11 := by decide
  have o2 : bits .or .i64 10 4 = 14 := by decide
  have o3 : bits .or .i64 11 4 = 15 := by decide
  have fin_ : ∀ (w1 w2 : World) (r : Sv) (zs : List Int), Q w w1 → Q w1 w2 → Row w2 r zs → New w1.heap.size r → zs = shead ⟨k, i, pl, num, code, fin, data, cid, sp, dl, e0, e1, e2⟩ → Q w w2 ∧ Row w2 r (shead ⟨k, i, pl, num, code, fin, data, cid, sp, dl, e0, e1, e2⟩) ∧ New w.heap.size r :=
    fun w1 w2 r zs h1 h2 h3 h4 e => ⟨h1.trans h2, e ▸ h3, h4.mono h1.size⟩
  have FIN := hid fin_
  clear fin_
  by_cases hp : 0 < pl
  · cases fin
    · have HE := hid (show forms [14, i, pl] = shead ⟨k, i, pl, num, code, false, data, cid, sp, dl, e0, e1, e2⟩ from by simp [shead, hp])
      go_enter Try.func29, Try.ntmps29
      go_wp2_with fail
      generalize hw1 : World.alloc w _ = w1
      have hz : w.heap.size + 1 = w1.heap.size := by rw [← hw1]; simp
      rw [hz]
      have hq1 : Q w w1 := by rw [← hw1]; exact (Q.refl w).alloc _
      have HQ1 := hid hq1
      clear hw1 hz hq1
      refine (nums_lit [14, i, pl] 3 w1 rfl (by omega)).mono ?_
      rintro e w2 ⟨r, rfl, hq, hr, hn⟩
      have HX := hid (FIN.out w1 w2 r _ HQ1.out hq hr hn HE.out)
      clear hq hr hn
      go_wp2
      go_ret
      exact ⟨r, rfl, HX.out⟩
    · have HE := hid (show forms [15, i, pl] = shead ⟨k, i, pl, num, code, true, data, cid, sp, dl, e0, e1, e2⟩ from by simp [shead, hp])
      go_enter Try.func29, Try.ntmps29
      go_wp2_with fail
      generalize hw1 : World.alloc w _ = w1
      have hz : w.heap.size + 1 = w1.heap.size := by rw [← hw1]; simp
      rw [hz]
      have hq1 : Q w w1 := by rw [← hw1]; exact (Q.refl w).alloc _
      have HQ1 := hid hq1
      clear hw1 hz hq1
      refine (nums_lit [15, i, pl] 3 w1 rfl (by omega)).mono ?_
      rintro e w2 ⟨r, rfl, hq, hr, hn⟩
      have HX := hid (FIN.out w1 w2 r _ HQ1.out hq hr hn HE.out)
      clear hq hr hn
      go_wp2
      go_ret
      exact ⟨r, rfl, HX.out⟩
  · cases fin
    · have HE := hid (show forms [10, i] = shead ⟨k, i, pl, num, code, false, data, cid, sp, dl, e0, e1, e2⟩ from by simp [shead, hp])
      go_enter Try.func29, Try.ntmps29
      go_wp2_with fail
      generalize hw1 : World.alloc w _ = w1
      have hz : w.heap.size + 1 = w1.heap.size := by rw [← hw1]; simp
      rw [hz]
      have hq1 : Q w w1 := by rw [← hw1]; exact (Q.refl w).alloc _
      have HQ1 := hid hq1
      clear hw1 hz hq1
      refine (nums_lit [10, i] 2 w1 rfl (by omega)).mono ?_
      rintro e w2 ⟨r, rfl, hq, hr, hn⟩
      have HX := hid (FIN.out w1 w2 r _ HQ1.out hq hr hn HE.out)
      clear hq hr hn
      go_wp2
      go_ret
      exact ⟨r, rfl, HX.out⟩
    · have HE := hid (show forms [11, i] = shead ⟨k, i, pl, num, code, true, data, cid, sp, dl, e0, e1, e2⟩ from by simp [shead, hp])
      go_enter Try.func29, Try.ntmps29
      go_wp2_with fail
      generalize hw1 : World.alloc w _ = w1
      have hz : w.heap.size + 1 = w1.heap.size := by rw [← hw1]; simp
      rw [hz]
      have hq1 : Q w w1 := by rw [← hw1]; exact (Q.refl w).alloc _
      have HQ1 := hid hq1
      clear hw1 hz hq1
      refine (nums_lit [11, i] 2 w1 rfl (by omega)).mono ?_
      rintro e w2 ⟨r, rfl, hq, hr, hn⟩
      have HX := hid (FIN.out w1 w2 r _ HQ1.out hq hr hn HE.out)
      clear hq hr hn
      go_wp2
      go_ret
      exact ⟨r, rfl, HX.out⟩
end Go.Proofs.Ytdoodbaogmdloab
