/-
  What frame.numbersHold does: a contract that the statements' walks use.
-/
import Derived.Test.YtdoodbaogmdloabLead
namespace Go.Proofs.Ytdoodbaogmdloab
open Go.RowKit
set_option linter.unusedVariables false
set_option maxRecDepth 20000

/-- A frame in a block of its own. -/
def Box (w : World) (t fb : Nat) (f : Fr) (d c s : Sv) : Prop := w.heap[fb]? = some (.cells (fcells f d c s) t (0, 0))
section
variable {w w' : World} {t fb : Nat} {f : Fr} {d c s : Sv}
theorem Box.c0 (h : Box w t fb f d c s) : w.cell? ⟨fb, 0, none⟩ = some (.int .i64 f.kind) := by rw [cell_of_row w fb 0 _ t (0, 0) h]; rfl
theorem Box.c1 (h : Box w t fb f d c s) : w.cell? ⟨fb, 1, none⟩ = some (.int .i64 f.id) := by rw [cell_of_row w fb 1 _ t (0, 0) h]; rfl
theorem Box.c2 (h : Box w t fb f d c s) : w.cell? ⟨fb, 2, none⟩ = some (.int .i64 f.pl) := by rw [cell_of_row w fb 2 _ t (0, 0) h]; rfl
theorem Box.c3 (h : Box w t fb f d c s) : w.cell? ⟨fb, 3, none⟩ = some (.int .i64 f.num) := by rw [cell_of_row w fb 3 _ t (0, 0) h]; rfl
theorem Box.c4 (h : Box w t fb f d c s) : w.cell? ⟨fb, 4, none⟩ = some (.int .i64 f.code) := by rw [cell_of_row w fb 4 _ t (0, 0) h]; rfl
theorem Box.c5 (h : Box w t fb f d c s) : w.cell? ⟨fb, 5, none⟩ = some (.bool f.fin) := by rw [cell_of_row w fb 5 _ t (0, 0) h]; rfl
theorem Box.c6 (h : Box w t fb f d c s) : w.cell? ⟨fb, 6, none⟩ = some (.slice d.a d.n d.c) := by rw [cell_of_row w fb 6 _ t (0, 0) h]; rfl
theorem Box.c7 (h : Box w t fb f d c s) : w.cell? ⟨fb, 7, none⟩ = some (.slice c.a c.n c.c) := by rw [cell_of_row w fb 7 _ t (0, 0) h]; rfl
theorem Box.c8 (h : Box w t fb f d c s) : w.cell? ⟨fb, 8, none⟩ = some (.slice s.a s.n s.c) := by rw [cell_of_row w fb 8 _ t (0, 0) h]; rfl
theorem Box.c9 (h : Box w t fb f d c s) : w.cell? ⟨fb, 9, none⟩ = some (.int .i64 f.dl) := by rw [cell_of_row w fb 9 _ t (0, 0) h]; rfl
theorem Box.c10 (h : Box w t fb f d c s) : w.cell? ⟨fb, 10, none⟩ = some (.int .i64 f.e0) := by rw [cell_of_row w fb 10 _ t (0, 0) h]; rfl
theorem Box.c11 (h : Box w t fb f d c s) : w.cell? ⟨fb, 11, none⟩ = some (.int .i64 f.e1) := by rw [cell_of_row w fb 11 _ t (0, 0) h]; rfl
theorem Box.c12 (h : Box w t fb f d c s) : w.cell? ⟨fb, 12, none⟩ = some (.int .i64 f.e2) := by rw [cell_of_row w fb 12 _ t (0, 0) h]; rfl
theorem Box.free (h : Box w t fb f d c s) (j : Nat) : w.frozen? ⟨fb, j, none⟩ = false := frozen_of_row w fb j _ t h
theorem Box.lt (h : Box w t fb f d c s) : fb < w.heap.size := lt_of_block h
theorem Box.keep {F : Nat → Prop} (h : Box w t fb f d c s) (k : Keep F w w') (hF : ¬ F fb) : Box w' t fb f d c s := (k.block fb h.lt hF).trans h
theorem Box.q (h : Box w t fb f d c s) (k : Q w w') : Box w' t fb f d c s := h.keep (Keep.ofQ (F := fun _ => False) k) id
end

/-- The number at one of these places. -/
def fget (f : Fr) (o : Nat) : Int := if o = 1 then f.id else if o = 2 then f.pl else if o = 3 then f.num else f.code

theorem lead_mem {k : Int} {o : Nat} (h : o ∈ lead k) : o = 1 ∨ o = 2 ∨ o = 3 ∨ o = 4 := by
  rcases lead_cases k with e | e
  · rw [e] at h; simp at h
  · rcases e with rfl | rfl | rfl | rfl | rfl | rfl | rfl | rfl | rfl | rfl | rfl | rfl | rfl | rfl | rfl | rfl
    all_goals (simp [lead] at h; omega)
theorem Box.num {w : World} {t fb : Nat} {f : Fr} {d c s : Sv} (h : Box w t fb f d c s) {o : Nat} {k : Int} (ho : o ∈ lead k) : w.cell? ⟨fb, o, none⟩ = some (.int .i64 (fget f o)) := by
  rcases lead_mem ho with rfl | rfl | rfl | rfl
  · exact h.c1
  · exact h.c2
  · exact h.c3
  · exact h.c4
theorem ptr_cell {B : Nat} {w : World} {fb : Nat} {a : Option Addr} {l : List Nat} (h : Ptrs B w fb a l) {j : Nat} (hj : j < l.length) : ∃ g, a = some ⟨g, 0, none⟩ ∧ B ≤ g ∧ w.cell? ⟨g, j, none⟩ = some (.pointer (some ⟨fb, l.getD j 0, none⟩)) := by
  obtain ⟨g, ha, hb, hg⟩ := h (by intro e; simp [e] at hj)
  refine ⟨g, ha, hb, ?_⟩
  rw [cell_of_row w g j _ 89 (0, 0) hg]
  simp [hj]
theorem Ptrs.keep {F : Nat → Prop} {B : Nat} {w w' : World} {fb : Nat} {a : Option Addr} {l : List Nat} (h : Ptrs B w fb a l) (k : Keep F w w') (hF : ∀ g, B ≤ g → ¬ F g) : Ptrs B w' fb a l := by
  intro hne
  obtain ⟨g, ha, hb, hg⟩ := h hne
  exact ⟨g, ha, hb, (k.block g (lt_of_block hg) (hF g hb)).trans hg⟩

def ackB (f : Fr) : Bool := if f.kind = 2 then isN f.dl else if f.kind = 3 then isN f.dl && (isN f.e0 && isN f.e1 && isN f.e2) else true
/-- The items that are numbers are numbers. -/
def numsB (f : Fr) : Bool := (lead f.kind).all (fun o => isN (fget f o)) && ackB f

theorem numsB_no {f : Fr} {j : Nat} (hj : j < (lead f.kind).length) (h : isN (fget f ((lead f.kind).getD j 0)) = false) : numsB f = false := by
  unfold numsB
  rw [List.all_eq_false.2 ⟨_, List.getElem_mem hj, by simpa [List.getD_eq_getElem?_getD, hj] using h⟩]
  rfl

set_option maxHeartbeats 1600000 in
theorem numbersHold_any (f : Fr) (d c s : Sv) (w : World) : Calls Try.prog 45 #[fv f d c s] w fun e w' => e = .returned (.bool (numsB f)) ∧ Q w w' := by
  obtain ⟨M, hM⟩ : ∃ M, (lead f.kind).length = M := ⟨_, rfl⟩
  have hMle : M ≤ 3 := by
    rw [← hM]
    rcases lead_cases f.kind with e | e
    · rw [e]; simp
    · rcases e with e | e | e | e | e | e | e | e | e | e | e | e | e | e | e | e
      all_goals (rw [e]; decide)
  go_enter Try.func45, Try.ntmps45
  go_wp2_with fail
  refine (leading_any w.heap.size f.kind _ (by simp [go_sem])).mono ?_
  rintro e w1 ⟨a, rfl, hq, hp⟩
  have hq1 : Q w w1 := ((Q.refl w).alloc _).trans hq
  have hbx : Box w1 34 w.heap.size f d c s := Box.q (w := w.alloc _) (heap_alloc_new w _) hq
  have HP := hid hp
  have HB := hid hbx
  have HQ := hid hq1
  have HM := hid hM
  rw [hM]
  clear hp hbx hq1 hq hM
  go_wp2
  go_loopw [7] (fun i wr => wr = w1 ∧ ∃ j : Nat, j ≤ M ∧ i = .int .i64 j ∧ ∀ o ∈ (lead f.kind).take j, isN (fget f o) = true) (fun i _ => ((M : Int) - intOf i).toNat)
  case atStart => exact ⟨rfl, 0, Nat.zero_le _, rfl, by simp⟩
  case round =>
    obtain ⟨rfl, j, hj, rfl, hall⟩ := hrel
    have HA := hid hall
    clear hall
    by_cases hjm : j < M
    · obtain ⟨g, rfl, _, hc⟩ := ptr_cell HP.out (j := j) (by rw [HM.out]; exact hjm)
      have hmem : (lead f.kind).getD j 0 ∈ lead f.kind := by
        rw [List.getD_eq_getElem?_getD, List.getElem?_eq_getElem (by rw [HM.out]; exact hjm)]; exact List.getElem_mem _
      have hv := HB.out.num hmem
      have HN := hid (fun h => numsB_no (f := f) (j := j) (by rw [HM.out]; exact hjm) h)
      have HT := hid (show ∀ h : isN (fget f ((lead f.kind).getD j 0)) = true, ∀ o ∈ (lead f.kind).take (j + 1), isN (fget f o) = true from by
        intro h o ho
        rw [List.take_succ_eq_append_getElem (by rw [HM.out]; exact hjm)] at ho
        rcases List.mem_append.1 ho with ho | ho
        · exact HA.out o ho
        · simp at ho; subst ho
          rw [List.getD_eq_getElem?_getD, List.getElem?_eq_getElem (by rw [HM.out]; exact hjm)] at h
          exact h)
      generalize (lead f.kind).getD j 0 = o at *
      have hji : (j : Int) < (M : Int) := by omega
      clear hmem
      cases hb : isN (fget f o)
      · have HBb := hid hb
        clear hb
        go_wp2_with (go_at_call 56; refine (isNumber_any _ _).mono ?_; rintro e w' ⟨rfl, rfl⟩; rw [HBb.out])
        go_ret
        exact ⟨ret_bool (HN.out HBb.out).symm, HQ.out⟩
      · have HBb := hid hb
        clear hb
        go_wp2_with (go_at_call 56; refine (isNumber_any _ _).mono ?_; rintro e w' ⟨rfl, rfl⟩; rw [HBb.out])
        go_roundw
        case rel => exact ⟨trivial, j + 1, by omega, by go_num, HT.out HBb.out⟩
        case measure => simp [intOf]; omega
    · obtain rfl : j = M := by omega
      have hji : ¬ (j : Int) < (j : Int) := by omega
      have HL := hid (show numsB f = ackB f from by
        unfold numsB
        rw [List.all_eq_true.2 (by intro o ho; exact HA.out o (by rw [List.take_of_length_le (by rw [HM.out]; omega)]; exact ho))]
        rfl)
      have c0 := HB.out.c0
      have c9 := HB.out.c9
      have c10 := HB.out.c10
      have c11 := HB.out.c11
      have c12 := HB.out.c12
      by_cases h2 : f.kind = 2
      · have HK := hid (show ackB f = isN f.dl from by unfold ackB; rw [if_pos h2])
        rw [h2] at c0
        clear h2
        cases hdl : isN f.dl
        all_goals
          have HD := hid hdl
          clear hdl
          go_wp2_with (go_at_call 56; refine (isNumber_any _ _).mono ?_; rintro e w' ⟨rfl, rfl⟩; rw [HD.out])
          go_ret
          exact ⟨ret_bool (by rw [HL.out, HK.out, HD.out]), HQ.out⟩
      · by_cases h3 : f.kind = 3
        · have HK := hid (show ackB f = (isN f.dl && (isN f.e0 && isN f.e1 && isN f.e2)) from by unfold ackB; rw [if_neg h2, if_pos h3])
          rw [h3] at c0
          clear h3 h2
          cases hdl : isN f.dl
          · have HD := hid hdl
            clear hdl
            go_wp2_with (go_at_call 56; refine (isNumber_any _ _).mono ?_; rintro e w' ⟨rfl, rfl⟩; rw [HD.out])
            go_ret
            exact ⟨ret_bool (by rw [HL.out, HK.out, HD.out]; rfl), HQ.out⟩
          · have HD := hid hdl
            clear hdl
            go_wp2_with (go_at_call 56; refine (isNumber_any _ _).mono ?_; rintro e w' ⟨rfl, rfl⟩; rw [HD.out])
            refine (marks_any _ _ _ _).mono ?_
            rintro e w2 ⟨rfl, hq2⟩
            have H2 := hid hq2
            clear hq2
            go_wp2
            go_ret
            exact ⟨ret_bool (by rw [HL.out, HK.out, HD.out]; rfl), HQ.out.trans H2.out⟩
        · have HK := hid (show ackB f = true from by unfold ackB; rw [if_neg h2, if_neg h3])
          have k2 : (f.kind == 2) = false := by simp [h2]
          have k3 : (f.kind == 3) = false := by simp [h3]
          clear h3 h2
          go_wp2
          go_ret
          exact ⟨ret_bool (by rw [HL.out, HK.out]), HQ.out⟩
end Go.Proofs.Ytdoodbaogmdloab
