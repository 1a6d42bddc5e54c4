/-
  What the program's own Check does: a contract that the statements' walks use.
-/
import Derived.Test.YtidbimhcebfjfaaFld
import Derived.Test.YtidbimhcebfjfaaMtk
import Derived.Test.YtidbimhcebfjfaaTab
namespace Go.Proofs.Ytidbimhcebfjfaa
open Go.RowKit
set_option linter.unusedVariables false
set_option maxRecDepth 20000

/-- A block that holds parameters. -/
def PB (w : World) (pb : Nat) (m : Pm) (s : Nat → Sv) : Prop := w.heap[pb]? = some (.cells (pc m s) 24 (0, 0))
theorem PB.q {w w' : World} {pb : Nat} {m : Pm} {s : Nat → Sv} (h : PB w pb m s) (k : Q w w') : PB w' pb m s := (Below.block k pb (lt_of_block h)).trans h
theorem PB.cell {w : World} {pb : Nat} {m : Pm} {s : Nat → Sv} (h : PB w pb m s) {j : Nat} {v : Value} (hj : (pc m s)[j]? = some v) : w.cell? ⟨pb, j, none⟩ = some v := by
  rw [cell_of_row w pb j _ 24 (0, 0) h]; exact hj
theorem PB.free {w : World} {pb : Nat} {m : Pm} {s : Nat → Sv} (h : PB w pb m s) (j : Nat) : w.frozen? ⟨pb, j, none⟩ = false := frozen_of_row w pb j _ 24 h
theorem pb_new (w : World) (m : Pm) (s : Nat → Sv) : PB (w.alloc (.cells (pc m s) 24)) w.heap.size m s := heap_alloc_new w _
/-- A row of fields over the parameters in block pb. -/
def FB (w : World) (fb pb : Nat) : Prop := w.heap[fb]? = some (.cells (frow pb) 60 (0, 0))
theorem FB.q {w w' : World} {fb pb : Nat} (h : FB w fb pb) (k : Q w w') : FB w' fb pb := (Below.block k fb (lt_of_block h)).trans h
theorem FB.cell {w : World} {fb pb : Nat} (h : FB w fb pb) {j : Nat} {v : Value} (hj : (frow pb)[j]? = some v) : w.cell? ⟨fb, j, none⟩ = some v := by
  rw [cell_of_row w fb j _ 60 (0, 0) h]; exact hj
/-- The slices' lengths are those of the bytes. -/
def Len (m : Pm) (s : Nat → Sv) : Prop := ∀ i, kd i = 2 ∨ kd i = 3 → (m.byt i).length = (s i).n

theorem m_right_89 (p u l m : Value) (w : World) : (method 218 89 (.agg #[p, u, l, m]) "turnpike/params.right").run Try.prog w = .ok (72, .agg #[p, u, l, m]) w := by kernel_rfl
theorem m_right_84 (p u l m : Value) (w : World) : (method 218 84 (.agg #[p, u, l, m]) "turnpike/params.right").run Try.prog w = .ok (67, .agg #[p, u, l, m]) w := by kernel_rfl
theorem m_right_86 (p u l m : Value) (w : World) : (method 218 86 (.agg #[p, u, l, m]) "turnpike/params.right").run Try.prog w = .ok (70, .agg #[p, u, l, m]) w := by kernel_rfl
theorem m_right_91 (p : Value) (w : World) : (method 218 91 (.agg #[p]) "turnpike/params.right").run Try.prog w = .ok (76, .agg #[p]) w := by kernel_rfl
theorem m_told_89 (p u l m : Value) (w : World) : (method 218 89 (.agg #[p, u, l, m]) "turnpike/params.told").run Try.prog w = .ok (74, .agg #[p, u, l, m]) w := by kernel_rfl
theorem m_told_84 (p u l m : Value) (w : World) : (method 218 84 (.agg #[p, u, l, m]) "turnpike/params.told").run Try.prog w = .ok (69, .agg #[p, u, l, m]) w := by kernel_rfl
theorem m_told_86 (p u l m : Value) (w : World) : (method 218 86 (.agg #[p, u, l, m]) "turnpike/params.told").run Try.prog w = .ok (69, .agg #[p, u, l, m]) w := by kernel_rfl
theorem m_told_91 (p : Value) (w : World) : (method 218 91 (.agg #[p]) "turnpike/params.told").run Try.prog w = .ok (78, .agg #[p]) w := by kernel_rfl
theorem m_bytes_89 (p u l m : Value) (w : World) : (method 218 89 (.agg #[p, u, l, m]) "turnpike/params.bytes").run Try.prog w = .ok (71, .agg #[p, u, l, m]) w := by kernel_rfl
theorem m_bytes_84 (p u l m : Value) (w : World) : (method 218 84 (.agg #[p, u, l, m]) "turnpike/params.bytes").run Try.prog w = .ok (66, .agg #[p, u, l, m]) w := by kernel_rfl
theorem m_bytes_86 (p u l m : Value) (w : World) : (method 218 86 (.agg #[p, u, l, m]) "turnpike/params.bytes").run Try.prog w = .ok (66, .agg #[p, u, l, m]) w := by kernel_rfl
theorem m_bytes_91 (p : Value) (w : World) : (method 218 91 (.agg #[p]) "turnpike/params.bytes").run Try.prog w = .ok (75, .agg #[p]) w := by kernel_rfl
theorem m_take_89 (p u l m : Value) (w : World) : (method 218 89 (.agg #[p, u, l, m]) "turnpike/params.take").run Try.prog w = .ok (73, .agg #[p, u, l, m]) w := by kernel_rfl
theorem m_take_84 (p u l m : Value) (w : World) : (method 218 84 (.agg #[p, u, l, m]) "turnpike/params.take").run Try.prog w = .ok (68, .agg #[p, u, l, m]) w := by kernel_rfl
theorem m_take_86 (p u l m : Value) (w : World) : (method 218 86 (.agg #[p, u, l, m]) "turnpike/params.take").run Try.prog w = .ok (68, .agg #[p, u, l, m]) w := by kernel_rfl
theorem m_take_91 (p : Value) (w : World) : (method 218 91 (.agg #[p]) "turnpike/params.take").run Try.prog w = .ok (77, .agg #[p]) w := by kernel_rfl

/-- How far Check has come. -/
def ChkR (w : World) (pb fb : Nat) (m : Pm) (s : Nat → Sv) (srv : Bool) (k : Nat) (wr : World) : Prop :=
  k ≤ 16 ∧ Q w wr ∧ PB wr pb m s ∧ FB wr fb pb ∧ ∀ j, j < k → rgt m (idl.getD j 0) srv = true
theorem allR_of {m : Pm} {srv : Bool} (h : ∀ j, j < 16 → rgt m (idl.getD j 0) srv = true) : allR m srv = true := by
  unfold allR
  rw [List.all_eq_true]
  intro i hi
  obtain ⟨j, hj, e⟩ := List.mem_iff_getElem.1 hi
  have := h j hj
  rw [List.getD_eq_getElem?_getD, List.getElem?_eq_getElem hj, Option.getD_some, e] at this
  exact this
theorem allR_no {m : Pm} {srv : Bool} {j : Nat} (hj : j < 16) (h : rgt m (idl.getD j 0) srv = false) : allR m srv = false := by
  unfold allR
  rw [List.all_eq_false]
  refine ⟨idl.getD j 0, ?_, by rw [h]; simp⟩
  rw [List.getD_eq_getElem?_getD, List.getElem?_eq_getElem hj]
  exact List.getElem_mem _

/-- What Check tells. -/
def chkE (m : Pm) (srv : Bool) : Int := if allR m srv then 0 else 91
theorem chkE_no {m : Pm} {srv : Bool} (h : allR m srv = false) : chkE m srv = 91 := by unfold chkE; rw [h]; rfl
theorem chkE_ok {m : Pm} {srv : Bool} (h : allR m srv = true) : chkE m srv = 0 := by unfold chkE; rw [h]; rfl

set_option maxHeartbeats 4000000 in
theorem check_any (m : Pm) (s : Nat → Sv) (srv : Bool) (w : World) (hl : Len m s) :
    Calls Try.prog 9 #[.agg (pc m s), .bool srv] w fun e w' => e = .returned (.int .i64 (chkE m srv)) ∧ Q w w' := by
  have HL := hid hl
  clear hl
  have P0 := hid (pb_new w m s)
  have Q0 := hid ((Q.refl w).alloc (.cells (pc m s) 24))
  go_enter Try.func9, Try.ntmps9
  go_wp2_with (go_at_call 23; refine (fields_any _ _).mono ?_; rintro e w1 ⟨fb, rfl, q1, hfb, b1⟩; have Q1 := hid (Q0.out.trans q1); have P1 := hid (P0.out.q q1); have F1 := hid (show FB w1 fb w.heap.size from b1); clear q1 hfb b1 Q0 P0)
  generalize hpb : w.heap.size = pb at *
  clear hpb
  go_loopw [9] (fun i wr => ∃ k : Nat, i = .int .i64 k ∧ ChkR w pb fb m s srv k wr) (fun i _ => 16 - (intOf i).toNat)
  case atStart => exact ⟨0, rfl, by omega, Q1.out, P1.out, F1.out, fun j hj => by omega⟩
  case round =>
    obtain ⟨k, rfl, hk, hq, hp, hf, hr⟩ := hrel
    by_cases hlt : k < 16
    · obtain ⟨c0, c1⟩ := frow_id pb k hlt
      have hd1 : decide ((k : Int) < 16) = true := by simp; omega
      have d0 := hf.cell c0
      have d1 := hf.cell c1
      have hfl := lt_of_cell d0
      have hpl := lt_of_block hp
      have HK := hid (kinds pb k hlt)
      have HP := hid hp
      have HF := hid hf
      have HQ := hid hq
      have HR := hid hr
      clear c0 c1 hp hf hq hr Q1 P1 F1
      generalize hi : idl.getD k 0 = i at *
      have HI := hid hi
      clear hi
      rcases HK.out with ⟨k1, k2, k3, k4, k5⟩ | ⟨k1, k2, k3, k4⟩ | ⟨k1, k2, k3, k4⟩ | ⟨k1, k2, k3⟩
      · rw [k2] at d1
        unfold fnum at d1
        have hrg : rgt m i srv = (decide (lo i ≤ m.num i) && decide (m.num i ≤ hi i)) := by unfold rgt; rw [if_pos k1]
        have HC := hid (fun (W : World) (q : Q wr W) => nright_any pb (cn i) (usM.num i) (lo i) (hi i) (m.num i) srv W ((HP.out.q q).cell (k3 m s)))
        have hm := m_right_89
        rw [← hrg] at HC
        clear k1 k2 k3 k4 k5 hrg HK
        generalize hrv : rgt m i srv = rv at *
        have HRV := hid hrv
        clear hrv
        cases rv with
        | false =>
          go_wp2_with (go_at_call 72; refine (HC.out _ ((Q.refl wr).alloc _)).mono ?_; rintro e w2 ⟨rfl, q2⟩; have Q2 := hid (((Q.refl wr).alloc _).trans q2); clear q2)
          go_ret
          exact ⟨ret_int (chkE_no (allR_no hlt (by rw [HI.out]; exact HRV.out))).symm, HQ.out.trans Q2.out⟩
        | true =>
          go_wp2_with (go_at_call 72; refine (HC.out _ ((Q.refl wr).alloc _)).mono ?_; rintro e w2 ⟨rfl, q2⟩; have Q2 := hid (((Q.refl wr).alloc _).trans q2); clear q2)
          go_roundw
          case rel =>
            exact ⟨k + 1, by go_num, by omega, HQ.out.trans Q2.out, HP.out.q Q2.out, HF.out.q Q2.out, fun j hj => by
              by_cases e : j = k
              · subst e; rw [HI.out]; exact HRV.out
              · exact HR.out j (by omega)⟩
          case measure => simp [intOf]; omega
      · rw [k2] at d1
        unfold fsrv at d1
        have hrg : rgt m i srv = ((!m.has i || (decide (lo i ≤ ((m.byt i).length : Int)) && decide (((m.byt i).length : Int) ≤ hi i))) && (srv || !m.has i)) := by unfold rgt; rw [if_neg (by omega), if_pos k1]
        rw [HL.out i (by omega)] at hrg
        have HC := hid (fun (W : World) (q : Q wr W) => sright_any pb (ch i) (cn i) (lo i) (hi i) (m.has i) (s i) srv W ((HP.out.q q).cell (k3 m s).1) ((HP.out.q q).cell (k3 m s).2))
        have hm := m_right_86
        rw [← hrg] at HC
        clear k1 k2 k3 k4 hrg HK
        generalize hrv : rgt m i srv = rv at *
        have HRV := hid hrv
        clear hrv
        cases rv with
        | false =>
          go_wp2_with (go_at_call 70; refine (HC.out _ ((Q.refl wr).alloc _)).mono ?_; rintro e w2 ⟨rfl, q2⟩; have Q2 := hid (((Q.refl wr).alloc _).trans q2); clear q2)
          go_ret
          exact ⟨ret_int (chkE_no (allR_no hlt (by rw [HI.out]; exact HRV.out))).symm, HQ.out.trans Q2.out⟩
        | true =>
          go_wp2_with (go_at_call 70; refine (HC.out _ ((Q.refl wr).alloc _)).mono ?_; rintro e w2 ⟨rfl, q2⟩; have Q2 := hid (((Q.refl wr).alloc _).trans q2); clear q2)
          go_roundw
          case rel =>
            exact ⟨k + 1, by go_num, by omega, HQ.out.trans Q2.out, HP.out.q Q2.out, HF.out.q Q2.out, fun j hj => by
              by_cases e : j = k
              · subst e; rw [HI.out]; exact HRV.out
              · exact HR.out j (by omega)⟩
          case measure => simp [intOf]; omega
      · rw [k2] at d1
        unfold fdat at d1
        have hrg : rgt m i srv = (!m.has i || (decide (lo i ≤ ((m.byt i).length : Int)) && decide (((m.byt i).length : Int) ≤ hi i))) := by unfold rgt; rw [if_neg (by omega), if_neg (by omega), if_pos k1]
        rw [HL.out i (by omega)] at hrg
        have HC := hid (fun (W : World) (q : Q wr W) => dright_any pb (ch i) (cn i) (lo i) (hi i) (m.has i) (s i) srv W ((HP.out.q q).cell (k3 m s).1) ((HP.out.q q).cell (k3 m s).2))
        have hm := m_right_84
        rw [← hrg] at HC
        clear k1 k2 k3 k4 hrg HK
        generalize hrv : rgt m i srv = rv at *
        have HRV := hid hrv
        clear hrv
        cases rv with
        | false =>
          go_wp2_with (go_at_call 67; refine (HC.out _ ((Q.refl wr).alloc _)).mono ?_; rintro e w2 ⟨rfl, q2⟩; have Q2 := hid (((Q.refl wr).alloc _).trans q2); clear q2)
          go_ret
          exact ⟨ret_int (chkE_no (allR_no hlt (by rw [HI.out]; exact HRV.out))).symm, HQ.out.trans Q2.out⟩
        | true =>
          go_wp2_with (go_at_call 67; refine (HC.out _ ((Q.refl wr).alloc _)).mono ?_; rintro e w2 ⟨rfl, q2⟩; have Q2 := hid (((Q.refl wr).alloc _).trans q2); clear q2)
          go_roundw
          case rel =>
            exact ⟨k + 1, by go_num, by omega, HQ.out.trans Q2.out, HP.out.q Q2.out, HF.out.q Q2.out, fun j hj => by
              by_cases e : j = k
              · subst e; rw [HI.out]; exact HRV.out
              · exact HR.out j (by omega)⟩
          case measure => simp [intOf]; omega
      · rw [k2] at d1
        unfold fmrk at d1
        have hrg : rgt m i srv = true := by unfold rgt; rw [if_neg (by omega), if_neg (by omega), if_neg (by omega)]
        have HC := hid (fun (W : World) (q : Q wr W) => mright_any pb (cn i) srv W)
        have hm := m_right_91
        rw [← hrg] at HC
        clear k1 k2 k3 hrg HK
        generalize hrv : rgt m i srv = rv at *
        have HRV := hid hrv
        clear hrv
        cases rv with
        | false =>
          go_wp2_with (go_at_call 76; refine (HC.out _ ((Q.refl wr).alloc _)).mono ?_; rintro e w2 ⟨rfl, q2⟩; have Q2 := hid (((Q.refl wr).alloc _).trans q2); clear q2)
          go_ret
          exact ⟨ret_int (chkE_no (allR_no hlt (by rw [HI.out]; exact HRV.out))).symm, HQ.out.trans Q2.out⟩
        | true =>
          go_wp2_with (go_at_call 76; refine (HC.out _ ((Q.refl wr).alloc _)).mono ?_; rintro e w2 ⟨rfl, q2⟩; have Q2 := hid (((Q.refl wr).alloc _).trans q2); clear q2)
          go_roundw
          case rel =>
            exact ⟨k + 1, by go_num, by omega, HQ.out.trans Q2.out, HP.out.q Q2.out, HF.out.q Q2.out, fun j hj => by
              by_cases e : j = k
              · subst e; rw [HI.out]; exact HRV.out
              · exact HR.out j (by omega)⟩
          case measure => simp [intOf]; omega
    · have hk16 : k = 16 := by omega
      subst hk16
      have HQ := hid hq
      have HR := hid hr
      clear hp hf hq hr Q1 P1 F1
      go_wp2
      go_ret
      exact ⟨ret_int (chkE_ok (allR_of HR.out)).symm, HQ.out⟩
end Go.Proofs.Ytidbimhcebfjfaa
