/-
  What frame.fieldsHold and Check do: contracts that the statements' walks use.
-/
import Derived.Test.YtdoodbaogmdloabSpans
namespace Go.Proofs.Ytdoodbaogmdloab
open Go.RowKit
set_option linter.unusedVariables false
set_option maxRecDepth 20000

set_option maxHeartbeats 4000000 in
theorem fh0 (k i pl num code : Int) (fin : Bool) (data cid : List Int) (sp : List (Int × Int)) (dl e0 e1 e2 : Int) (da ca : Option Addr) (dn dc cn cc : Nat) (s : Sv) (w : World) (hdl : data.length = dn) (hcl : cid.length = cn) (hd : dn ≤ 16384) (hc : cn ≤ 140737488355328) (k0 : k = 0) :
    Calls Try.prog 46 #[fv ⟨k, i, pl, num, code, fin, data, cid, sp, dl, e0, e1, e2⟩ ⟨da, dn, dc⟩ ⟨ca, cn, cc⟩ s] w fun e w' => e = .returned (.bool (fieldsB ⟨k, i, pl, num, code, fin, data, cid, sp, dl, e0, e1, e2⟩)) ∧ Q w w' := by
  subst k0
  have HR0 : ∀ b : Bool, b = decide (1 ≤ num ∧ num ≤ 16384) → b = fieldsB ⟨0, i, pl, num, code, fin, data, cid, sp, dl, e0, e1, e2⟩ := by intro b hb; rw [hb]; rfl
  have HR := hid HR0; clear HR0
  clear hdl hcl
  by_cases h1 : 1 ≤ num
  · by_cases h2 : num ≤ 16384
    all_goals
      go_enter Try.func46, Try.ntmps46
      go_wp2
      go_ret
      exact ⟨ret_bool (HR.out _ (by first | (rw [decide_eq_false (by omega)]; done) | (rw [decide_eq_true (by omega)]; done) | (rw [Bool.eq_iff_iff]; simp; omega))), (Q.refl _).alloc _⟩
  · go_enter Try.func46, Try.ntmps46
    go_wp2
    go_ret
    exact ⟨ret_bool (HR.out _ (by first | (rw [decide_eq_false (by omega)]; done) | (rw [decide_eq_true (by omega)]; done) | (rw [Bool.eq_iff_iff]; simp; omega))), (Q.refl _).alloc _⟩

set_option maxHeartbeats 4000000 in
theorem fh2 (k i pl num code : Int) (fin : Bool) (data cid : List Int) (sp : List (Int × Int)) (dl e0 e1 e2 : Int) (da ca : Option Addr) (dn dc cn cc : Nat) (s : Sv) (w : World) (hdl : data.length = dn) (hcl : cid.length = cn) (hd : dn ≤ 16384) (hc : cn ≤ 140737488355328) (k2 : k = 2 ∨ k = 3) (hsl : sp.length = s.n) (hss : SegS w s.a sp) :
    Calls Try.prog 46 #[fv ⟨k, i, pl, num, code, fin, data, cid, sp, dl, e0, e1, e2⟩ ⟨da, dn, dc⟩ ⟨ca, cn, cc⟩ s] w fun e w' => e = .returned (.bool (fieldsB ⟨k, i, pl, num, code, fin, data, cid, sp, dl, e0, e1, e2⟩)) ∧ Q w w' := by
  have HS := hid hss
  have HL := hid hsl
  clear hss hsl hdl hcl
  rcases k2 with rfl | rfl
  all_goals
    go_enter Try.func46, Try.ntmps46
    go_wp2_with fail
    refine (spansHold_any s sp _ HL.out (HS.out.q ((Q.refl w).alloc _))).mono ?_
    rintro e w1 ⟨rfl, hq⟩
    have H1 := hid hq
    clear hq
    go_wp2
    go_ret
    exact ⟨rfl, ((Q.refl w).alloc _).trans H1.out⟩

set_option maxHeartbeats 4000000 in
theorem fh6 (k i pl num code : Int) (fin : Bool) (data cid : List Int) (sp : List (Int × Int)) (dl e0 e1 e2 : Int) (da ca : Option Addr) (dn dc cn cc : Nat) (s : Sv) (w : World) (hdl : data.length = dn) (hcl : cid.length = cn) (hd : dn ≤ 16384) (hc : cn ≤ 140737488355328) (k6 : k = 6 ∨ k = 8) :
    Calls Try.prog 46 #[fv ⟨k, i, pl, num, code, fin, data, cid, sp, dl, e0, e1, e2⟩ ⟨da, dn, dc⟩ ⟨ca, cn, cc⟩ s] w fun e w' => e = .returned (.bool (fieldsB ⟨k, i, pl, num, code, fin, data, cid, sp, dl, e0, e1, e2⟩)) ∧ Q w w' := by
  have hw : IntKind.i64.wrap (4611686018427387903 - (dn : Int)) = 4611686018427387903 - (dn : Int) := by rw [IntKind.wrap_i64]; omega
  have HL := hid hdl
  clear hdl hcl
  rcases k6 with rfl | rfl
  all_goals
    go_enter Try.func46, Try.ntmps46
    go_wp2
    go_ret
    exact ⟨ret_bool (by simp only [fieldsB]; rw [HL.out]; rfl), (Q.refl _).alloc _⟩

set_option maxHeartbeats 4000000 in
theorem fh7 (k i pl num code : Int) (fin : Bool) (data cid : List Int) (sp : List (Int × Int)) (dl e0 e1 e2 : Int) (da ca : Option Addr) (dn dc cn cc : Nat) (s : Sv) (w : World) (hdl : data.length = dn) (hcl : cid.length = cn) (hd : dn ≤ 16384) (hc : cn ≤ 140737488355328) (k7 : k = 7) :
    Calls Try.prog 46 #[fv ⟨k, i, pl, num, code, fin, data, cid, sp, dl, e0, e1, e2⟩ ⟨da, dn, dc⟩ ⟨ca, cn, cc⟩ s] w fun e w' => e = .returned (.bool (fieldsB ⟨k, i, pl, num, code, fin, data, cid, sp, dl, e0, e1, e2⟩)) ∧ Q w w' := by
  subst k7
  have HL := hid hdl
  clear hdl hcl
  go_enter Try.func46, Try.ntmps46
  go_wp2
  go_ret
  refine ⟨ret_bool ?_, (Q.refl _).alloc _⟩
  show _ = decide (0 < data.length)
  rw [HL.out]
  try simp

set_option maxHeartbeats 4000000 in
theorem fh18 (k i pl num code : Int) (fin : Bool) (data cid : List Int) (sp : List (Int × Int)) (dl e0 e1 e2 : Int) (da ca : Option Addr) (dn dc cn cc : Nat) (s : Sv) (w : World) (hdl : data.length = dn) (hcl : cid.length = cn) (hd : dn ≤ 16384) (hc : cn ≤ 140737488355328) (k18 : k = 18 ∨ k = 19 ∨ k = 22 ∨ k = 23) :
    Calls Try.prog 46 #[fv ⟨k, i, pl, num, code, fin, data, cid, sp, dl, e0, e1, e2⟩ ⟨da, dn, dc⟩ ⟨ca, cn, cc⟩ s] w fun e w' => e = .returned (.bool (fieldsB ⟨k, i, pl, num, code, fin, data, cid, sp, dl, e0, e1, e2⟩)) ∧ Q w w' := by
  clear hdl hcl
  rcases k18 with rfl | rfl | rfl | rfl
  all_goals
    go_enter Try.func46, Try.ntmps46
    go_wp2
    go_ret
    exact ⟨ret_bool (show _ = decide (num ≤ 1152921504606846976) from rfl), (Q.refl _).alloc _⟩

set_option maxHeartbeats 4000000 in
theorem fh24 (k i pl num code : Int) (fin : Bool) (data cid : List Int) (sp : List (Int × Int)) (dl e0 e1 e2 : Int) (da ca : Option Addr) (dn dc cn cc : Nat) (s : Sv) (w : World) (hdl : data.length = dn) (hcl : cid.length = cn) (hd : dn ≤ 16384) (hc : cn ≤ 140737488355328) (k24 : k = 24) :
    Calls Try.prog 46 #[fv ⟨k, i, pl, num, code, fin, data, cid, sp, dl, e0, e1, e2⟩ ⟨da, dn, dc⟩ ⟨ca, cn, cc⟩ s] w fun e w' => e = .returned (.bool (fieldsB ⟨k, i, pl, num, code, fin, data, cid, sp, dl, e0, e1, e2⟩)) ∧ Q w w' := by
  subst k24
  have HR0 : ∀ b : Bool, b = decide (pl ≤ num ∧ 1 ≤ cn ∧ cn ≤ 20 ∧ dn = 16) → b = fieldsB ⟨24, i, pl, num, code, fin, data, cid, sp, dl, e0, e1, e2⟩ := by intro b hb; rw [hb, ← hdl, ← hcl]; rfl
  have HR := hid HR0; clear HR0
  clear hdl hcl
  by_cases h1 : pl ≤ num
  · by_cases h2 : (1 : Int) ≤ (cn : Int)
    · have h2' : 1 ≤ cn := by omega
      by_cases h3 : (cn : Int) ≤ 20
      · have h3' : cn ≤ 20 := by omega
        by_cases h4 : (dn : Int) = 16
        · have h4' : dn = 16 := by omega
          have h5 : ((dn : Int) == 16) = true := by simp [h4]
          go_enter Try.func46, Try.ntmps46
          go_wp2
          go_ret
          exact ⟨ret_bool (HR.out _ (by first | (rw [decide_eq_false (by omega)]; done) | (rw [decide_eq_true (by omega)]; done) | (rw [Bool.eq_iff_iff]; simp; omega))), (Q.refl _).alloc _⟩
        · have h4' : ¬ dn = 16 := by omega
          have h5 : ((dn : Int) == 16) = false := by simp; omega
          go_enter Try.func46, Try.ntmps46
          go_wp2
          go_ret
          exact ⟨ret_bool (HR.out _ (by first | (rw [decide_eq_false (by omega)]; done) | (rw [decide_eq_true (by omega)]; done) | (rw [Bool.eq_iff_iff]; simp; omega))), (Q.refl _).alloc _⟩
      · have h3' : ¬ cn ≤ 20 := by omega
        go_enter Try.func46, Try.ntmps46
        go_wp2
        go_ret
        exact ⟨ret_bool (HR.out _ (by first | (rw [decide_eq_false (by omega)]; done) | (rw [decide_eq_true (by omega)]; done) | (rw [Bool.eq_iff_iff]; simp; omega))), (Q.refl _).alloc _⟩
    · have h2' : ¬ 1 ≤ cn := by omega
      have h2'' : decide ((1 : Int) ≤ (cn : Int)) = false := by simp; omega
      have h2c : cn = 0 := by omega
      subst h2c
      go_enter Try.func46, Try.ntmps46
      go_wp2
      go_ret
      exact ⟨ret_bool (HR.out _ (by first | (rw [decide_eq_false (by omega)]; done) | (rw [decide_eq_true (by omega)]; done) | (rw [Bool.eq_iff_iff]; simp; omega))), (Q.refl _).alloc _⟩
  · go_enter Try.func46, Try.ntmps46
    go_wp2
    go_ret
    exact ⟨ret_bool (HR.out _ (by first | (rw [decide_eq_false (by omega)]; done) | (rw [decide_eq_true (by omega)]; done) | (rw [Bool.eq_iff_iff]; simp; omega))), (Q.refl _).alloc _⟩

set_option maxHeartbeats 4000000 in
theorem fh26 (k i pl num code : Int) (fin : Bool) (data cid : List Int) (sp : List (Int × Int)) (dl e0 e1 e2 : Int) (da ca : Option Addr) (dn dc cn cc : Nat) (s : Sv) (w : World) (hdl : data.length = dn) (hcl : cid.length = cn) (hd : dn ≤ 16384) (hc : cn ≤ 140737488355328) (k26 : k = 26 ∨ k = 27) :
    Calls Try.prog 46 #[fv ⟨k, i, pl, num, code, fin, data, cid, sp, dl, e0, e1, e2⟩ ⟨da, dn, dc⟩ ⟨ca, cn, cc⟩ s] w fun e w' => e = .returned (.bool (fieldsB ⟨k, i, pl, num, code, fin, data, cid, sp, dl, e0, e1, e2⟩)) ∧ Q w w' := by
  have HL := hid hdl
  clear hdl hcl
  rcases k26 with rfl | rfl
  all_goals
    go_enter Try.func46, Try.ntmps46
    go_wp2
    go_ret
    refine ⟨ret_bool ?_, (Q.refl _).alloc _⟩
    show _ = decide (data.length = 8)
    rw [HL.out]
    rw [Bool.eq_iff_iff]
    simp
    try omega

set_option maxHeartbeats 4000000 in
theorem fhNo (k i pl num code : Int) (fin : Bool) (data cid : List Int) (sp : List (Int × Int)) (dl e0 e1 e2 : Int) (da ca : Option Addr) (dn dc cn cc : Nat) (s : Sv) (w : World) (hdl : data.length = dn) (hcl : cid.length = cn) (hd : dn ≤ 16384) (hc : cn ≤ 140737488355328) (k0 : ¬ k = 0) (k2 : ¬ (k = 2 ∨ k = 3)) (k6 : ¬ (k = 6 ∨ k = 8)) (k7 : ¬ k = 7) (k18 : ¬ (k = 18 ∨ k = 19 ∨ k = 22 ∨ k = 23)) (k24 : ¬ k = 24) (k26 : ¬ (k = 26 ∨ k = 27)) :
    Calls Try.prog 46 #[fv ⟨k, i, pl, num, code, fin, data, cid, sp, dl, e0, e1, e2⟩ ⟨da, dn, dc⟩ ⟨ca, cn, cc⟩ s] w fun e w' => e = .returned (.bool (fieldsB ⟨k, i, pl, num, code, fin, data, cid, sp, dl, e0, e1, e2⟩)) ∧ Q w w' := by
  have HR := hid (show fieldsB ⟨k, i, pl, num, code, fin, data, cid, sp, dl, e0, e1, e2⟩ = true from by simp only [fieldsB]; rw [if_neg k0, if_neg k2, if_neg k6, if_neg k7, if_neg k18, if_neg k24, if_neg k26])
  have b0 : (k == 0) = false := by simp; omega
  have b2 : (k == 2) = false := by simp; omega
  have b3 : (k == 3) = false := by simp; omega
  have b6 : (k == 6) = false := by simp; omega
  have b8 : (k == 8) = false := by simp; omega
  have b7 : (k == 7) = false := by simp; omega
  have b18 : (k == 18) = false := by simp; omega
  have b19 : (k == 19) = false := by simp; omega
  have b22 : (k == 22) = false := by simp; omega
  have b23 : (k == 23) = false := by simp; omega
  have b24 : (k == 24) = false := by simp; omega
  have b26 : (k == 26) = false := by simp; omega
  have b27 : (k == 27) = false := by simp; omega
  clear hdl hcl k0 k2 k6 k7 k18 k24 k26
  go_enter Try.func46, Try.ntmps46
  go_wp2
  go_ret
  exact ⟨ret_bool HR.out.symm, (Q.refl _).alloc _⟩


theorem fieldsHold_any (f : Fr) (d c s : Sv) (w : World) (h : Holds w f d c s) (hd : d.n ≤ 16384) (hc : c.n ≤ 140737488355328) : Calls Try.prog 46 #[fv f d c s] w fun e w' => e = .returned (.bool (fieldsB f)) ∧ Q w w' := by
  obtain ⟨da, dn, dc⟩ := d
  obtain ⟨ca, cn, cc⟩ := c
  obtain ⟨k, i, pl, num, code, fin, data, cid, sp, dl, e0, e1, e2⟩ := f
  by_cases k0 : k = 0
  · exact fh0 _ _ _ _ _ _ _ _ _ _ _ _ _ _ _ _ _ _ _ _ _ h.dl h.cl hd hc k0
  by_cases k2 : k = 2 ∨ k = 3
  · exact fh2 _ _ _ _ _ _ _ _ _ _ _ _ _ _ _ _ _ _ _ _ _ h.dl h.cl hd hc k2 h.sl h.ss
  by_cases k6 : k = 6 ∨ k = 8
  · exact fh6 _ _ _ _ _ _ _ _ _ _ _ _ _ _ _ _ _ _ _ _ _ h.dl h.cl hd hc k6
  by_cases k7 : k = 7
  · exact fh7 _ _ _ _ _ _ _ _ _ _ _ _ _ _ _ _ _ _ _ _ _ h.dl h.cl hd hc k7
  by_cases k18 : k = 18 ∨ k = 19 ∨ k = 22 ∨ k = 23
  · exact fh18 _ _ _ _ _ _ _ _ _ _ _ _ _ _ _ _ _ _ _ _ _ h.dl h.cl hd hc k18
  by_cases k24 : k = 24
  · exact fh24 _ _ _ _ _ _ _ _ _ _ _ _ _ _ _ _ _ _ _ _ _ h.dl h.cl hd hc k24
  by_cases k26 : k = 26 ∨ k = 27
  · exact fh26 _ _ _ _ _ _ _ _ _ _ _ _ _ _ _ _ _ _ _ _ _ h.dl h.cl hd hc k26
  · exact fhNo _ _ _ _ _ _ _ _ _ _ _ _ _ _ _ _ _ _ _ _ _ h.dl h.cl hd hc k0 k2 k6 k7 k18 k24 k26

set_option maxHeartbeats 1000000 in
theorem check_any (f : Fr) (d c s : Sv) (w : World) (h : Holds w f d c s) (hd : d.n ≤ 140737488355328) (hc : c.n ≤ 140737488355328) : Calls Try.prog 25 #[fv f d c s] w fun e w' => e = .returned (.int .i64 (chk f)) ∧ Q w w' := by
  have hdl := h.dl
  have HH := hid h
  clear h
  cases hk : isK f.kind
  · have HR := hid (show chk f = 50 from by unfold chk; rw [if_pos hk])
    have HK := hid hk
    clear hk hdl
    go_enter Try.func25, Try.ntmps25
    go_wp2_with (go_at_call 44; refine (isKind_any _ _).mono ?_; rintro e w' ⟨rfl, rfl⟩; rw [HK.out])
    go_ret
    exact ⟨ret_int HR.out.symm, (Q.refl _).alloc _⟩
  · have HK := hid hk
    by_cases hn : 16384 < d.n
    · have HR := hid (show chk f = 52 from by unfold chk; rw [hk, if_neg (by simp), if_pos (by omega)])
      have hi : (16384 : Int) < (d.n : Int) := by omega
      clear hk hdl
      go_enter Try.func25, Try.ntmps25
      go_wp2_with (go_at_call 44; refine (isKind_any _ _).mono ?_; rintro e w' ⟨rfl, rfl⟩; rw [HK.out])
      go_ret
      exact ⟨ret_int HR.out.symm, (Q.refl _).alloc _⟩
    · have hi : ¬ (16384 : Int) < (d.n : Int) := by omega
      cases hnum : numsB f
      · have HR := hid (show chk f = 51 from by unfold chk; rw [hk, if_neg (by simp), if_neg (by omega), hnum]; rfl)
        have HN := hid hnum
        clear hk hdl hnum
        go_enter Try.func25, Try.ntmps25
        go_wp2_with (go_at_call 44; refine (isKind_any _ _).mono ?_; rintro e w' ⟨rfl, rfl⟩; rw [HK.out])
        refine (numbersHold_any f d c s _).mono ?_
        rintro e w1 ⟨rfl, hq⟩
        rw [HN.out]
        have HQ := hid hq
        clear hq
        go_wp2
        go_ret
        exact ⟨ret_int HR.out.symm, ((Q.refl _).alloc _).trans HQ.out⟩
      · have HN := hid hnum
        have HC := hid (show chk f = if fieldsB f = false then 51 else 0 from by unfold chk; rw [hk, if_neg (by simp), if_neg (by omega), hnum]; rfl)
        clear hk hdl hnum
        go_enter Try.func25, Try.ntmps25
        go_wp2_with (go_at_call 44; refine (isKind_any _ _).mono ?_; rintro e w' ⟨rfl, rfl⟩; rw [HK.out])
        refine (numbersHold_any f d c s _).mono ?_
        rintro e w1 ⟨rfl, hq⟩
        rw [HN.out]
        have hbx : Box w1 34 w.heap.size f d c s := Box.q (w := w.alloc _) (heap_alloc_new w _) hq
        have HQ := hid (((Q.refl w).alloc _).trans hq)
        have c0 := hbx.c0
        have c1 := hbx.c1
        have c2 := hbx.c2
        have c3 := hbx.c3
        have c4 := hbx.c4
        have c5 := hbx.c5
        have c6 := hbx.c6
        have c7 := hbx.c7
        have c8 := hbx.c8
        have c9 := hbx.c9
        have c10 := hbx.c10
        have c11 := hbx.c11
        have c12 := hbx.c12
        clear hq hbx
        go_wp2_with fail
        refine (fieldsHold_any f d c s _ (HH.out.q HQ.out) (by omega) hc).mono ?_
        rintro e w2 ⟨rfl, hq2⟩
        have H2 := hid (HQ.out.trans hq2)
        clear hq2
        cases hf : fieldsB f
        all_goals
          have HF := hid hf
          clear hf
          go_wp2
          go_ret
          exact ⟨ret_int (by rw [HC.out, HF.out]; rfl), H2.out⟩
end Go.Proofs.Ytdoodbaogmdloab
