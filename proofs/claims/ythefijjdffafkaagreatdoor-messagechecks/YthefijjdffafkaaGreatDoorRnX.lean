/-
  readTrailers: a contract that the statements' walks use.
-/
import Derived.Test.YthefijjdffafkaaGreatDoorRnW
namespace Go.Proofs.YthefijjdffafkaaGreatDoor
open Go.RowKit
set_option linter.unusedVariables false
set_option maxRecDepth 20000

theorem trs_stop (r : List Fd) (y : Int) (hy : y ≠ 0) : r.foldl (fun e f => orE e (trE f)) y = y := by
  induction r with
  | nil => rfl
  | cons f r ih => rw [List.foldl_cons, orE_no hy]; exact ih
theorem trs_at {l : List Fd} {k : Nat} {p : Fd} (h : l[k]? = some p) (h0 : trsE (l.take k) = 0) : (trE p ≠ 0 → trsE l = trE p) ∧ (trE p = 0 → trsE (l.take (k + 1)) = 0) := by
  have hk : k < l.length := (List.getElem?_eq_some_iff.1 h).1
  have hp : l[k] = p := (List.getElem?_eq_some_iff.1 h).2
  have e1 : trsE (l.take k ++ [p]) = trE p := by rw [trsE_snoc, orE_ok h0]
  constructor
  · intro hy
    have hl : l = (l.take k ++ [p]) ++ l.drop (k + 1) := by
      conv => lhs; rw [← List.take_append_drop k l]
      rw [List.drop_eq_getElem_cons hk, hp, List.append_assoc]; rfl
    rw [hl]
    generalize l.take k ++ [p] = m at *
    unfold trsE at e1 ⊢
    rw [List.foldl_append, e1]
    exact trs_stop _ _ hy
  · intro hy
    rw [take_snoc h, e1, hy]
set_option maxHeartbeats 8000000 in
theorem rtr_any (x : Sv) (l : List Fd) (c s : Int) (w : World) (h : Fin w x l) : Calls Tryz.prog 27 #[.slice x.a x.n x.c, .agg #[.int .i64 c, .int .i64 s]] w fun e w' => e = endA (traE l c s) (.tuple #[]) ∧ Q w w' := by
  obtain ⟨xa, xn, xc⟩ := x
  have hl := h.len
  dsimp only at hl
  subst hl
  have HX := hid h
  have HR := hid (fun x W => refuse_no x W)
  have HY := hid (fun x W => refuse_yes x W)
  have HQ0 := hid ((Q.refl w).alloc (.cells #[.int .i64 c, .int .i64 s] 24))
  have htr : traE l c s = orE (if muc l c s then 185 else 0) (trsE l) := rfl
  rw [htr]
  clear htr
  cases hm : muc l c s with
  | true =>
    have H32 := hid (fun W q => size_bad ⟨xa, l.length, xc⟩ l c s W (h.q (w' := W) q).s rfl (by have := h.b; omega) h.d hm)
    dsimp only at H32
    have HF := hid (endA_no (.tuple #[]) 185 (show orE (if true = true then 185 else 0) (trsE l) = 185 from by rw [if_pos rfl, orE_no (by decide)]) (by decide))
    generalize orE (if true = true then 185 else 0) (trsE l) = E at *
    clear h hm HX
    go_enter Tryz.func27, Tryz.ntmps27
    go_wp2_with fail
    generalize hW : World.alloc w _ = W0 at *
    clear hW
    refine (H32.out _ HQ0.out).mono ?_
    rintro e w1 ⟨rfl, q1⟩
    exact ⟨rfl, HF.out.symm, HQ0.out.trans q1⟩
  | false =>
    have H32 := hid (fun W q => size_ok ⟨xa, l.length, xc⟩ l c s W (h.q (w' := W) q).s rfl (by have := h.b; omega) h.d hm)
    dsimp only at H32
    rw [if_neg (by decide), orE_ok rfl]
    clear h hm
    go_enter Tryz.func27, Tryz.ntmps27
    go_wp2_with fail
    generalize hW : World.alloc w _ = W0 at *
    clear hW
    refine (H32.out _ HQ0.out).mono ?_
    rintro e w1 ⟨rfl, q1⟩
    have Q1 := hid (HQ0.out.trans q1)
    clear q1 H32
    go_wp2_with fail
    go_loopw [5, 11] (fun b i wr => ∃ k : Nat, k ≤ l.length ∧ i = .int .i64 (k : Int) ∧ trsE (l.take k) = 0 ∧ Q w wr) (fun _ i _ => l.length - (intOf i).toNat)
    case atStart => exact ⟨0, by omega, rfl, rfl, Q1.out⟩
    case round =>
      obtain ⟨k, hk, rfl, h0, hq⟩ := hrel
      have HQ := hid hq
      by_cases hlt : k < l.length
      · obtain ⟨g, off, ⟨p1, p2⟩, ha, hp, c0, c1⟩ := (HX.out.q hq).s.at hlt
        dsimp only at ha
        subst ha
        dsimp only at c0 c1
        have hpm : (p1, p2) ∈ l := List.mem_of_getElem? hp
        have hs2 : p2.size ≤ 140737488355328 := (HX.out.d _ hpm).2
        have HS2 := hid hs2
        have HST := hid (trs_at hp h0)
        have HW0 := hid (hq.alloc (.cells #[.string p1, .string p2] 37))
        have HBx := hid (heap_alloc_new wr (.cells #[.string p1, .string p2] 37))
        have hki : (k : Int) < (l.length : Int) := by omega
        have hk0 : (0 : Int) ≤ (k : Int) := by omega
        have hkb : (k : Int) < 8796093022208 := by have := HX.out.b; omega
        have hT : trE (p1, p2) = orE (if psS p1 then 182 else 0) (orE (txE (p1, p2)) (if hopS (p1, p2) || eqS p1 kLen || eqS p1 kHos || eqS p1 kTe then 184 else 0)) := rfl
        have h1 : (p1.toList == [99, 111, 110, 116, 101, 110, 116, 45, 108, 101, 110, 103, 116, 104]) = eqS p1 kLen := beq_lit p1 _
        have h2 : (p1.toList == [104, 111, 115, 116]) = eqS p1 kHos := beq_lit p1 _
        have h3 : (p1.toList == [116, 101]) = eqS p1 kTe := beq_lit p1 _
        have HC := hid (fun W (q : Q (wr.alloc (.cells #[.string p1, .string p2] 37)) W) => show W.cell? ⟨wr.heap.size, 0, none⟩ = some (.string p1) ∧ W.cell? ⟨wr.heap.size, 1, none⟩ = some (.string p2) from by
          have hb := (Below.block q _ (lt_of_block HBx.out)).trans HBx.out
          exact ⟨by rw [cell_of_row W _ 0 _ 37 (0, 0) hb]; rfl, by rw [cell_of_row W _ 1 _ 37 (0, 0) hb]; rfl⟩)
        have HP0 := hid (pseudo_any p1)
        have HH := hid (fun W => hop_any p1 p2 W)
        clear hq h0 hp hpm hs2
        go_wp2_with (go_at_call 42; refine (HP0.out _).mono ?_; rintro e w2 ⟨rfl, rfl⟩; refine Hid.out ?_)
        refine hid ?_
        generalize hW : World.alloc wr _ = WA at *
        clear hW HBx c0 c1
        generalize wr.heap.size = bx at *
        obtain ⟨c00, c01⟩ := HC.out WA (Q.refl _)
        generalize psS p1 = b1 at *
        generalize hopS (p1, p2) = b2 at *
        generalize eqS p1 kLen = b3 at *
        generalize eqS p1 kHos = b4 at *
        generalize eqS p1 kTe = b5 at *
        cases b1 with
        | true =>
          rw [if_pos rfl, orE_no (by decide)] at hT
          have HF := hid (HST.out.1 (by rw [hT]; decide))
          have HG := hid (endA_no (.tuple #[]) 182 (HF.out.trans hT) (by decide))
          clear HST HF hT h1 h2 h3 HH
          go_wp2_with (go_at_call_of 41 (Value.bool true); refine (HY.out _ _).mono ?_; rintro e w5 ⟨rfl, rfl⟩)
          exact ⟨rfl, HG.out.symm, HW0.out⟩
        | false =>
          rw [if_neg (by decide), orE_ok rfl] at hT
          by_cases htx : txE (p1, p2) = 0
          · have HT := hid (fun W => texts_ok p1 p2 W HS2.out htx)
            rw [orE_ok htx] at hT
            clear htx
            by_cases hb : (b2 || b3 || b4 || b5) = true
            · rw [if_pos hb] at hT
              have HF := hid (HST.out.1 (by rw [hT]; decide))
              have HG := hid (endA_no (.tuple #[]) 184 (HF.out.trans hT) (by decide))
              clear HST HF hT
              cases b2 <;> cases b3 <;> cases b4 <;> cases b5
              all_goals (first | (exact absurd hb (by decide)) | skip)
              all_goals
                clear hb
                go_wp2_with (first | (go_at_call_of 41 (Value.bool false); refine (HR.out _ _).mono ?_; rintro e w5 ⟨rfl, rfl⟩) | (go_at_call 43; refine (HT.out _).mono ?_; rintro e w3 ⟨rfl, q3⟩; have Q3 := hid q3; have d3 := HC.out _ q3; clear q3; obtain ⟨d30, d31⟩ := d3) | (go_at_call 44; refine (HH.out _).mono ?_; rintro e w4 ⟨rfl, q4⟩; have Q4 := hid q4; have d4 := HC.out _ (Q3.out.trans q4); clear q4 d30 d31; obtain ⟨d40, d41⟩ := d4) | (go_at_call_of 41 (Value.bool true); refine (HY.out _ _).mono ?_; rintro e w5 ⟨rfl, rfl⟩))
                exact ⟨rfl, HG.out.symm, (HW0.out.trans Q3.out).trans Q4.out⟩
            · rw [if_neg hb] at hT
              have HN := hid (HST.out.2 hT)
              clear HST hT
              cases b2 <;> cases b3 <;> cases b4 <;> cases b5
              all_goals (first | (exact absurd rfl hb) | skip)
              all_goals
                clear hb
                go_wp2_with (first | (go_at_call_of 41 (Value.bool false); refine (HR.out _ _).mono ?_; rintro e w5 ⟨rfl, rfl⟩) | (go_at_call 43; refine (HT.out _).mono ?_; rintro e w3 ⟨rfl, q3⟩; have Q3 := hid q3; have d3 := HC.out _ q3; clear q3; obtain ⟨d30, d31⟩ := d3) | (go_at_call 44; refine (HH.out _).mono ?_; rintro e w4 ⟨rfl, q4⟩; have Q4 := hid q4; have d4 := HC.out _ (Q3.out.trans q4); clear q4 d30 d31; obtain ⟨d40, d41⟩ := d4))
                go_roundw
                case rel => exact ⟨k + 1, by omega, by go_num, HN.out, (HW0.out.trans Q3.out).trans Q4.out⟩
                case measure => simp [intOf]; omega
          · have HT := hid (fun W => texts_bad p1 p2 W HS2.out _ rfl htx)
            rw [orE_no htx] at hT
            have HF := hid (HST.out.1 (by rw [hT]; exact htx))
            have HG := hid (endA_no (.tuple #[]) _ (HF.out.trans hT) htx)
            clear HST HF hT htx h1 h2 h3 HH
            generalize txE (p1, p2) = y at *
            go_wp2_with (first | (go_at_call_of 41 (Value.bool false); refine (HR.out _ _).mono ?_; rintro e w5 ⟨rfl, rfl⟩) | (go_at_call 43; refine (HT.out _).mono ?_; rintro e w3 ⟨rfl, q3⟩; have Q3 := hid q3; clear q3))
            exact ⟨rfl, HG.out.symm, HW0.out.trans Q3.out⟩
      · have hki : ¬ (k : Int) < (l.length : Int) := by omega
        have HF := hid (endA_ok (.tuple #[]) (show trsE l = 0 by rw [List.take_of_length_le (by omega)] at h0; exact h0))
        clear hq h0
        go_wp2
        go_end0
        exact ⟨HF.out.symm, HQ.out⟩
end Go.Proofs.YthefijjdffafkaaGreatDoor
