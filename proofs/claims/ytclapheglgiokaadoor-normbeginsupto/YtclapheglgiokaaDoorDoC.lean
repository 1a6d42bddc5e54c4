/-
  The document's Trailers, Copy: contracts that the statements' walks use.
-/
import Derived.Test.YtclapheglgiokaaDoorDoB
import Derived.Test.YtclapheglgiokaaDoorRnX
namespace Go.Proofs.YtclapheglgiokaaDoor
open Go.RowKit
set_option linter.unusedVariables false
set_option maxRecDepth 20000

set_option maxHeartbeats 8000000 in
theorem rtrail_any (x : Sv) (l : List Fd) (c s : Int) (w : World) (h : Fin w x l) : Calls Tryd.prog 29 #[.slice x.a x.n x.c, .int .i64 c, .int .i64 s] w fun e w' => e = .returned (.int .i64 (traE l c s)) ∧ Q w w' := by
  obtain ⟨xa, xn, xc⟩ := x
  have hl := h.len
  dsimp only at hl
  subst hl
  have HX := hid h
  have HM := hid (much_any ⟨xa, l.length, xc⟩ l c s w h)
  dsimp only at HM
  have htr : traE l c s = orE (if muc l c s then 185 else 0) (trsE l) := rfl
  rw [htr]
  clear htr h
  cases hm : muc l c s with
  | true =>
    rw [hm] at HM
    rw [if_pos rfl, orE_no (by decide)]
    clear hm HX
    go_enter Tryd.func29, Tryd.ntmps29
    go_wp2_with (go_at_call 38; refine HM.out.mono ?_; rintro e w1 ⟨rfl, q1⟩)
    go_ret
    exact ⟨rfl, q1⟩
  | false =>
    rw [hm] at HM
    rw [if_neg (by decide), orE_ok rfl]
    clear hm
    go_enter Tryd.func29, Tryd.ntmps29
    go_wp2_with (go_at_call 38; refine HM.out.mono ?_; rintro e w1 ⟨rfl, q1⟩; have Q1 := hid q1; clear q1)
    go_loopw [7, 8] (fun i b wr => ∃ k : Nat, k ≤ l.length ∧ i = .int .i64 (k : Int) ∧ trsE (l.take k) = 0 ∧ Q w wr) (fun i _ _ => l.length - (intOf i).toNat)
    case atStart => exact ⟨0, by omega, rfl, rfl, Q1.out⟩
    case round =>
      obtain ⟨k, hk, rfl, h0, hq⟩ := hrel
      have HQ := hid hq
      by_cases hlt : k < l.length
      · obtain ⟨g, off, ⟨p1, p2⟩, ha, hp, c0, c1⟩ := (HX.out.q hq).s.at hlt
        dsimp only at ha
        subst ha
        dsimp only at c0 c1
        have hpm : (p1, p2) ∈ l := List.mem_of_getElem? hp
        have hs1 : p1.size ≤ 140737488355328 := (HX.out.d _ hpm).1
        have hs2 : p2.size ≤ 140737488355328 := (HX.out.d _ hpm).2
        have HNM := hid (fun W => rname_any p1 W hs1)
        have HVL := hid (fun W => rvalue_any p2 W hs2)
        have HP := hid (fun W => rpseudo_any p1 W)
        have HST := hid (trs_at hp h0)
        have HW0 := hid (hq.alloc (.cells #[.string p1, .string p2] 57))
        have HBx := hid (heap_alloc_new wr (.cells #[.string p1, .string p2] 57))
        have hki : (k : Int) < (l.length : Int) := by omega
        have hk0 : (0 : Int) ≤ (k : Int) := by omega
        have hkb : (k : Int) < 8796093022208 := by have := HX.out.b; omega
        have hT : trE (p1, p2) = orE (if psS p1 then 182 else 0) (orE (txE (p1, p2)) (if hopS (p1, p2) || eqS p1 kLen || eqS p1 kHos || eqS p1 kTe then 184 else 0)) := rfl
        have hX : txE (p1, p2) = if !psS p1 && !nmS p1 then 180 else if !vlS p2 then 181 else 0 := rfl
        have h1 : (p1.toList == [99, 111, 110, 116, 101, 110, 116, 45, 108, 101, 110, 103, 116, 104]) = eqS p1 kLen := beq_lit p1 _
        have h2 : (p1.toList == [104, 111, 115, 116]) = eqS p1 kHos := beq_lit p1 _
        have h3 : (p1.toList == [116, 101]) = eqS p1 kTe := beq_lit p1 _
        have HC := hid (fun W (q : Q (wr.alloc (.cells #[.string p1, .string p2] 57)) W) => show W.cell? ⟨wr.heap.size, 0, none⟩ = some (.string p1) ∧ W.cell? ⟨wr.heap.size, 1, none⟩ = some (.string p2) from by
          have hb := (Below.block q _ (lt_of_block HBx.out)).trans HBx.out
          exact ⟨by rw [cell_of_row W _ 0 _ 57 (0, 0) hb]; rfl, by rw [cell_of_row W _ 1 _ 57 (0, 0) hb]; rfl⟩)
        have HH := hid (fun W => rhop_any p1 p2 W)
        have HP0 := hid (rpseudo_any p1)
        clear hq h0 hp hpm hs1 hs2
        go_wp2_with (go_at_call 45; refine (HP0.out _).mono ?_; rintro e w2 ⟨rfl, rfl⟩; refine Hid.out ?_)
        refine hid ?_
        generalize hW : World.alloc wr _ = WA at *
        clear hW HBx c0 c1
        generalize wr.heap.size = bx at *
        obtain ⟨c00, c01⟩ := HC.out WA (Q.refl _)
        rw [hX] at hT
        clear hX
        generalize psS p1 = b1 at *
        generalize nmS p1 = n1 at *
        generalize vlS p2 = v1 at *
        generalize hopS (p1, p2) = b2 at *
        generalize eqS p1 kLen = b3 at *
        generalize eqS p1 kHos = b4 at *
        generalize eqS p1 kTe = b5 at *
        have HTT := hid (show ∀ y, trE (p1, p2) = y → y ≠ 0 → trsE l = y from fun y e hy => (HST.out.1 (by rw [e]; exact hy)).trans e)
        cases b1 with
        | true =>
          have HG := hid (HTT.out 182 (by rw [hT]; rfl) (by decide))
          clear HST HTT hT h1 h2 h3 HH HNM HVL
          go_wp2_with fail
          go_ret
          exact ⟨by rw [HG.out]; rfl, HW0.out⟩
        | false =>
          cases n1 with
          | false =>
            have HG := hid (HTT.out 180 (by rw [hT]; rfl) (by decide))
            clear HST HTT hT h1 h2 h3 HH HVL
            go_wp2_with (go_at_call 55; refine (HNM.out _).mono ?_; rintro e w2 ⟨rfl, rfl⟩)
            go_ret
            exact ⟨by rw [HG.out]; rfl, HW0.out⟩
          | true =>
            cases v1 with
            | false =>
              have HG := hid (HTT.out 181 (by rw [hT]; rfl) (by decide))
              clear HST HTT hT h1 h2 h3 HH
              go_wp2_with (first | (go_at_call 55; refine (HNM.out _).mono ?_; rintro e w2 ⟨rfl, rfl⟩) | (go_at_call 56; refine (HVL.out _).mono ?_; rintro e w2 ⟨rfl, rfl⟩))
              go_ret
              exact ⟨by rw [HG.out]; rfl, HW0.out⟩
            | true =>
              by_cases hb : (b2 || b3 || b4 || b5) = true
              · have HG := hid (HTT.out 184 (by rw [hT, if_pos hb]; rfl) (by decide))
                clear HST HTT hT
                cases b2 <;> cases b3 <;> cases b4 <;> cases b5
                all_goals (first | (exact absurd hb (by decide)) | skip)
                all_goals
                  clear hb
                  go_wp2_with (first | (go_at_call 55; refine (HNM.out _).mono ?_; rintro e w2 ⟨rfl, rfl⟩) | (go_at_call 56; refine (HVL.out _).mono ?_; rintro e w2 ⟨rfl, rfl⟩) | (go_at_call 57; refine (HH.out _).mono ?_; rintro e w4 ⟨rfl, q4⟩; have Q4 := hid q4; have d4 := HC.out _ q4; clear q4 c00 c01; obtain ⟨d40, d41⟩ := d4))
                  go_ret
                  exact ⟨by rw [HG.out]; rfl, HW0.out.trans Q4.out⟩
              · have HN := hid (HST.out.2 (by rw [hT, if_neg hb]; rfl))
                clear HST HTT hT
                cases b2 <;> cases b3 <;> cases b4 <;> cases b5
                all_goals (first | (exact absurd rfl hb) | skip)
                all_goals
                  clear hb
                  go_wp2_with (first | (go_at_call 55; refine (HNM.out _).mono ?_; rintro e w2 ⟨rfl, rfl⟩) | (go_at_call 56; refine (HVL.out _).mono ?_; rintro e w2 ⟨rfl, rfl⟩) | (go_at_call 57; refine (HH.out _).mono ?_; rintro e w4 ⟨rfl, q4⟩; have Q4 := hid q4; have d4 := HC.out _ q4; clear q4 c00 c01; obtain ⟨d40, d41⟩ := d4))
                  go_roundw
                  case rel => exact ⟨k + 1, by omega, by go_num, HN.out, HW0.out.trans Q4.out⟩
                  case measure => simp [intOf]; omega
      · have hki : ¬ (k : Int) < (l.length : Int) := by omega
        have HG := hid (show trsE l = 0 from by rw [List.take_of_length_le (by omega)] at h0; exact h0)
        clear hq h0
        go_wp2
        go_ret
        exact ⟨by rw [HG.out]; rfl, HQ.out⟩
end Go.Proofs.YtclapheglgiokaaDoor
