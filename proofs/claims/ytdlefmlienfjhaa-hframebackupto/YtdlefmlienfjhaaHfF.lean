/-
  A reader's comes: a contract that the statements' walks use.
-/
import Derived.Test.YtdlefmlienfjhaaHfE
import Derived.BigQuiet
import Derived.Deep.QuietTactic
namespace Go.Proofs.Ytdlefmlienfjhaa
open Go.RowKit
set_option linter.unusedVariables false
set_option maxRecDepth 100000

theorem com_of_in {H : Hf} (h : H.ins = true) : com H = (rdy H, H) := by unfold com; rw [if_pos h]
set_option maxHeartbeats 8000000 in
theorem comes_any (rb : Nat) (H : Hf) (s : Sv) (w : World) (h : HI w rb H s) (hk : Hok H) (hf : H.fault = 0) (hn : s.n ≤ 140737488355328) :
    Calls Try.prog 30 #[.pointer (some ⟨rb, 0, none⟩)] w fun e w' => ∃ s' : Sv, e = .returned (.bool (com H).1) ∧ HI w' rb (com H).2 s' ∧ Keep (fun b => b = rb) w w' ∧ From s s' := by
  have c5 := h.c5
  have HH := hid h
  cases hi : H.ins with
  | true =>
    have HE := hid (show com H = (rdy H, H) by unfold com; rw [if_pos hi])
    rw [HE.out]
    have HR := hid (rfl : rdy H = rdy H)
    have c1 := h.c1
    have c2 := h.c2
    have c6 := h.c6
    have c7 := h.c7
    have hl := h.len
    have HB := hid (bound_any rb H.lim H.fr w c1)
    rw [hi] at c5
    have HRR := hid (show rdy H = if bnd H.fr then decide (H.left ≤ (s.n : Int)) else decide (min H.left 1 ≤ (s.n : Int)) by unfold rdy; rw [hl])
    rw [HRR.out]
    clear h HE HR hl hi hk HRR hf
    dsimp only
    generalize H.left = L at *
    generalize mostOf H.lim H.fr = M at *
    generalize hB : bnd H.fr = bb at *
    clear hB
    cases bb
    · simp only [Bool.false_eq_true, if_false]
      go_enter Try.func30, Try.ntmps30
      go_wp2_with (go_at_call 39; refine HB.out.mono ?_; rintro e w1 ⟨rfl, rfl⟩)
      go_quiet (fail)
      go_wp2
      (try simp only [Exit.inBlock, Exit.then]); refine bodyPost_ret (results_tmp (t := 2) rfl _ _ _) rfl ?_
      exact ⟨s, rfl, HH.out.q ((Q.refl w).drewN _), (Keep.refl _ w).drewN _, From.refl _⟩
    · simp only [if_true]
      go_enter Try.func30, Try.ntmps30
      go_wp2_with (go_at_call 39; refine HB.out.mono ?_; rintro e w1 ⟨rfl, rfl⟩)
      go_quiet (fail)
      go_wp2
      (try simp only [Exit.inBlock, Exit.then]); refine bodyPost_ret (results_tmp (t := 2) rfl _ _ _) rfl ?_
      exact ⟨s, rfl, HH.out.q ((Q.refl w).drewN _), (Keep.refl _ w).drewN _, From.refl _⟩
  | false =>
    have HEN := hid (enter_any rb H s w h hk hf hn)
    rw [hi] at c5
    cases he : (ent H).1 with
    | false =>
      have HE := hid (show com H = (false, (ent H).2) by unfold com; rw [hi, he]; rfl)
      rw [HE.out]
      rw [he] at HEN
      clear h HE hi hk hf he
      dsimp only
      go_enter Try.func30, Try.ntmps30
      go_wp2_with (go_at_call 38; refine HEN.out.mono ?_; rintro e w1 ⟨s', rfl, h1, k1, f1⟩; have HX := hid (And.intro h1 (And.intro k1 f1)); clear h1 k1 f1)
      (try simp only [Exit.inBlock, Exit.then]); refine bodyPost_ret (results_tmp (t := 2) rfl _ _ _) rfl ?_
      exact ⟨s', rfl, HX.out⟩
    | true =>
      have HE := hid (show com H = (rdy (ent H).2, (ent H).2) by unfold com; rw [hi, he]; rfl)
      rw [HE.out]
      rw [he] at HEN
      clear h HE hi hk hf he
      dsimp only
      generalize (ent H).2 = G at *
      obtain ⟨R, hR⟩ : ∃ R, rdy G = R := ⟨_, rfl⟩
      rw [hR]
      have HRW := hid hR
      clear hR
      go_enter Try.func30, Try.ntmps30
      go_wp2_with (go_at_call 38; refine HEN.out.mono ?_; rintro e w1 ⟨t, rfl, h1, k1, f1⟩; have HX := hid (And.intro h1 (And.intro k1 f1)); have g1 := h1.c1; have g2 := h1.c2; have g6 := h1.c6; have g7 := h1.c7; have hl := h1.len; clear h1 k1 f1; refine Hid.out ?_)
      refine hid ?_
      have HB := hid (bound_any rb G.lim G.fr w1 g1)
      have HRR := hid (show R = if bnd G.fr then decide (G.left ≤ (t.n : Int)) else decide (min G.left 1 ≤ (t.n : Int)) by rw [← HRW.out]; unfold rdy; rw [hl])
      clear hl HRW
      generalize G.left = L at *
      generalize mostOf G.lim G.fr = M at *
      generalize hB : bnd G.fr = bb at *
      clear hB
      cases bb
      · have HR2 := hid (show R = decide (min L 1 ≤ (t.n : Int)) from HRR.out)
        clear HRR
        go_wp2_with (go_at_call 39; refine HB.out.mono ?_; rintro e w2 ⟨rfl, rfl⟩)
        go_quiet (fail)
        go_wp2
        (try simp only [Exit.inBlock, Exit.then]); refine bodyPost_ret (results_tmp (t := 2) rfl _ _ _) rfl ?_
        exact ⟨t, by rw [HR2.out]; rfl, HX.out.1.q ((Q.refl w1).drewN _), HX.out.2.1.drewN _, HX.out.2.2⟩
      · have HR2 := hid (show R = decide (L ≤ (t.n : Int)) from HRR.out)
        clear HRR
        go_wp2_with (go_at_call 39; refine HB.out.mono ?_; rintro e w2 ⟨rfl, rfl⟩)
        go_quiet (fail)
        go_wp2
        (try simp only [Exit.inBlock, Exit.then]); refine bodyPost_ret (results_tmp (t := 2) rfl _ _ _) rfl ?_
        exact ⟨t, by rw [HR2.out]; rfl, HX.out.1.q ((Q.refl w1).drewN _), HX.out.2.1.drewN _, HX.out.2.2⟩
end Go.Proofs.Ytdlefmlienfjhaa
