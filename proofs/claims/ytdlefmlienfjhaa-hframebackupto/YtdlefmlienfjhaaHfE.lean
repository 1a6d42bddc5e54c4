/-
  A reader's enter and comes: contracts that the statements' walks use.
-/
import Derived.Test.YtdlefmlienfjhaaHfD
namespace Go.Proofs.Ytdlefmlienfjhaa
open Go.RowKit
set_option linter.unusedVariables false
set_option maxRecDepth 100000

theorem begun_three {H : Hf} (hk : Hok H) : H.begun = 0 ∨ H.begun = 1 ∨ H.begun = 2 := by have := hk.b; omega
set_option maxHeartbeats 8000000 in
theorem enter_any (rb : Nat) (H : Hf) (s : Sv) (w : World) (h : HI w rb H s) (hk : Hok H) (hf : H.fault = 0) (hn : s.n ≤ 140737488355328) :
    Calls Try.prog 38 #[.pointer (some ⟨rb, 0, none⟩)] w fun e w' => ∃ s' : Sv, e = .returned (.bool (ent H).1) ∧ HI w' rb (ent H).2 s' ∧ Keep (fun b => b = rb) w w' ∧ From s s' := by
  have hl := h.len
  have HH := hid h
  have c2 := h.c2
  have HG := hid (fun p => get_any s.a s.n s.c H.held p w hl (by omega) hk.z (Row.seg h.r))
  obtain ⟨m, p, f, hx⟩ : ∃ m p f, rd H.held 0 = (m, p, f) := ⟨_, _, _, rfl⟩
  have HG0 := hid (HG.out 0)
  rw [hx] at HG0
  by_cases hf1 : f = 0
  · subst hf1
    obtain ⟨n, q, g, hy⟩ : ∃ n q g, rd H.held p = (n, q, g) := ⟨_, _, _, rfl⟩
    have HG1 := hid (HG.out p)
    rw [hy] at HG1
    by_cases hg1 : g = 0
    · subst hg1
      have r1 := rd_in hx hk.z
      have r2 := rd_in hy hk.z
      have HR := hid (refusal_any rb H.st H.lim H.begun m n w hk.s (begun_three hk) h.c0 h.c1 h.c4)
      have c9 := h.c9
      have f9 := h.f 9
      by_cases hr : refu H.st H.lim H.begun m n = 0
      · have HE := hid (show ent H = (true, { H with held := H.held.drop q.toNat, fr := m, left := n, ins := true, begun := if m = 1 ∨ m = 4 then H.begun + 1 else H.begun, fault := 0 }) by
          unfold ent; rw [hx]; dsimp only; rw [hy]; dsimp only; rw [if_neg (by simp), if_neg (by simp), if_neg (by simpa using hr)])
        rw [HE.out]
        rw [hr] at HR
        obtain ⟨q, rfl⟩ := Int.eq_ofNat_of_zero_le (show 0 ≤ q by omega)
        rw [Int.toNat_natCast]
        have HS1 := hid (h.set 9 (.int .i64 0) { H with fault := 0 } rfl rfl)
        have HK1 := hid (keepSet w rb 9 (.int .i64 0))
        have HP := hid (pass_any rb { H with fault := 0 } s q _ HS1.out (by show q ≤ H.held.length; omega) hn)
        have hb := hk.b
        clear h hx hy hr HE hk HG hl hf
        dsimp only
        by_cases hm : m = 1 ∨ m = 4
        · rw [if_pos hm]
          have hbw : H.begun + 1 ≤ 9223372036854775807 := by omega
          have hbw2 : -9223372036854775808 ≤ H.begun + 1 := by omega
          have key : ∀ x1 x4 : Bool, (m == 1) = x1 → (m == 4) = x4 → (x1 = true ∨ (x1 = false ∧ x4 = true)) → Calls Try.prog 38 #[.pointer (some ⟨rb, 0, none⟩)] w fun e w' => ∃ s' : Sv, e = .returned (.bool true) ∧ HI w' rb { H with held := H.held.drop q, fr := m, left := n, ins := true, begun := H.begun + 1, fault := 0 } s' ∧ Keep (fun b => b = rb) w w' ∧ From s s' := by
            clear hm
            intro x1 x4 e1 e4 hc
            rcases hc with rfl | ⟨rfl, rfl⟩
            all_goals
              go_enter Try.func38, Try.ntmps38
              go_wp2_with (first
                | (go_at_call 50; first | (refine HG0.out.mono ?_; rintro e w1 ⟨rfl, rfl⟩; clear HG0) | (refine HG1.out.mono ?_; rintro e w1 ⟨rfl, rfl⟩))
                | (go_at_call 51; refine HR.out.mono ?_; rintro e w1 ⟨rfl, rfl⟩)
                | (go_at_call 40; refine HP.out.mono ?_; rintro e w2 ⟨⟨ta, tn, tc⟩, rfl, h2, k2, fr2, sg2⟩; have H2 := hid h2; have K2 := hid k2; have F2 := hid fr2; have g4 := h2.c4; have g5 := h2.c5; have g6 := h2.c6; have g7 := h2.c7; have e4 := h2.f 4; have e5 := h2.f 5; have e6 := h2.f 6; have e7 := h2.f 7; clear h2 k2 fr2 sg2))
              (try simp only [Exit.inBlock, Exit.then]); refine bodyPost_ret (results_tmp (t := 2) rfl _ _ _) rfl ?_
              refine ⟨⟨ta, tn, tc⟩, rfl, ?_, ?_, F2.out⟩
              · exact (((H2.out.set 6 _ { H with held := H.held.drop q, fault := 0, fr := m } rfl rfl).set 7 _ { H with held := H.held.drop q, fault := 0, fr := m, left := n } rfl rfl).set 5 _ { H with held := H.held.drop q, fault := 0, fr := m, left := n, ins := true } rfl rfl).set 4 _ { H with held := H.held.drop q, fault := 0, fr := m, left := n, ins := true, begun := H.begun + 1 } rfl rfl
              · exact (((((HK1.out.trans K2.out).trans (keepSet _ rb 6 _)).trans (keepSet _ rb 7 _)).trans (keepSet _ rb 5 _)).trans (keepSet _ rb 4 _))
          refine key _ _ rfl rfl ?_
          rcases hm with rfl | rfl
          · exact .inl rfl
          · exact .inr ⟨rfl, rfl⟩
        · rw [if_neg hm]
          have m1 : (m == 1) = false := beq_eq_false_iff_ne.2 (fun x => hm (.inl x))
          have m4 : (m == 4) = false := beq_eq_false_iff_ne.2 (fun x => hm (.inr x))
          clear hm
          go_enter Try.func38, Try.ntmps38
          go_wp2_with (first
            | (go_at_call 50; first | (refine HG0.out.mono ?_; rintro e w1 ⟨rfl, rfl⟩; clear HG0) | (refine HG1.out.mono ?_; rintro e w1 ⟨rfl, rfl⟩))
            | (go_at_call 51; refine HR.out.mono ?_; rintro e w1 ⟨rfl, rfl⟩)
            | (go_at_call 40; refine HP.out.mono ?_; rintro e w2 ⟨⟨ta, tn, tc⟩, rfl, h2, k2, fr2, sg2⟩; have H2 := hid h2; have K2 := hid k2; have F2 := hid fr2; have g4 := h2.c4; have g5 := h2.c5; have g6 := h2.c6; have g7 := h2.c7; have e4 := h2.f 4; have e5 := h2.f 5; have e6 := h2.f 6; have e7 := h2.f 7; clear h2 k2 fr2 sg2))
          (try simp only [Exit.inBlock, Exit.then]); refine bodyPost_ret (results_tmp (t := 2) rfl _ _ _) rfl ?_
          refine ⟨⟨ta, tn, tc⟩, rfl, ?_, ?_, F2.out⟩
          · exact ((H2.out.set 6 _ { H with held := H.held.drop q, fault := 0, fr := m } rfl rfl).set 7 _ { H with held := H.held.drop q, fault := 0, fr := m, left := n } rfl rfl).set 5 _ { H with held := H.held.drop q, fault := 0, fr := m, left := n, ins := true } rfl rfl
          · exact ((((HK1.out.trans K2.out).trans (keepSet _ rb 6 _)).trans (keepSet _ rb 7 _)).trans (keepSet _ rb 5 _))
      · have HE := hid (show ent H = (false, { H with fault := refu H.st H.lim H.begun m n }) by
          unfold ent; rw [hx]; dsimp only; rw [hy]; dsimp only; rw [if_neg (by simp), if_neg (by simp), if_pos hr])
        rw [HE.out]
        have HS1 := hid (h.set 9 (.int .i64 (refu H.st H.lim H.begun m n)) { H with fault := refu H.st H.lim H.begun m n } rfl rfl)
        have HK1 := hid (keepSet w rb 9 (.int .i64 (refu H.st H.lim H.begun m n)))
        have hrb : (refu H.st H.lim H.begun m n != 0) = true := by simp [hr]
        clear h hx hy HE hk HG hl hf hr
        dsimp only
        generalize refu H.st H.lim H.begun m n = R at *
        go_enter Try.func38, Try.ntmps38
        go_wp2_with (first
          | (go_at_call 50; first | (refine HG0.out.mono ?_; rintro e w1 ⟨rfl, rfl⟩; clear HG0) | (refine HG1.out.mono ?_; rintro e w1 ⟨rfl, rfl⟩))
          | (go_at_call 51; refine HR.out.mono ?_; rintro e w1 ⟨rfl, rfl⟩))
        (try simp only [Exit.inBlock, Exit.then]); refine bodyPost_ret (results_tmp (t := 2) rfl _ _ _) rfl ?_
        exact ⟨s, rfl, HS1.out, HK1.out, From.refl _⟩
    · have HE := hid (show ent H = (false, H) by unfold ent; rw [hx]; dsimp only; rw [hy]; dsimp only; rw [if_neg (by simp), if_pos hg1])
      rw [HE.out]
      have hgb : (g != 0) = true := by simp [hg1]
      clear h hx hy HE hk HG hl hf hg1
      dsimp only
      go_enter Try.func38, Try.ntmps38
      go_wp2_with (go_at_call 50; first | (refine HG0.out.mono ?_; rintro e w1 ⟨rfl, rfl⟩; clear HG0) | (refine HG1.out.mono ?_; rintro e w1 ⟨rfl, rfl⟩))
      (try simp only [Exit.inBlock, Exit.then]); refine bodyPost_ret (results_tmp (t := 2) rfl _ _ _) rfl ?_
      exact ⟨s, rfl, HH.out, Keep.refl _ _, From.refl _⟩
  · have HE := hid (show ent H = (false, H) by unfold ent; rw [hx]; dsimp only; rw [if_pos hf1])
    rw [HE.out]
    have hfb : (f != 0) = true := by simp [hf1]
    clear h hx HE hk HG hl hf hf1
    dsimp only
    go_enter Try.func38, Try.ntmps38
    go_wp2_with (go_at_call 50; refine HG0.out.mono ?_; rintro e w1 ⟨rfl, rfl⟩)
    (try simp only [Exit.inBlock, Exit.then]); refine bodyPost_ret (results_tmp (t := 2) rfl _ _ _) rfl ?_
    exact ⟨s, rfl, HH.out, Keep.refl _ _, From.refl _⟩
end Go.Proofs.Ytdlefmlienfjhaa
