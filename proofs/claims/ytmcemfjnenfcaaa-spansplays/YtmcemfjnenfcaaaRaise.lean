/-
  What Raise does to a set, and the document's Raise beside it: contracts that the statements' walks use.
-/
import Derived.Test.YtmcemfjnenfcaaaKeep
namespace Go.Proofs.Ytmcemfjnenfcaaa
open Go.RowKit
set_option linter.unusedVariables false

set_option maxHeartbeats 1000000 in
theorem raise_bad (rb : Nat) (fl : Int) (w : World) (h : fl < 0 ∨ 4611686018427387903 < fl) :
    Calls Try.prog 17 #[.pointer (some ⟨rb, 0, none⟩), .int .i64 fl] w fun e w' => e = .returned (.int .i64 21) ∧ w = w' := by
  by_cases h1 : fl < 0
  · have hb : decide (fl < 0) = true := by simp [h1]
    go_enter Try.func17, Try.ntmps17
    go_wp2
    go_ret
    exact ⟨rfl, rfl⟩
  · have hb : decide (fl < 0) = false := by simp [h1]
    have hc : (4611686018427387903 : Int) < fl := by omega
    go_enter Try.func17, Try.ntmps17
    go_wp2
    go_ret
    exact ⟨rfl, rfl⟩

set_option maxHeartbeats 1000000 in
theorem raise_low (rb : Nat) (most floor : Int) (a : Option Addr) (n c : Nat) (fl : Int) (w : World) (hr : Hd w 54 rb most floor a n c) (h0 : 0 ≤ fl) (h1 : fl ≤ 4611686018427387903) (h2 : fl ≤ floor) :
    Calls Try.prog 17 #[.pointer (some ⟨rb, 0, none⟩), .int .i64 fl] w fun e w' => e = .returned (.int .i64 0) ∧ w = w' := by
  have c1 := hr.c1
  have hb : decide (fl < 0) = false := by simp; omega
  have hc : ¬ (4611686018427387903 : Int) < fl := by omega
  clear hr
  go_enter Try.func17, Try.ntmps17
  go_wp2
  go_ret
  exact ⟨rfl, rfl⟩

theorem own_set0 {w : World} {base g n c : Nat} {x : Sp} {r : List Sp} (h : Own w base (some ⟨g, 0, none⟩) n c (x :: r)) (v : Int) : Own (w.setCell ⟨g, 0, none⟩ (.int .i64 v)) base (some ⟨g, 0, none⟩) n c ((v, x.2) :: r) := by
  have hl := h.len
  rcases h.row with ⟨h0, _⟩ | ⟨g', cur, e, hb, hg, h1, h2, h3, h4⟩
  · cases h0
  cases e
  have hs := heap_setCell_same w g 0 cur 49 (.int .i64 v) hg
  refine own_mk (by simpa using hl) hb hs h1 h2 (by simp [h3]) ?_
  simp only [List.length_cons] at hl
  have e0 : n * 2 = (n * 2 - 1) + 1 := by omega
  rw [flat_cons] at h4 ⊢
  cases hc : cur.toList with
  | nil => rw [hc] at h4; simp at h4
  | cons y s =>
    rw [hc, e0, List.take_succ_cons] at h4
    simp only [List.cons.injEq] at h4
    simp [hc]
    rw [e0, List.take_succ_cons, h4.2]

theorem St.set0 {w : World} {rb b n c : Nat} {most floor : Int} {x : Sp} {r : List Sp} (h : St w rb (some ⟨b, 0, none⟩) n c most floor (x :: r)) (v : Int) : St (w.setCell ⟨b, 0, none⟩ (.int .i64 v)) rb (some ⟨b, 0, none⟩) n c most floor ((v, x.2) :: r) :=
  ⟨h.hd.keep ((Keep.refl (fun k => k = b) w).setCell b 0 _ (.inl rfl)) (fun e => h.ne (by rw [e]; rfl)), own_set0 h.own v, h.ne⟩

set_option maxHeartbeats 4000000 in
theorem raise_up (rb : Nat) (a : Option Addr) (n c : Nat) (most floor : Int) (xs : List Sp) (fl : Int) (w : World) (hs : St w rb a n c most floor xs) (hn : n ≤ 100) (h0 : 0 ≤ fl) (h1 : fl ≤ 4611686018427387903) (h2 : floor < fl) :
    Calls Try.prog 17 #[.pointer (some ⟨rb, 0, none⟩), .int .i64 fl] w fun e w' => e = .returned (.int .i64 0) ∧ (∃ n', St w' rb a n' c most fl (cutL fl xs)) ∧ Keep (Fp rb a) w w' := by
  have c1 := hs.hd.c1
  have c2 := hs.hd.c2
  have f1 := hs.hd.free 1
  have hb : decide (fl < 0) = false := by simp; omega
  have hc : ¬ (4611686018427387903 : Int) < fl := by omega
  have h2' : ¬ fl ≤ floor := by omega
  have HL := hid hs.len
  have S1 := hid (hs.floor_ fl)
  have K1 := hid ((Keep.refl (Fp rb a) w).setCell rb 1 (.int .i64 fl) (.inl (.inl rfl)))
  clear hs
  go_enter Try.func17, Try.ntmps17
  go_wp2
  generalize w.setCell ⟨rb, 1, none⟩ (.int .i64 fl) = w1 at *
  have c2 := S1.out.hd.c2
  go_loopw [5] (fun i wr => ∃ k : Nat, k ≤ nG fl xs ∧ i = .int .i64 k ∧ w1 = wr) (fun i _ => n - (intOf i).toNat)
  case atStart => exact ⟨0, Nat.zero_le _, rfl, rfl⟩
  case round =>
    obtain ⟨k, hk, rfl, rfl⟩ := hrel
    have HST := hid (nG_step hk)
    have hna : nG fl xs ≤ xs.length := cnt_le _ _
    rw [HL.out] at hna
    by_cases hkk : k < nG fl xs
    · have hlt : k < n := by omega
      have hy := (HST.out.1 hkk).2
      obtain ⟨b, rfl, hcel, hbr⟩ := S1.out.cells (by omega)
      obtain ⟨d0, d1, d2⟩ := hcel.at_ HL.out hlt
      simp only [Nat.zero_add] at d0 d1 d2
      have hlt' : (k : Int) < (n : Int) := by omega
      clear hcel
      generalize xs.getD k (0, 0) = y at *
      go_wp2
      go_roundw
      case rel => exact ⟨k + 1, by omega, by go_num, trivial⟩
      case measure => simp [intOf]; omega
    · have HK := hid (show nG fl xs = k by omega)
      have HY := hid (show k < n → ¬ (xs.getD k (0, 0)).2 < fl from fun h1 h2 => hkk (HST.out.2 ⟨by rw [HL.out]; exact h1, h2⟩))
      have hkn : k ≤ n := by omega
      clear hk hkk hna HST
      rcases Nat.lt_or_ge k n with hlt | hlt
      · have hlt' : (k : Int) < (n : Int) := by omega
        have hy := HY.out hlt
        obtain ⟨b, rfl, hcel, hbr⟩ := S1.out.cells (by omega)
        obtain ⟨d0, d1, d2⟩ := hcel.at_ HL.out hlt
        simp only [Nat.zero_add] at d0 d1 d2
        have HD := hid (drop_cons (xs := xs) (k := k) (by rw [HL.out]; exact hlt))
        clear hcel
        generalize xs.getD k (0, 0) = y at *
        go_wp2_with fail
        refine (delete_any 0 _ n c k xs _ S1.out.own (by omega) hn).mono ?_
        rintro e w2 ⟨rfl, ho2, hk2⟩
        have hd2 := S1.out.hd.keep hk2 (fun e => hbr (by cases e; rfl))
        have fr2 := hd2.free 2
        have cc2 := hd2.c2
        rw [HD.out] at ho2
        have S2 := hid (St.list_ hd2 ho2 (fun e => hbr (by cases e; rfl)))
        have K2 := hid ((K1.out.trans (hk2.mono (fun i _ e => .inr e))).setCell rb 2 (.slice (some ⟨b, 0, none⟩) (n - k) c) (.inl (.inl rfl)))
        clear ho2 hk2 hd2 d0 d1 d2 c1 c2 f1
        have hnk : (0 : Int) < ((n - k : Nat) : Int) := by omega
        go_wp2
        generalize w2.setCell ⟨rb, 2, none⟩ (.slice (some ⟨b, 0, none⟩) (n - k) c) = w3 at *
        have c2 := S2.out.hd.c2
        obtain ⟨d0, d1, d2⟩ := ((S2.out.own.seg.cel S2.out.len (by omega)).elim (fun b' h => h.elim (fun off h => (show Cel w3 b 0 (y :: xs.drop (k + 1)) from by cases h.1; exact h.2)))).at_ S2.out.len (show 0 < n - k by omega)
        simp only [Nat.zero_mul, Nat.add_zero, Nat.zero_add, List.getD_cons_zero] at d0 d1 d2
        have fb : w3.frozen? ⟨b, 0, none⟩ = false := by
          rcases S2.out.own.row with ⟨h0, _⟩ | ⟨g', cur, e, hb, hg, _⟩
          · cases h0
          · cases e; exact frozen_of_row w3 b 0 _ 49 hg
        clear fr2 cc2
        have FIN := hid (show ∀ v, v = max y.1 fl → St (w3.drew.setCell ⟨b, 0, none⟩ (.int .i64 v)) rb (some ⟨b, 0, none⟩) (n - k) c most fl (cutL fl xs) ∧ Keep (Fp rb (some ⟨b, 0, none⟩)) w (w3.drew.setCell ⟨b, 0, none⟩ (.int .i64 v)) from fun v hv => by
          have e : cutL fl xs = (v, y.2) :: xs.drop (k + 1) := by
            unfold cutL; rw [HK.out, HD.out, hv]; rfl
          rw [e]
          exact ⟨(S2.out.q ((Q.refl _).drew)).set0 v, K2.out.drew.setCell b 0 _ (.inl (.inr rfl))⟩)
        clear HD HK HY S1 K1
        go_region
        all_goals go_wp2
        all_goals
          go_ret
          exact ⟨rfl, ⟨_, (FIN.out _ (by omega)).1⟩, (FIN.out _ (by omega)).2⟩
      · have hlt' : decide ((k : Int) < (n : Int)) = false := by simp; omega
        obtain rfl : k = n := by omega
        go_wp2_with fail
        refine (delete_any 0 _ k c k xs _ S1.out.own (by omega) hn).mono ?_
        rintro e w2 ⟨rfl, ho2, hk2⟩
        have hd2 := S1.out.hd.keep hk2 (fun e => S1.out.ne e)
        have fr2 := hd2.free 2
        have cc2 := hd2.c2
        have S2 := hid (St.list_ hd2 ho2 S1.out.ne)
        have K2 := hid ((K1.out.trans (hk2.mono (fun i _ e => .inr e))).setCell rb 2 (.slice a (k - k) c) (.inl (.inl rfl)))
        clear ho2 hk2 hd2 c1 c2 f1
        have e : cutL fl xs = xs.drop k := by
          unfold cutL; rw [HK.out, List.drop_of_length_le (by rw [HL.out]; exact Nat.le_refl _)]; rfl
        have E := hid e
        clear e
        rw [Nat.sub_self] at S2 K2
        go_wp2
        go_ret
        refine ⟨rfl, ⟨0, ?_⟩, K2.out⟩
        rw [E.out]
        exact S2.out

theorem raise_any (rb : Nat) (a : Option Addr) (n c : Nat) (most floor : Int) (xs : List Sp) (fl : Int) (w : World) (hs : St w rb a n c most floor xs) (hn : n ≤ 100) :
    Calls Try.prog 17 #[.pointer (some ⟨rb, 0, none⟩), .int .i64 fl] w fun e w' => e = .returned (.int .i64 (rzE fl)) ∧ (∃ n', St w' rb a n' c most (rzF floor fl) (rzL floor fl xs)) ∧ Keep (Fp rb a) w w' := by
  unfold rzE rzF rzL
  by_cases hb : fl < 0 ∨ 4611686018427387903 < fl
  · have hu : ¬ rzUp floor fl := by unfold rzUp; omega
    rw [if_pos hb, if_neg hu, if_neg hu]
    refine (raise_bad rb fl w hb).mono ?_
    rintro e w' ⟨rfl, rfl⟩
    exact ⟨rfl, ⟨_, hs⟩, Keep.refl _ _⟩
  · rw [if_neg hb]
    by_cases hu : rzUp floor fl
    · rw [if_pos hu, if_pos hu]
      exact raise_up rb a n c most floor xs fl w hs hn (by omega) (by omega) hu.2
    · rw [if_neg hu, if_neg hu]
      refine (raise_low rb most floor a n c fl w hs.hd (by omega) (by omega) (by unfold rzUp at hu; omega)).mono ?_
      rintro e w' ⟨rfl, rfl⟩
      exact ⟨rfl, ⟨_, hs⟩, Keep.refl _ _⟩

end Go.Proofs.Ytmcemfjnenfcaaa
