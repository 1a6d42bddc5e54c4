/-
  What the program's inner outOfRange, kept and drop answer and do: contracts that the walks of Ack and Lose use.
-/
import Derived.Test.YtppemfdoogmeeaaIx
import Derived.BigRegion
namespace Go.Proofs.Ytppemfdoogmeeaa
open Go.RowKit
set_option linter.unusedVariables false

set_option maxHeartbeats 1000000 in
theorem oor_any (rb : Nat) (d m : Sv) (room : Int) (s : S) (a n : Int) (f : Bool) (w : World) (hB : Bf w rb d m room s) (hS : s.sent ≤ 4611686018427387904) (hn : n ≤ 9223372036854775807) :
    Calls Try.prog 35 #[.pointer (some ⟨rb, 0, none⟩), .int .i64 a, .int .i64 n, .bool f] w fun e w' => e = .returned (.bool (tuB s a n f)) ∧ w = w' := by
  have c2 := hB.hd.c2
  have c5 := hB.hd.c5
  have c6 := hB.hd.c6
  clear hB
  by_cases h1 : a < 0
  · have b1 : decide (a < 0) = true := by simp [h1]
    have HE := hid (show tuB s a n f = true from by unfold tuB; rw [b1]; rfl)
    clear h1
    go_enter Try.func35, Try.ntmps35
    go_wp2
    go_ret
    exact ⟨ret_bool HE.out.symm, rfl⟩
  · have b1 : decide (a < 0) = false := by simp; omega
    by_cases h2 : n < 0
    · have b2 : decide (n < 0) = true := by simp [h2]
      have HE := hid (show tuB s a n f = true from by unfold tuB; rw [b1, b2]; rfl)
      clear h1 h2
      go_enter Try.func35, Try.ntmps35
      go_wp2
      go_ret
      exact ⟨ret_bool HE.out.symm, rfl⟩
    · have b2 : decide (n < 0) = false := by simp; omega
      have hw : IntKind.i64.wrap ((s.sent : Int) - n) = (s.sent : Int) - n := by rw [IntKind.wrap_i64]; omega
      by_cases h3 : (s.sent : Int) < a + n
      · have b3 : decide ((s.sent : Int) < a + n) = true := by simp [h3]
        have b3' : decide ((s.sent : Int) - n < a) = true := by simp; omega
        have HE := hid (show tuB s a n f = true from by unfold tuB; rw [b1, b2, b3]; rfl)
        clear h1 h2 h3
        go_enter Try.func35, Try.ntmps35
        go_wp2
        go_ret
        exact ⟨ret_bool HE.out.symm, rfl⟩
      · have b3 : decide ((s.sent : Int) < a + n) = false := by simp; omega
        have b3' : decide ((s.sent : Int) - n < a) = false := by simp; omega
        have HE := hid (show tuB s a n f = (f && (!s.fin || s.en == 0)) from by unfold tuB; rw [b1, b2, b3]; rfl)
        clear h1 h2 h3 b3
        cases f
        · go_enter Try.func35, Try.ntmps35
          go_wp2
          go_ret
          exact ⟨ret_bool HE.out.symm, rfl⟩
        · cases hf : s.fin
          · rw [hf] at c5
            rw [hf] at HE
            clear hf
            go_enter Try.func35, Try.ntmps35
            go_wp2
            go_ret
            exact ⟨ret_bool (by rw [HE.out]; rfl), rfl⟩
          · rw [hf] at c5
            rw [hf] at HE
            clear hf
            go_enter Try.func35, Try.ntmps35
            go_wp2
            go_ret
            exact ⟨ret_bool (by rw [HE.out]; rfl), rfl⟩

set_option maxHeartbeats 2000000 in
theorem kept_any (rb : Nat) (d m : Sv) (room : Int) (s : S) (a n : Nat) (lo hi : Nat) (w : World) (hB : Bf w rb d m room s) (hO : Ok room s) (hL : s.ms.length ≤ 4611686018427387904) (hin : a + n ≤ s.sent) (hlo : lo = a - bas s) (hhi : hi = a + n - bas s) :
    Calls Try.prog 36 #[.pointer (some ⟨rb, 0, none⟩), .int .i64 a, .int .i64 n] w fun e w' => ∃ a', e = .returned (.slice a' (hi - lo) (m.c - lo)) ∧ (lo < hi → ∃ g o, m.a = some ⟨g, o, none⟩ ∧ a' = some ⟨g, o + lo, none⟩) ∧ ∃ k, w' = w.drewN k := by
  have c1 := hB.hd.c1
  have c4 := hB.hd.c4
  have hmn := hB.mn
  have hcap := hB.rs.sm.cap
  have hs := hO.sent
  have hbs := bas_le s
  have hw1 : IntKind.i64.wrap ((a : Int) - (bas s : Int)) = (a : Int) - bas s := by rw [IntKind.wrap_i64]; omega
  have hw2 : IntKind.i64.wrap ((a : Int) + (n : Int)) = (a : Int) + n := by rw [IntKind.wrap_i64]; omega
  have hw3 : IntKind.i64.wrap ((a : Int) + (n : Int) - (bas s : Int)) = (a : Int) + n - bas s := by rw [IntKind.wrap_i64]; omega
  have hx1 : max 0 ((a : Int) - (bas s : Int)) = lo := by omega
  have hx2 : max 0 ((a : Int) + (n : Int) - (bas s : Int)) = hi := by omega
  have hlh : lo ≤ hi := by omega
  have hhc : hi ≤ m.c := by omega
  have HM := hid hB.rs.sm
  obtain ⟨ma, mn, mc⟩ := m
  simp only at hmn hcap hhc c4
  by_cases hc : mc = lo
  · have HZ := hid (show ¬ lo < hi by omega)
    clear hB hO hmn hcap hs hbs hlo hhi hL hin
    generalize bas s = b at *
    go_enter Try.func36, Try.ntmps36
    go_wp2
    go_quiet (fail)
    go_wp2
    go_ret
    exact ⟨ma, by rw [hc, Nat.sub_self]; rfl, fun h => absurd h HZ.out, _, rfl⟩
  · have HA := hid (show ∃ g o, ma = some ⟨g, o, none⟩ from by
      rcases HM.out.2 with ⟨h1, h2, h3⟩ | ⟨g, o, cur, h1, _⟩
      · simp only at h3; omega
      · exact ⟨g, o, h1⟩)
    obtain ⟨g, o, rfl⟩ := HA.out
    clear hB hO hmn hcap hs hbs hlo hhi hL hin
    generalize bas s = b at *
    go_enter Try.func36, Try.ntmps36
    go_wp2
    go_quiet (fail)
    go_wp2
    go_ret
    exact ⟨_, rfl, fun _ => ⟨g, o, rfl, rfl⟩, _, rfl⟩

/-- What drop leaves. -/
def DrAns (rb : Nat) (d m : Sv) (room : Int) (b sent : Nat) (fin : Bool) (en : Int) (B M : List Int) (w : World) (e : Ending) (w' : World) : Prop :=
  e = .returned (.tuple #[]) ∧ ∃ d' m', Hd w' rb room (b + ld 3 M) sent d' m' fin en ∧ Rs w' rb d' m' (B.drop (ld 3 M)) (M.drop (ld 3 M)) ∧ Keep (fun k => k = rb) w w' ∧ (∀ i, Fp rb d' m' i → Fp rb d m i)

set_option maxHeartbeats 8000000 in
theorem drop_any (rb : Nat) (d m : Sv) (room : Int) (b sent : Nat) (fin : Bool) (en : Int) (B M : List Int) (w : World) (hh : Hd w rb room b sent d m fin en) (hr : Rs w rb d m B M) (hl : B.length = M.length) (hM : M.length ≤ 65536) (hb : b ≤ 4611686018427387904) :
    Calls Try.prog 37 #[.pointer (some ⟨rb, 0, none⟩)] w fun e w' => DrAns rb d m room b sent fin en B M w e w' := by
  have hld := ld_le 3 M
  have hat := ld_at 3 M
  have hen := ld_end 3 M
  have hd1 := hr.sd.len
  have hm1 := hr.sm.len
  have hdc := hr.sd.cap
  have hmc := hr.sm.cap
  have c4 := hh.c4
  have HH := hid hh
  have HR := hid hr
  generalize hq : ld 3 M = q at *
  have HQ := hid hq
  have HAT := hid hat
  have HEN := hid hen
  have HM1 := hid hm1
  have HMN := hid hM
  have hqm : q ≤ m.n := by omega
  have hmn : m.n ≤ 65536 := by omega
  have hqd : q ≤ d.n := by omega
  have hdm : d.n = m.n := by omega
  obtain ⟨da, dn, dc⟩ := d
  obtain ⟨ma, mn, mc⟩ := m
  simp only at hqm hmn hqd hdm hdc hmc c4
  subst hdm
  clear hh hr hl hM hld hat hen hd1 hm1 hq
  go_enter Try.func37, Try.ntmps37
  go_wp2
  go_loopw [2] (fun i wr => ∃ j : Nat, j ≤ q ∧ i = .int .i64 j ∧ wr = w) (fun i _ => q + 1 - (intOf i).toNat)
  case atStart => exact ⟨0, Nat.zero_le _, rfl, rfl⟩
  case round =>
    obtain ⟨j, hj, rfl, rfl⟩ := hrel
    by_cases hlt : j < q
    · have hjm : j < dn := by omega
      have hjm' : (j : Int) < (dn : Int) := by omega
      have b1 : decide ((j : Int) < (dn : Int)) = true := by simp; omega
      obtain ⟨g, o, e, _, hc⟩ := row_cells HR.out.sm (show 0 < dn by omega)
      simp only at e hc
      subst e
      have hcj := hc j hjm
      rw [HAT.out j hlt] at hcj
      have hwi : IntKind.i64.wrap ((j : Int) + 1) = ((j + 1 : Nat) : Int) := by rw [IntKind.wrap_i64]; omega
      clear hc
      go_wp2
      go_roundw
      case rel => exact ⟨j + 1, by omega, by go_num, by first | rfl | trivial⟩
      case measure => simp [intOf]; omega
    · obtain rfl : j = q := by omega
      obtain ⟨t, ht⟩ : ∃ t, t = b + j := ⟨_, rfl⟩
      have hwb : IntKind.i64.wrap ((b : Int) + (j : Int)) = t := by rw [IntKind.wrap_i64]; omega
      have c1 := HH.out.c1
      have f1 := HH.out.free 1
      have hh1 := HH.out.base_ t
      have HK1 := hid ((Keep.refl (fun k => k = rb) wr).setCell rb 1 (.int .i64 t) (.inl rfl))
      have HR1 := hid (HR.out.hd 1 (.int .i64 t))
      have HH1 := hid hh1
      have HT := hid ht
      have d3 := hh1.c3
      have d4 := hh1.c4
      have g3 := hh1.free 3
      have g4 := hh1.free 4
      simp only at d3 d4
      clear hh1 ht
      by_cases hz : j = dn
      · subst hz
        have b1 : decide ((j : Int) < (j : Int)) = false := by simp
        have FIN := hid (show ∀ x y : Sv, ∀ k, (∃ d' m', Hd (((((((wr.setCell ⟨rb, 1, none⟩ (.int .i64 t)).setCell ⟨rb, 3, none⟩ (.slice x.a x.n x.c)).setCell ⟨rb, 4, none⟩ (.slice y.a y.n y.c)).drewN k).setCell ⟨rb, 3, none⟩ (.slice none 0 0)).setCell ⟨rb, 4, none⟩ (.slice none 0 0))) rb room (b + j) sent d' m' fin en ∧ Rs (((((((wr.setCell ⟨rb, 1, none⟩ (.int .i64 t)).setCell ⟨rb, 3, none⟩ (.slice x.a x.n x.c)).setCell ⟨rb, 4, none⟩ (.slice y.a y.n y.c)).drewN k).setCell ⟨rb, 3, none⟩ (.slice none 0 0)).setCell ⟨rb, 4, none⟩ (.slice none 0 0))) rb d' m' (B.drop j) (M.drop j) ∧ Keep (fun k => k = rb) wr (((((((wr.setCell ⟨rb, 1, none⟩ (.int .i64 t)).setCell ⟨rb, 3, none⟩ (.slice x.a x.n x.c)).setCell ⟨rb, 4, none⟩ (.slice y.a y.n y.c)).drewN k).setCell ⟨rb, 3, none⟩ (.slice none 0 0)).setCell ⟨rb, 4, none⟩ (.slice none 0 0))) ∧ (∀ i, Fp rb d' m' i → Fp rb ⟨da, j, dc⟩ ⟨ma, j, mc⟩ i)) from fun x y k => by
          refine ⟨nilS, nilS, ?_, ?_, ?_, ?_⟩
          · rw [← HT.out]; exact ((((HH1.out.data_ x).marks_ y).q ((Q.refl _).drewN k)).data_ nilS).marks_ nilS
          · rw [List.drop_of_length_le (by have := HR.out.sd.len; simp only at this; omega), List.drop_of_length_le (by have := HM1.out; omega)]
            exact ⟨sub_nil _ _ _, sub_nil _ _ _, by simp [blk, nilS], by simp [blk, nilS], by simp [blk, nilS]⟩
          · exact (((((HK1.out.setCell rb 3 _ (.inl rfl)).setCell rb 4 _ (.inl rfl)).drewN k)).setCell rb 3 _ (.inl rfl)).setCell rb 4 _ (.inl rfl)
          · rintro i (rfl | h | h)
            · exact .inl rfl
            · cases h
            · cases h)
        by_cases hc1 : dc = j
        all_goals by_cases hc2 : mc = j
        all_goals
          go_wp2
          go_region
          go_wp2
          go_end0
          refine ⟨rfl, ?_⟩
          rw [HQ.out]
          exact FIN.out ⟨_, _, _⟩ ⟨_, _, _⟩ 1
      · have hjn : j < dn := by omega
        have hjn' : (j : Int) < (dn : Int) := by omega
        have b1 : decide ((j : Int) < (dn : Int)) = true := by simp; omega
        obtain ⟨g, o, e, _, hc⟩ := row_cells HR.out.sm (show 0 < dn by omega)
        obtain ⟨g2, o2, e2, _, _⟩ := row_cells HR.out.sd (show 0 < dn by omega)
        simp only at e e2 hc
        subst e
        subst e2
        have hcj := hc j hjn
        have hne3 : (at_ M j == 3) = false := by
          have := HEN.out (by have := HM1.out; omega)
          simpa using this
        have hc1 : ¬ dc = j := by omega
        have hc2 : ¬ mc = j := by omega
        have hnz : (((dn - j : Nat) : Int) == 0) = false := by simp; omega
        have FIN := hid (show ∀ k, (∃ d' m', Hd (((((wr.setCell ⟨rb, 1, none⟩ (.int .i64 t)).setCell ⟨rb, 3, none⟩ (.slice (some ⟨g2, o2 + j, none⟩) (dn - j) (dc - j))).setCell ⟨rb, 4, none⟩ (.slice (some ⟨g, o + j, none⟩) (dn - j) (mc - j))).drewN k)) rb room (b + j) sent d' m' fin en ∧ Rs (((((wr.setCell ⟨rb, 1, none⟩ (.int .i64 t)).setCell ⟨rb, 3, none⟩ (.slice (some ⟨g2, o2 + j, none⟩) (dn - j) (dc - j))).setCell ⟨rb, 4, none⟩ (.slice (some ⟨g, o + j, none⟩) (dn - j) (mc - j))).drewN k)) rb d' m' (B.drop j) (M.drop j) ∧ Keep (fun k => k = rb) wr (((((wr.setCell ⟨rb, 1, none⟩ (.int .i64 t)).setCell ⟨rb, 3, none⟩ (.slice (some ⟨g2, o2 + j, none⟩) (dn - j) (dc - j))).setCell ⟨rb, 4, none⟩ (.slice (some ⟨g, o + j, none⟩) (dn - j) (mc - j))).drewN k)) ∧ (∀ i, Fp rb d' m' i → Fp rb ⟨some ⟨g2, o2, none⟩, dn, dc⟩ ⟨some ⟨g, o, none⟩, dn, mc⟩ i)) from fun k => by
          have hK := (((HK1.out.setCell rb 3 (.slice (some ⟨g2, o2 + j, none⟩) (dn - j) (dc - j)) (.inl rfl)).setCell rb 4 (.slice (some ⟨g, o + j, none⟩) (dn - j) (mc - j)) (.inl rfl)).drewN k)
          refine ⟨⟨some ⟨g2, o2 + j, none⟩, dn - j, dc - j⟩, ⟨some ⟨g, o + j, none⟩, dn - j, mc - j⟩, ?_, ?_, hK, ?_⟩
          · rw [← HT.out]; exact (((HH1.out.data_ ⟨some ⟨g2, o2 + j, none⟩, dn - j, dc - j⟩).marks_ ⟨some ⟨g, o + j, none⟩, dn - j, mc - j⟩).q ((Q.refl _).drewN k))
          · have h1 := Sub.slice HR.out.sd (k := j) (by simp only; omega) (some ⟨g2, o2 + j, none⟩) (by simp only; rw [if_neg hc1]; simp only [Option.map_some, addr_add, Nat.mul_one])
            have h2 := Sub.slice HR.out.sm (k := j) (by simp only; omega) (some ⟨g, o + j, none⟩) (by simp only; rw [if_neg hc2]; simp only [Option.map_some, addr_add, Nat.mul_one])
            simp only [Nat.mul_one, ← List.map_drop] at h1 h2
            exact ⟨h1.keep hK (fun b hb e => HR.out.e1 (by rw [← e, ← hb]; rfl)), h2.keep hK (fun b hb e => HR.out.e2 (by rw [← e, ← hb]; rfl)), HR.out.e1, HR.out.e2, HR.out.e3⟩
          · rintro i (rfl | h | h)
            · exact .inl rfl
            · exact .inr (.inl h)
            · exact .inr (.inr h))
        generalize at_ M j = y at *
        clear hc
        go_wp2
        go_region
        go_wp2
        go_end0
        refine ⟨rfl, ?_⟩
        rw [HQ.out]
        exact FIN.out 1
end Go.Proofs.Ytppemfdoogmeeaa
