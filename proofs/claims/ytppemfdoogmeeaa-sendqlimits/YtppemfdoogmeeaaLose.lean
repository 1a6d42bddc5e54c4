/-
  What the program's Lose answers and does: a contract that the statements' walks use.
-/
import Derived.Test.YtppemfdoogmeeaaAck
namespace Go.Proofs.Ytppemfdoogmeeaa
open Go.RowKit
set_option linter.unusedVariables false

set_option maxHeartbeats 8000000 in
theorem lose_any (rb : Nat) (d m : Sv) (room : Int) (s : S) (a n : Int) (f : Bool) (w : World) (hB : Bf w rb d m room s) (hO : Ok room s) (hL : s.ms.length ≤ 4611686018427387904) (hn : n ≤ 9223372036854775807) :
    Calls Try.prog 22 #[.pointer (some ⟨rb, 0, none⟩), .int .i64 a, .int .i64 n, .bool f] w fun e w' => TuAns rb d m room s false a n f w e w' := by
  have hsl := hO.sent
  have OOR := hid (oor_any rb d m room s a n f w hB (by omega) hn)
  cases hT : tuB s a n f
  · obtain ⟨h0, h1, h2, h3⟩ := tuB_f hT
    obtain ⟨A, rfl⟩ : ∃ A : Nat, a = A := ⟨a.toNat, by omega⟩
    obtain ⟨N, rfl⟩ : ∃ N : Nat, n = N := ⟨n.toNat, by omega⟩
    have hbl := bas_le s
    have hlen := hO.len
    have hroom := hO.room
    have hr1 := hO.r1
    have HE := hid (tu_ok (ack := false) hT)
    have HDP := hid (tu_drop (ack := false) hT)
    have HBT := hid (bas_tu hO false (A : Int) (N : Int) f)
    rw [HDP.out] at HBT
    obtain ⟨lo, hlo⟩ : ∃ lo, lo = A - bas s := ⟨_, rfl⟩
    obtain ⟨hi, hhi⟩ : ∃ hi, hi = A + N - bas s := ⟨_, rfl⟩
    obtain ⟨L, hLL⟩ : ∃ L, L = hi - lo := ⟨_, rfl⟩
    have KP := hid (kept_any rb d m room s A N lo hi w hB hO hL (by omega) hlo hhi)
    rw [← hlo, ← hhi] at HDP HBT
    rw [← hLL] at KP
    have HLH := hid (show lo + L = hi ∨ L = 0 ∧ hi = lo by omega)
    have hm := hB.mn
    have hmd := hB.dn
    have hhm : hi ≤ m.n := by omega
    have hm6 : m.n ≤ 65536 := by omega
    have HBM := hid (show (s.bs.drop (bas s)).length = (s.ms.drop (bas s)).length by rw [List.length_drop, List.length_drop]; omega)
    have HML := hid (show (s.ms.drop (bas s)).length = m.n by rw [List.length_drop]; omega)
    have HBL := hid (show bas s ≤ 4611686018427387904 by omega)
    have HB := hid hB
    have hL6 : L ≤ 65536 := by omega
    rw [hT] at OOR
    have HLO := hid (show lo ≤ hi by omega)
    clear hB hO hL hn hT h0 h1 h2 h3 hbl hlen hroom hr1 hlo hhi hLL hm hmd hsl
    generalize hbs : bas s = b at *
    have HBS := hid hbs
    clear hbs
    go_enter Try.func22, Try.ntmps22
    go_wp2_with fail
    refine OOR.out.mono ?_
    rintro e w1 ⟨rfl, rfl⟩
    go_wp2_with fail
    refine KP.out.mono ?_
    rintro e w1 ⟨pa, rfl, hpa, k, rfl⟩
    have HPA := hid hpa
    have HB1 := hid (HB.out.q ((Q.refl w).drewN k))
    have HK1 := hid ((Keep.refl (Fp rb d m) w).drewN k)
    clear hpa HB
    generalize w.drewN k = w1 at *
    go_wp2
    go_loopw [23, 10, 11] (fun i _ _ wr => ∃ j : Nat, j ≤ L ∧ i = .int .i64 j ∧ Hd wr rb room b s.sent d m s.fin s.en ∧ Rs wr rb d m (s.bs.drop b) (rg (tm false) (s.ms.drop b) lo (lo + j)) ∧ Keep (Fp rb d m) w wr) (fun i _ _ _ => L - (intOf i).toNat)
    case atStart => exact ⟨0, Nat.zero_le _, rfl, by have := HB1.out.hd; rw [HBS.out] at this; exact this, by have := HB1.out.rs; rw [HBS.out] at this; rw [Nat.add_zero, rg_none _ _ _ _ (Nat.le_refl _)]; exact this, HK1.out⟩
    case round =>
      obtain ⟨j, hj, rfl, hhj, hrj, hkj⟩ := hrel
      by_cases hlt : j < L
      · have hlt' : (j : Int) < (L : Int) := by omega
        have hwi : IntKind.i64.wrap ((j : Int) + 1) = ((j + 1 : Nat) : Int) := by rw [IntKind.wrap_i64]; omega
        have hlm : lo + j < m.n := by have := HLH.out; omega
        obtain ⟨g, o, ema, epa⟩ := HPA.out (by have := HLH.out; omega)
        subst epa
        obtain ⟨g', o', e', hfz', hc'⟩ := row_cells hrj.sm (show 0 < m.n by omega)
        rw [ema] at e'
        cases e'
        have hcj := hc' (lo + j) hlm
        have fj := hfz' (o + (lo + j))
        have hat : at_ (rg (tm false) (s.ms.drop b) lo (lo + j)) (lo + j) = at_ (s.ms.drop b) (lo + j) := by rw [at_rg (by rw [HML.out]; exact hlm), if_neg (by omega)]
        rw [hat] at hcj
        have HKC := hid (show ∀ v, Keep (Fp rb d m) w (wr.setCell ⟨g, o + lo + j, none⟩ (.int .u8 v)) from fun v => hkj.setCell g _ _ (.inl (.inr (.inr (by rw [ema]; rfl)))))
        have HHC := hid (show ∀ v, Hd (wr.setCell ⟨g, o + lo + j, none⟩ (.int .u8 v)) rb room b s.sent d m s.fin s.en from fun v => hhj.keep ((Keep.refl (fun k => k = g) wr).setCell g (o + lo + j) (.int .u8 v) (.inl rfl)) (fun e => hrj.e2 (by rw [ema, e]; rfl)))
        have HRC := hid (show Rs (wr.setCell ⟨g, o + lo + j, none⟩ (.int .u8 (tm false (at_ (s.ms.drop b) (lo + j))))) rb d m (s.bs.drop b) (rg (tm false) (s.ms.drop b) lo (lo + (j + 1))) from by
          have := hrj.mark ema hlm (tm false (at_ (s.ms.drop b) (lo + j)))
          rw [← Nat.add_assoc, rg_set (by omega) (by rw [HML.out]; exact hlm)] at this
          exact this)
        rw [← Nat.add_assoc] at hcj fj
        by_cases hy : at_ (s.ms.drop b) (lo + j) = 1
        · rw [tm_f1 hy] at HRC
          rw [hy] at hcj
          clear hhj hrj hkj hfz' hc' hat ema hj hlt hy
          go_wp2
          go_roundw
          case rel => exact ⟨j + 1, by omega, by go_num, HHC.out _, HRC.out, HKC.out _⟩
          case measure => simp [intOf]; omega
        · have HRK := hid (show Rs wr rb d m (s.bs.drop b) (rg (tm false) (s.ms.drop b) lo (lo + (j + 1))) from by
            rw [← Nat.add_assoc, rg_keep (by rw [HML.out]; exact hlm) (tm_f2 hy)]; exact hrj)
          have HHK := hid hhj
          have HKK := hid hkj
          have hne : (at_ (s.ms.drop b) (lo + j) == 1) = false := by simpa using hy
          clear HRC HHC HKC
          generalize at_ (s.ms.drop b) (lo + j) = y at *
          clear hhj hrj hkj hfz' hc' hat ema hj hlt hy
          go_wp2
          go_roundw
          case rel => exact ⟨j + 1, by omega, by go_num, HHK.out, HRK.out, HKK.out⟩
          case measure => simp [intOf]; omega
      · obtain rfl : j = L := by omega
        have hge : decide ((j : Int) < (j : Int)) = false := by simp
        have hrg : rg (tm false) (s.ms.drop b) lo (lo + j) = rg (tm false) (s.ms.drop b) lo hi := by
          rcases HLH.out with h | ⟨h, h'⟩
          · rw [h]
          · rw [h, h', Nat.add_zero]
        rw [hrg] at hrj
        have c6 := hhj.c6
        have f6 := hhj.free 6
        have HHJ := hid hhj
        have HRJ := hid hrj
        have HKJ := hid hkj
        clear hhj hrj hkj hrg hj hlt HB1 HK1
        have HBL2 := hid (show bas (tuS s false A N f) = b from by rw [bas_tu_lose]; exact HBS.out)
        have FIN := hid (show ∀ (w' : World) en, (if f then tm false s.en else s.en) = en → Hd w' rb room b s.sent d m s.fin en → Rs w' rb d m (s.bs.drop b) (rg (tm false) (s.ms.drop b) lo hi) → Bf w' rb d m room (tuS s false A N f) from fun w' en h1 h2 h3 => ⟨by rw [HBL2.out, HE.out.2]; subst h1; exact h2, by rw [HBL2.out, HDP.out, tu_bs]; exact h3⟩)
        cases f
        · go_wp2
          go_ret
          exact ⟨d, m, by rw [HE.out.1]; rfl, FIN.out _ _ (by simp) HHJ.out HRJ.out, HKJ.out, fun i h => h⟩
        · by_cases he : s.en = 1
          · rw [he] at c6
            have HEE := hid he
            clear he
            go_wp2
            go_ret
            exact ⟨d, m, by rw [HE.out.1]; rfl, FIN.out _ 2 (by first | rw [if_pos rfl, tm_f1 HEE.out] | rw [if_pos trivial, tm_f1 HEE.out]) (HHJ.out.end_ 2) (HRJ.out.hd 6 _), HKJ.out.setCell rb 6 _ (.inl (.inl rfl)), fun i h => h⟩
          · have hne : (s.en == 1) = false := by simpa using he
            have HEE := hid he
            clear he
            go_wp2
            go_ret
            exact ⟨d, m, by rw [HE.out.1]; rfl, FIN.out _ s.en (by first | rw [if_pos rfl, tm_f2 HEE.out] | rw [if_pos trivial, tm_f2 HEE.out]) HHJ.out HRJ.out, HKJ.out, fun i h => h⟩
  · have HE := hid (tu_bad (ack := false) hT)
    have HB := hid hB
    rw [hT] at OOR
    clear hB hO hL hn hT hsl
    go_enter Try.func22, Try.ntmps22
    go_wp2_with fail
    refine OOR.out.mono ?_
    rintro e w1 ⟨rfl, rfl⟩
    go_wp2
    go_ret
    exact ⟨d, m, by rw [HE.out.1]; rfl, by rw [HE.out.2]; exact HB.out, Keep.refl _ _, fun i h => h⟩

end Go.Proofs.Ytppemfdoogmeeaa
