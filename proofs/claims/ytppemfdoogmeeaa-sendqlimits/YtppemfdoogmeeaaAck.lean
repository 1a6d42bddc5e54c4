/-
  What the program's Ack and Lose answer and do: contracts that the statements' walks use.
-/
import Derived.Test.YtppemfdoogmeeaaTurn
namespace Go.Proofs.Ytppemfdoogmeeaa
open Go.RowKit
set_option linter.unusedVariables false

theorem tu_bad {s : S} {ack : Bool} {a n : Int} {f : Bool} (h : tuB s a n f = true) : tuE s a n f = 30 ∧ tuS s ack a n f = s := by
  unfold tuE tuS; rw [if_pos h, if_pos h]; exact ⟨rfl, rfl⟩
theorem tu_ok {s : S} {ack : Bool} {a n : Int} {f : Bool} (h : tuB s a n f = false) : tuE s a n f = 0 ∧ tuS s ack a n f = { s with ms := rg (tm ack) s.ms a.toNat (a + n).toNat, en := if f then tm ack s.en else s.en } := by
  unfold tuE tuS; rw [if_neg (by rw [h]; simp), if_neg (by rw [h]; simp)]; exact ⟨rfl, rfl⟩
theorem tu_drop {s : S} {ack : Bool} {A N : Nat} {f : Bool} (h : tuB s A N f = false) : (tuS s ack A N f).ms.drop (bas s) = rg (tm ack) (s.ms.drop (bas s)) (A - bas s) (A + N - bas s) := by
  rw [(tu_ok h).2]
  show (rg _ _ _ _).drop _ = _
  rw [rg_drop]
  congr 1
theorem bas_tu {room : Int} {s : S} (h : Ok room s) (ack : Bool) (a n : Int) (f : Bool) : bas (tuS s ack a n f) = bas s + ld 3 ((tuS s ack a n f).ms.drop (bas s)) :=
  ld_drop (by rw [tu_len]; exact bas_le s) (fun i hi => tu_stays h ack a n f i (by have := bas_le s; omega) (ld_at 3 s.ms i hi))
theorem tm_t (v : Int) : tm true v = 3 := rfl
theorem tm_f1 {v : Int} (h : v = 1) : tm false v = 2 := by unfold tm; rw [if_neg (by simp), if_pos h]
theorem tm_f2 {v : Int} (h : ¬ v = 1) : tm false v = v := by unfold tm; rw [if_neg (by simp), if_neg h]

/-- What Ack and Lose answer and do. -/
def TuAns (rb : Nat) (d m : Sv) (room : Int) (s : S) (ack : Bool) (a n : Int) (f : Bool) (w : World) (e : Ending) (w' : World) : Prop :=
  ∃ d' m', e = .returned (.int .i64 (tuE s a n f)) ∧ Bf w' rb d' m' room (tuS s ack a n f) ∧ Keep (Fp rb d m) w w' ∧ (∀ i, Fp rb d' m' i → Fp rb d m i)

set_option maxHeartbeats 8000000 in
theorem ack_any (rb : Nat) (d m : Sv) (room : Int) (s : S) (a n : Int) (f : Bool) (w : World) (hB : Bf w rb d m room s) (hO : Ok room s) (hL : s.ms.length ≤ 4611686018427387904) (hn : n ≤ 9223372036854775807) :
    Calls Try.prog 23 #[.pointer (some ⟨rb, 0, none⟩), .int .i64 a, .int .i64 n, .bool f] w fun e w' => TuAns rb d m room s true a n f w e w' := by
  have hsl := hO.sent
  have OOR := hid (oor_any rb d m room s a n f w hB (by omega) hn)
  cases hT : tuB s a n f
  · obtain ⟨h0, h1, h2, h3⟩ := tuB_f hT
    obtain ⟨A, rfl⟩ : ∃ A : Nat, a = A := ⟨a.toNat, by omega⟩
    obtain ⟨N, rfl⟩ : ∃ N : Nat, n = N := ⟨n.toNat, by omega⟩
    have hbl := bas_le s
    have hlen := hO.len
    have hroom := hO.room
    have hr1 := hO.r1
    have HE := hid (tu_ok (ack := true) hT)
    have HDP := hid (tu_drop (ack := true) hT)
    have HBT := hid (bas_tu hO true (A : Int) (N : Int) f)
    rw [HDP.out] at HBT
    obtain ⟨lo, hlo⟩ : ∃ lo, lo = A - bas s := ⟨_, rfl⟩
    obtain ⟨hi, hhi⟩ : ∃ hi, hi = A + N - bas s := ⟨_, rfl⟩
    obtain ⟨L, hLL⟩ : ∃ L, L = hi - lo := ⟨_, rfl⟩
    have KP := hid (kept_any rb d m room s A N lo hi w hB hO hL (by omega) hlo hhi)
    rw [← hlo, ← hhi] at HDP HBT
    rw [← hLL] at KP
    have HLH := hid (show lo + L = hi ∨ L = 0 ∧ hi = lo by omega)
    have hm := hB.mn
    have hmd := hB.dn
    have hhm : hi ≤ m.n := by omega
    have hm6 : m.n ≤ 65536 := by omega
    have HBM := hid (show (s.bs.drop (bas s)).length = (s.ms.drop (bas s)).length by rw [List.length_drop, List.length_drop]; omega)
    have HML := hid (show (s.ms.drop (bas s)).length = m.n by rw [List.length_drop]; omega)
    have HBL := hid (show bas s ≤ 4611686018427387904 by omega)
    have HB := hid hB
    have hL6 : L ≤ 65536 := by omega
    rw [hT] at OOR
    have HLO := hid (show lo ≤ hi by omega)
    clear hB hO hL hn hT h0 h1 h2 h3 hbl hlen hroom hr1 hlo hhi hLL hm hmd hsl
    generalize hbs : bas s = b at *
    have HBS := hid hbs
    clear hbs
    go_enter Try.func23, Try.ntmps23
    go_wp2_with fail
    refine OOR.out.mono ?_
    rintro e w1 ⟨rfl, rfl⟩
    go_wp2_with fail
    refine KP.out.mono ?_
    rintro e w1 ⟨pa, rfl, hpa, k, rfl⟩
    have HPA := hid hpa
    have HB1 := hid (HB.out.q ((Q.refl w).drewN k))
    have HK1 := hid ((Keep.refl (Fp rb d m) w).drewN k)
    clear hpa HB
    generalize w.drewN k = w1 at *
    go_wp2
    go_loopw [22, 10] (fun i _ wr => ∃ j : Nat, j ≤ L ∧ i = .int .i64 j ∧ Hd wr rb room b s.sent d m s.fin s.en ∧ Rs wr rb d m (s.bs.drop b) (rg (tm true) (s.ms.drop b) lo (lo + j)) ∧ Keep (Fp rb d m) w wr) (fun i _ _ => L - (intOf i).toNat)
    case atStart => exact ⟨0, Nat.zero_le _, rfl, by have := HB1.out.hd; rw [HBS.out] at this; exact this, by have := HB1.out.rs; rw [HBS.out] at this; rw [Nat.add_zero, rg_none _ _ _ _ (Nat.le_refl _)]; exact this, HK1.out⟩
    case round =>
      obtain ⟨j, hj, rfl, hhj, hrj, hkj⟩ := hrel
      by_cases hlt : j < L
      · have hlt' : (j : Int) < (L : Int) := by omega
        have hwi : IntKind.i64.wrap ((j : Int) + 1) = ((j + 1 : Nat) : Int) := by rw [IntKind.wrap_i64]; omega
        have hlm : lo + j < m.n := by have := HLH.out; omega
        obtain ⟨g, o, ema, epa⟩ := HPA.out (by have := HLH.out; omega)
        subst epa
        obtain ⟨g', o', e', hfz', hc'⟩ := row_cells hrj.sm (show 0 < m.n by omega)
        rw [ema] at e'
        cases e'
        have hcj := hc' (lo + j) hlm
        have fj := hfz' (o + (lo + j))
        have hat : at_ (rg (tm true) (s.ms.drop b) lo (lo + j)) (lo + j) = at_ (s.ms.drop b) (lo + j) := by rw [at_rg (by rw [HML.out]; exact hlm), if_neg (by omega)]
        rw [hat] at hcj
        have HKC := hid (show ∀ v, Keep (Fp rb d m) w (wr.setCell ⟨g, o + lo + j, none⟩ (.int .u8 v)) from fun v => hkj.setCell g _ _ (.inl (.inr (.inr (by rw [ema]; rfl)))))
        have HHC := hid (show ∀ v, Hd (wr.setCell ⟨g, o + lo + j, none⟩ (.int .u8 v)) rb room b s.sent d m s.fin s.en from fun v => hhj.keep ((Keep.refl (fun k => k = g) wr).setCell g (o + lo + j) (.int .u8 v) (.inl rfl)) (fun e => hrj.e2 (by rw [ema, e]; rfl)))
        have HRC := hid (show Rs (wr.setCell ⟨g, o + lo + j, none⟩ (.int .u8 (tm true (at_ (s.ms.drop b) (lo + j))))) rb d m (s.bs.drop b) (rg (tm true) (s.ms.drop b) lo (lo + (j + 1))) from by
          have := hrj.mark ema hlm (tm true (at_ (s.ms.drop b) (lo + j)))
          rw [← Nat.add_assoc, rg_set (by omega) (by rw [HML.out]; exact hlm)] at this
          exact this)
        rw [← Nat.add_assoc] at hcj fj
        rw [tm_t] at HRC
        generalize at_ (s.ms.drop b) (lo + j) = y at *
        clear hhj hrj hkj hfz' hc' hat ema hj hlt
        go_wp2
        go_roundw
        case rel => exact ⟨j + 1, by omega, by go_num, HHC.out _, HRC.out, HKC.out _⟩
        case measure => simp [intOf]; omega
      · obtain rfl : j = L := by omega
        have hge : decide ((j : Int) < (j : Int)) = false := by simp
        have hrg : rg (tm true) (s.ms.drop b) lo (lo + j) = rg (tm true) (s.ms.drop b) lo hi := by
          rcases HLH.out with h | ⟨h, h'⟩
          · rw [h]
          · rw [h, h', Nat.add_zero]
        rw [hrg] at hrj
        have c6 := hhj.c6
        have f6 := hhj.free 6
        have HHJ := hid hhj
        have HRJ := hid hrj
        have HKJ := hid hkj
        clear hhj hrj hkj hrg hj hlt HB1 HK1
        cases f
        · have HHD := hid HHJ.out
          have HRD := hid HRJ.out
          have HKD := hid HKJ.out
          clear HHJ HRJ HKJ
          go_wp2_with fail
          refine (drop_any rb d m room b s.sent s.fin s.en (s.bs.drop b) (rg (tm true) (s.ms.drop b) lo hi) wr HHD.out HRD.out (by rw [rg_len]; exact HBM.out) (by rw [rg_len, HML.out]; exact hm6) HBL.out).mono ?_
          rintro e w2 ⟨rfl, d', m', hh2, hr2, hk2, hf2⟩
          have HH2 := hid hh2
          have HR2 := hid hr2
          have HK2 := hid (HKD.out.trans' hk2 (fun i hi e => .inl e))
          have HF2 := hid hf2
          clear hh2 hr2 hk2 hf2
          go_wp2
          go_ret
          refine ⟨d', m', by rw [HE.out.1]; rfl, ⟨?_, ?_⟩, HK2.out, HF2.out⟩
          · rw [HBT.out, HE.out.2]; exact HH2.out
          · have hq := HDP.out
            rw [HBT.out, tu_bs]
            have h1 := HR2.out
            rw [← hq, List.drop_drop, List.drop_drop] at h1
            rw [← hq]
            exact h1

        · have HHD := hid (HHJ.out.end_ 3)
          have HRD := hid (HRJ.out.hd 6 (.int .u8 3))
          have HKD := hid (HKJ.out.setCell rb 6 (.int .u8 3) (.inl (.inl rfl)))
          clear HHJ HRJ HKJ
          go_wp2_with fail
          refine (drop_any rb d m room b s.sent s.fin 3 (s.bs.drop b) (rg (tm true) (s.ms.drop b) lo hi) _ HHD.out HRD.out (by rw [rg_len]; exact HBM.out) (by rw [rg_len, HML.out]; exact hm6) HBL.out).mono ?_
          rintro e w2 ⟨rfl, d', m', hh2, hr2, hk2, hf2⟩
          have HH2 := hid hh2
          have HR2 := hid hr2
          have HK2 := hid (HKD.out.trans' hk2 (fun i hi e => .inl e))
          have HF2 := hid hf2
          clear hh2 hr2 hk2 hf2
          go_wp2
          go_ret
          refine ⟨d', m', by rw [HE.out.1]; rfl, ⟨?_, ?_⟩, HK2.out, HF2.out⟩
          · rw [HBT.out, HE.out.2]; exact HH2.out
          · have hq := HDP.out
            rw [HBT.out, tu_bs]
            have h1 := HR2.out
            rw [← hq, List.drop_drop, List.drop_drop] at h1
            rw [← hq]
            exact h1
  · have HE := hid (tu_bad (ack := true) hT)
    have HB := hid hB
    rw [hT] at OOR
    clear hB hO hL hn hT hsl
    go_enter Try.func23, Try.ntmps23
    go_wp2_with fail
    refine OOR.out.mono ?_
    rintro e w1 ⟨rfl, rfl⟩
    go_wp2
    go_ret
    exact ⟨d, m, by rw [HE.out.1]; rfl, by rw [HE.out.2]; exact HB.out, Keep.refl _ _, fun i h => h⟩

end Go.Proofs.Ytppemfdoogmeeaa
