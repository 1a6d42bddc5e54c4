/-
  What the document's own Turn (Ack and Lose) answers and does: a contract that the walk of the law SendqPlays uses.
-/
import Derived.Test.YtppemfdoogmeeaaRef
import Derived.Test.YtppemfdoogmeeaaAck
namespace Go.Proofs.Ytppemfdoogmeeaa
open Go.RowKit
set_option linter.unusedVariables false

set_option maxHeartbeats 2000000 in
theorem rturn_bad (rd : Nat) (x y : Sv) (room : Int) (s : S) (ack : Bool) (a n : Int) (f : Bool) (w : World) (hR : Rw w rd x y room s) (hS : s.sent ≤ 4611686018427387904) (hT : tuB s a n f = true) :
    Calls Try.prog 31 #[.pointer (some ⟨rd, 0, none⟩), .bool ack, .int .i64 a, .int .i64 n, .bool f] w fun e w' => e = .returned (.int .i64 30) ∧ w = w' := by
  have c1 := hR.hd.c1
  have c4 := hR.hd.c4
  have c5 := hR.hd.c5
  clear hR
  by_cases h1 : a < 0
  · have b1 : decide (a < 0) = true := by simp [h1]
    clear h1 hT
    go_enter Try.func31, Try.ntmps31
    go_wp2
    go_ret
    exact ⟨rfl, rfl⟩
  · have b1 : decide (a < 0) = false := by simp; omega
    by_cases h2 : n < 0
    · have b2 : decide (n < 0) = true := by simp [h2]
      clear h1 h2 hT
      go_enter Try.func31, Try.ntmps31
      go_wp2
      go_ret
      exact ⟨rfl, rfl⟩
    · have b2 : decide (n < 0) = false := by simp; omega
      by_cases h3 : (s.sent : Int) < a
      · have b3 : decide ((s.sent : Int) < a) = true := by simp [h3]
        clear h1 h2 h3 hT
        go_enter Try.func31, Try.ntmps31
        go_wp2
        go_ret
        exact ⟨rfl, rfl⟩
      · have b3 : decide ((s.sent : Int) < a) = false := by simp; omega
        have hw : IntKind.i64.wrap ((s.sent : Int) - a) = (s.sent : Int) - a := by rw [IntKind.wrap_i64]; omega
        by_cases h4 : (s.sent : Int) - a < n
        · have b4 : decide ((s.sent : Int) - a < n) = true := by simp [h4]
          clear h1 h2 h3 h4 hT
          go_enter Try.func31, Try.ntmps31
          go_wp2
          go_ret
          exact ⟨rfl, rfl⟩
        · have b4 : decide ((s.sent : Int) - a < n) = false := by simp; omega
          have hT' : (f && (!s.fin || s.en == 0)) = true := by
            have b5 : decide ((s.sent : Int) < a + n) = false := by simp; omega
            unfold tuB at hT
            rw [b1, b2, b5] at hT
            simpa using hT
          clear h1 h2 h3 h4 hT
          cases f
          · simp at hT'
          · cases hf : s.fin
            · rw [hf] at c4
              clear hf hT'
              go_enter Try.func31, Try.ntmps31
              go_wp2
              go_ret
              exact ⟨rfl, rfl⟩
            · rw [hf] at c4
              have he : (s.en == 0) = true := by rw [hf] at hT'; simpa using hT'
              clear hf hT'
              go_enter Try.func31, Try.ntmps31
              go_wp2
              go_ret
              exact ⟨rfl, rfl⟩

set_option maxHeartbeats 8000000 in
theorem rturn_ack (rd : Nat) (x y : Sv) (room : Int) (s : S) (a n : Int) (f : Bool) (w : World) (hR : Rw w rd x y room s) (hO : Ok room s) (hL : s.ms.length ≤ 4611686018427387904) (hT : tuB s a n f = false) :
    Calls Try.prog 31 #[.pointer (some ⟨rd, 0, none⟩), .bool true, .int .i64 a, .int .i64 n, .bool f] w fun e w' => e = .returned (.int .i64 0) ∧ Rw w' rd x y room (tuS s true a n f) ∧ Keep (Fp rd x y) w w' := by
  have c1 := hR.hd.c1
  have c4 := hR.hd.c4
  have c5 := hR.hd.c5
  obtain ⟨h0, h1, h2, h3⟩ := tuB_f hT
  obtain ⟨A, rfl⟩ : ∃ A : Nat, a = A := ⟨a.toNat, by omega⟩
  obtain ⟨N, rfl⟩ : ∃ N : Nat, n = N := ⟨n.toNat, by omega⟩
  have hsl := hO.sent
  have b1 : decide ((A : Int) < 0) = false := by simp
  have b2 : decide ((N : Int) < 0) = false := by simp
  have b3 : decide ((s.sent : Int) < (A : Int)) = false := by simp; omega
  have b3n : decide (s.sent < A) = false := by simp; omega
  have hw : IntKind.i64.wrap ((s.sent : Int) - (A : Int)) = (s.sent : Int) - A := by rw [IntKind.wrap_i64]; omega
  have b4 : decide ((s.sent : Int) - (A : Int) < (N : Int)) = false := by simp; omega
  obtain ⟨E, hE⟩ : ∃ E, E = A + N := ⟨_, rfl⟩
  have hwe : IntKind.i64.wrap ((A : Int) + (N : Int)) = E := by rw [IntKind.wrap_i64]; omega
  have HTS := hid (tu_ok (ack := true) hT).2
  rw [show ((A : Int)).toNat = A by omega, show ((A : Int) + (N : Int)).toNat = E by omega] at HTS
  have hyn : y.n = s.ms.length := hR.rs.sm.len.symm
  have hEy : E ≤ y.n := by omega
  have hy6 : y.n ≤ 4611686018427387904 := by omega
  have hAE : A ≤ E := by omega
  have HR := hid hR
  have H3 := hid h3
  have HYN := hid hyn
  have g1 : f = true → s.fin = true := fun h => (h3 h).1
  have g2 : f = true → (s.en == 0) = false := fun h => by have := (h3 h).2; simpa using this
  clear hR hO hL hT h0 h1 h2 h3 hsl hE hyn
  -- the loop and what is behind it
  cases f
  · clear g1 g2
    go_enter Try.func31, Try.ntmps31
    go_wp2
    go_loopw [11] (fun i wr => ∃ j : Nat, A ≤ j ∧ j ≤ E ∧ i = .int .i64 j ∧ Hr wr rd room s.sent x y s.fin s.en ∧ Rr wr rd x y s.bs (rg (tm true) s.ms A j) ∧ Keep (Fp rd x y) w wr) (fun i _ => E - (intOf i).toNat)
    case atStart => exact ⟨A, Nat.le_refl _, hAE, rfl, HR.out.hd, by rw [rg_none _ _ _ _ (Nat.le_refl _)]; exact HR.out.rs, Keep.refl _ _⟩
    case round =>
      obtain ⟨j, hAj, hj, rfl, hhj, hrj, hkj⟩ := hrel
      by_cases hlt : j < E
      · have hlt' : (j : Int) < (E : Int) := by omega
        have hjy : j < y.n := by omega
        have hjy' : (j : Int) < (y.n : Int) := by omega
        have hwi : IntKind.i64.wrap ((j : Int) + 1) = ((j + 1 : Nat) : Int) := by rw [IntKind.wrap_i64]; omega
        have hjm : j < s.ms.length := by rw [← HYN.out]; exact hjy
        obtain ⟨g, o, eya, hfz, hc⟩ := rown_cells hrj.sm (show 0 < y.n by omega)
        have hcj := hc j hjy
        have fj := hfz (o + j)
        have hat : at_ (rg (tm true) s.ms A j) j = at_ s.ms j := by rw [at_rg hjm, if_neg (by omega)]
        rw [hat] at hcj
        have d3 := hhj.c3
        rw [eya] at d3
        have HKC := hid (show ∀ v, Keep (Fp rd x y) w (wr.setCell ⟨g, o + j, none⟩ (.int .i64 v)) from fun v => hkj.setCell g _ _ (.inl (.inr (.inr (by rw [eya]; rfl)))))
        have HHC := hid (show ∀ v, Hr (wr.setCell ⟨g, o + j, none⟩ (.int .i64 v)) rd room s.sent x y s.fin s.en from fun v => hhj.keep ((Keep.refl (fun k => k = g) wr).setCell g (o + j) (.int .i64 v) (.inl rfl)) (fun e => hrj.e2 (by rw [eya, e]; rfl)))
        have HRC := hid (show Rr (wr.setCell ⟨g, o + j, none⟩ (.int .i64 (tm true (at_ s.ms j)))) rd x y s.bs (rg (tm true) s.ms A (j + 1)) from by
          have := hrj.mark eya hjy (tm true (at_ s.ms j))
          rw [rg_set hAj hjm] at this
          exact this)
        rw [tm_t] at HRC
        generalize at_ s.ms j = v at *
        clear hhj hrj hkj hfz hc hat eya hj hlt hjm
        go_wp2
        go_roundw
        case rel => exact ⟨j + 1, by omega, by omega, by go_num, HHC.out _, HRC.out, HKC.out _⟩
        case measure => simp [intOf]; omega
      · obtain rfl : j = E := by omega
        have hge : decide ((j : Int) < (j : Int)) = false := by simp
        have d5 := hhj.c5
        have f5 := hhj.free 5
        have HHJ := hid hhj
        have HRJ := hid hrj
        have HKJ := hid hkj
        clear hhj hrj hkj hj hlt
        go_wp2
        go_ret
        exact ⟨rfl, by rw [HTS.out]; exact ⟨HHJ.out, HRJ.out⟩, HKJ.out⟩
  · have hf := g1 rfl
    have he0 := g2 rfl
    clear g1 g2
    rw [hf] at c4
    clear hf
    go_enter Try.func31, Try.ntmps31
    go_wp2
    go_loopw [11] (fun i wr => ∃ j : Nat, A ≤ j ∧ j ≤ E ∧ i = .int .i64 j ∧ Hr wr rd room s.sent x y s.fin s.en ∧ Rr wr rd x y s.bs (rg (tm true) s.ms A j) ∧ Keep (Fp rd x y) w wr) (fun i _ => E - (intOf i).toNat)
    case atStart => exact ⟨A, Nat.le_refl _, hAE, rfl, HR.out.hd, by rw [rg_none _ _ _ _ (Nat.le_refl _)]; exact HR.out.rs, Keep.refl _ _⟩
    case round =>
      obtain ⟨j, hAj, hj, rfl, hhj, hrj, hkj⟩ := hrel
      by_cases hlt : j < E
      · have hlt' : (j : Int) < (E : Int) := by omega
        have hjy : j < y.n := by omega
        have hjy' : (j : Int) < (y.n : Int) := by omega
        have hwi : IntKind.i64.wrap ((j : Int) + 1) = ((j + 1 : Nat) : Int) := by rw [IntKind.wrap_i64]; omega
        have hjm : j < s.ms.length := by rw [← HYN.out]; exact hjy
        obtain ⟨g, o, eya, hfz, hc⟩ := rown_cells hrj.sm (show 0 < y.n by omega)
        have hcj := hc j hjy
        have fj := hfz (o + j)
        have hat : at_ (rg (tm true) s.ms A j) j = at_ s.ms j := by rw [at_rg hjm, if_neg (by omega)]
        rw [hat] at hcj
        have d3 := hhj.c3
        rw [eya] at d3
        have HKC := hid (show ∀ v, Keep (Fp rd x y) w (wr.setCell ⟨g, o + j, none⟩ (.int .i64 v)) from fun v => hkj.setCell g _ _ (.inl (.inr (.inr (by rw [eya]; rfl)))))
        have HHC := hid (show ∀ v, Hr (wr.setCell ⟨g, o + j, none⟩ (.int .i64 v)) rd room s.sent x y s.fin s.en from fun v => hhj.keep ((Keep.refl (fun k => k = g) wr).setCell g (o + j) (.int .i64 v) (.inl rfl)) (fun e => hrj.e2 (by rw [eya, e]; rfl)))
        have HRC := hid (show Rr (wr.setCell ⟨g, o + j, none⟩ (.int .i64 (tm true (at_ s.ms j)))) rd x y s.bs (rg (tm true) s.ms A (j + 1)) from by
          have := hrj.mark eya hjy (tm true (at_ s.ms j))
          rw [rg_set hAj hjm] at this
          exact this)
        rw [tm_t] at HRC
        generalize at_ s.ms j = v at *
        clear hhj hrj hkj hfz hc hat eya hj hlt hjm
        go_wp2
        go_roundw
        case rel => exact ⟨j + 1, by omega, by omega, by go_num, HHC.out _, HRC.out, HKC.out _⟩
        case measure => simp [intOf]; omega
      · obtain rfl : j = E := by omega
        have hge : decide ((j : Int) < (j : Int)) = false := by simp
        have d5 := hhj.c5
        have f5 := hhj.free 5
        have HHJ := hid hhj
        have HRJ := hid hrj
        have HKJ := hid hkj
        clear hhj hrj hkj hj hlt
        go_wp2
        go_ret
        exact ⟨rfl, by rw [HTS.out]; exact ⟨HHJ.out.end_ 3, HRJ.out.hd 5 _⟩, HKJ.out.setCell rd 5 _ (.inl (.inl rfl))⟩

set_option maxHeartbeats 8000000 in
theorem rturn_lose (rd : Nat) (x y : Sv) (room : Int) (s : S) (a n : Int) (f : Bool) (w : World) (hR : Rw w rd x y room s) (hO : Ok room s) (hL : s.ms.length ≤ 4611686018427387904) (hT : tuB s a n f = false) :
    Calls Try.prog 31 #[.pointer (some ⟨rd, 0, none⟩), .bool false, .int .i64 a, .int .i64 n, .bool f] w fun e w' => e = .returned (.int .i64 0) ∧ Rw w' rd x y room (tuS s false a n f) ∧ Keep (Fp rd x y) w w' := by
  have c1 := hR.hd.c1
  have c4 := hR.hd.c4
  have c5 := hR.hd.c5
  obtain ⟨h0, h1, h2, h3⟩ := tuB_f hT
  obtain ⟨A, rfl⟩ : ∃ A : Nat, a = A := ⟨a.toNat, by omega⟩
  obtain ⟨N, rfl⟩ : ∃ N : Nat, n = N := ⟨n.toNat, by omega⟩
  have hsl := hO.sent
  have b1 : decide ((A : Int) < 0) = false := by simp
  have b2 : decide ((N : Int) < 0) = false := by simp
  have b3 : decide ((s.sent : Int) < (A : Int)) = false := by simp; omega
  have b3n : decide (s.sent < A) = false := by simp; omega
  have hw : IntKind.i64.wrap ((s.sent : Int) - (A : Int)) = (s.sent : Int) - A := by rw [IntKind.wrap_i64]; omega
  have b4 : decide ((s.sent : Int) - (A : Int) < (N : Int)) = false := by simp; omega
  obtain ⟨E, hE⟩ : ∃ E, E = A + N := ⟨_, rfl⟩
  have hwe : IntKind.i64.wrap ((A : Int) + (N : Int)) = E := by rw [IntKind.wrap_i64]; omega
  have HTS := hid (tu_ok (ack := false) hT).2
  rw [show ((A : Int)).toNat = A by omega, show ((A : Int) + (N : Int)).toNat = E by omega] at HTS
  have hyn : y.n = s.ms.length := hR.rs.sm.len.symm
  have hEy : E ≤ y.n := by omega
  have hy6 : y.n ≤ 4611686018427387904 := by omega
  have hAE : A ≤ E := by omega
  have HR := hid hR
  have H3 := hid h3
  have HYN := hid hyn
  have g1 : f = true → s.fin = true := fun h => (h3 h).1
  have g2 : f = true → (s.en == 0) = false := fun h => by have := (h3 h).2; simpa using this
  clear hR hO hL hT h0 h1 h2 h3 hsl hE hyn
  -- the loop and what is behind it
  cases f
  · clear g1 g2
    go_enter Try.func31, Try.ntmps31
    go_wp2
    go_loopw [11] (fun i wr => ∃ j : Nat, A ≤ j ∧ j ≤ E ∧ i = .int .i64 j ∧ Hr wr rd room s.sent x y s.fin s.en ∧ Rr wr rd x y s.bs (rg (tm false) s.ms A j) ∧ Keep (Fp rd x y) w wr) (fun i _ => E - (intOf i).toNat)
    case atStart => exact ⟨A, Nat.le_refl _, hAE, rfl, HR.out.hd, by rw [rg_none _ _ _ _ (Nat.le_refl _)]; exact HR.out.rs, Keep.refl _ _⟩
    case round =>
      obtain ⟨j, hAj, hj, rfl, hhj, hrj, hkj⟩ := hrel
      by_cases hlt : j < E
      · have hlt' : (j : Int) < (E : Int) := by omega
        have hjy : j < y.n := by omega
        have hjy' : (j : Int) < (y.n : Int) := by omega
        have hwi : IntKind.i64.wrap ((j : Int) + 1) = ((j + 1 : Nat) : Int) := by rw [IntKind.wrap_i64]; omega
        have hjm : j < s.ms.length := by rw [← HYN.out]; exact hjy
        obtain ⟨g, o, eya, hfz, hc⟩ := rown_cells hrj.sm (show 0 < y.n by omega)
        have hcj := hc j hjy
        have fj := hfz (o + j)
        have hat : at_ (rg (tm false) s.ms A j) j = at_ s.ms j := by rw [at_rg hjm, if_neg (by omega)]
        rw [hat] at hcj
        have d3 := hhj.c3
        rw [eya] at d3
        have HKC := hid (show ∀ v, Keep (Fp rd x y) w (wr.setCell ⟨g, o + j, none⟩ (.int .i64 v)) from fun v => hkj.setCell g _ _ (.inl (.inr (.inr (by rw [eya]; rfl)))))
        have HHC := hid (show ∀ v, Hr (wr.setCell ⟨g, o + j, none⟩ (.int .i64 v)) rd room s.sent x y s.fin s.en from fun v => hhj.keep ((Keep.refl (fun k => k = g) wr).setCell g (o + j) (.int .i64 v) (.inl rfl)) (fun e => hrj.e2 (by rw [eya, e]; rfl)))
        have HRC := hid (show Rr (wr.setCell ⟨g, o + j, none⟩ (.int .i64 (tm false (at_ s.ms j)))) rd x y s.bs (rg (tm false) s.ms A (j + 1)) from by
          have := hrj.mark eya hjy (tm false (at_ s.ms j))
          rw [rg_set hAj hjm] at this
          exact this)
        by_cases hy : at_ s.ms j = 1
        · rw [tm_f1 hy] at HRC
          rw [hy] at hcj
          clear hhj hrj hkj hfz hc hat eya hj hlt hjm hy
          go_wp2
          go_roundw
          case rel => exact ⟨j + 1, by omega, by omega, by go_num, HHC.out _, HRC.out, HKC.out _⟩
          case measure => simp [intOf]; omega
        · have HRK := hid (show Rr wr rd x y s.bs (rg (tm false) s.ms A (j + 1)) from by rw [rg_keep hjm (tm_f2 hy)]; exact hrj)
          have HHK := hid hhj
          have HKK := hid hkj
          have hne : (at_ s.ms j == 1) = false := by simpa using hy
          clear HRC HHC HKC
          generalize at_ s.ms j = v at *
          clear hhj hrj hkj hfz hc hat eya hj hlt hjm hy
          go_wp2
          go_roundw
          case rel => exact ⟨j + 1, by omega, by omega, by go_num, HHK.out, HRK.out, HKK.out⟩
          case measure => simp [intOf]; omega
      · obtain rfl : j = E := by omega
        have hge : decide ((j : Int) < (j : Int)) = false := by simp
        have d5 := hhj.c5
        have f5 := hhj.free 5
        have HHJ := hid hhj
        have HRJ := hid hrj
        have HKJ := hid hkj
        clear hhj hrj hkj hj hlt
        go_wp2
        go_ret
        exact ⟨rfl, by rw [HTS.out]; exact ⟨HHJ.out, HRJ.out⟩, HKJ.out⟩
  · have hf := g1 rfl
    have he0 := g2 rfl
    clear g1 g2
    rw [hf] at c4
    clear hf
    go_enter Try.func31, Try.ntmps31
    go_wp2
    go_loopw [11] (fun i wr => ∃ j : Nat, A ≤ j ∧ j ≤ E ∧ i = .int .i64 j ∧ Hr wr rd room s.sent x y s.fin s.en ∧ Rr wr rd x y s.bs (rg (tm false) s.ms A j) ∧ Keep (Fp rd x y) w wr) (fun i _ => E - (intOf i).toNat)
    case atStart => exact ⟨A, Nat.le_refl _, hAE, rfl, HR.out.hd, by rw [rg_none _ _ _ _ (Nat.le_refl _)]; exact HR.out.rs, Keep.refl _ _⟩
    case round =>
      obtain ⟨j, hAj, hj, rfl, hhj, hrj, hkj⟩ := hrel
      by_cases hlt : j < E
      · have hlt' : (j : Int) < (E : Int) := by omega
        have hjy : j < y.n := by omega
        have hjy' : (j : Int) < (y.n : Int) := by omega
        have hwi : IntKind.i64.wrap ((j : Int) + 1) = ((j + 1 : Nat) : Int) := by rw [IntKind.wrap_i64]; omega
        have hjm : j < s.ms.length := by rw [← HYN.out]; exact hjy
        obtain ⟨g, o, eya, hfz, hc⟩ := rown_cells hrj.sm (show 0 < y.n by omega)
        have hcj := hc j hjy
        have fj := hfz (o + j)
        have hat : at_ (rg (tm false) s.ms A j) j = at_ s.ms j := by rw [at_rg hjm, if_neg (by omega)]
        rw [hat] at hcj
        have d3 := hhj.c3
        rw [eya] at d3
        have HKC := hid (show ∀ v, Keep (Fp rd x y) w (wr.setCell ⟨g, o + j, none⟩ (.int .i64 v)) from fun v => hkj.setCell g _ _ (.inl (.inr (.inr (by rw [eya]; rfl)))))
        have HHC := hid (show ∀ v, Hr (wr.setCell ⟨g, o + j, none⟩ (.int .i64 v)) rd room s.sent x y s.fin s.en from fun v => hhj.keep ((Keep.refl (fun k => k = g) wr).setCell g (o + j) (.int .i64 v) (.inl rfl)) (fun e => hrj.e2 (by rw [eya, e]; rfl)))
        have HRC := hid (show Rr (wr.setCell ⟨g, o + j, none⟩ (.int .i64 (tm false (at_ s.ms j)))) rd x y s.bs (rg (tm false) s.ms A (j + 1)) from by
          have := hrj.mark eya hjy (tm false (at_ s.ms j))
          rw [rg_set hAj hjm] at this
          exact this)
        by_cases hy : at_ s.ms j = 1
        · rw [tm_f1 hy] at HRC
          rw [hy] at hcj
          clear hhj hrj hkj hfz hc hat eya hj hlt hjm hy
          go_wp2
          go_roundw
          case rel => exact ⟨j + 1, by omega, by omega, by go_num, HHC.out _, HRC.out, HKC.out _⟩
          case measure => simp [intOf]; omega
        · have HRK := hid (show Rr wr rd x y s.bs (rg (tm false) s.ms A (j + 1)) from by rw [rg_keep hjm (tm_f2 hy)]; exact hrj)
          have HHK := hid hhj
          have HKK := hid hkj
          have hne : (at_ s.ms j == 1) = false := by simpa using hy
          clear HRC HHC HKC
          generalize at_ s.ms j = v at *
          clear hhj hrj hkj hfz hc hat eya hj hlt hjm hy
          go_wp2
          go_roundw
          case rel => exact ⟨j + 1, by omega, by omega, by go_num, HHK.out, HRK.out, HKK.out⟩
          case measure => simp [intOf]; omega
      · obtain rfl : j = E := by omega
        have hge : decide ((j : Int) < (j : Int)) = false := by simp
        have d5 := hhj.c5
        have f5 := hhj.free 5
        have HHJ := hid hhj
        have HRJ := hid hrj
        have HKJ := hid hkj
        clear hhj hrj hkj hj hlt
        by_cases he : s.en = 1
        · rw [he] at d5
          have HEE := hid he
          clear he
          go_wp2
          go_ret
          refine ⟨rfl, ?_, HKJ.out.setCell rd 5 (.int .i64 2) (.inl (.inl rfl))⟩
          rw [HTS.out]
          have h1 := HHJ.out.end_ 2
          refine ⟨?_, HRJ.out.hd 5 _⟩
          show Hr _ _ _ _ _ _ _ (if true = true then tm false s.en else s.en)
          rw [if_pos rfl, tm_f1 HEE.out]; exact h1
        · have hne : (s.en == 1) = false := by simpa using he
          have HEE := hid he
          clear he
          go_wp2
          go_ret
          refine ⟨rfl, ?_, HKJ.out⟩
          rw [HTS.out]
          refine ⟨?_, HRJ.out⟩
          show Hr _ _ _ _ _ _ _ (if true = true then tm false s.en else s.en)
          rw [if_pos rfl, tm_f2 HEE.out]; exact HHJ.out

/-- Both together. -/
theorem rturn_any (rd : Nat) (x y : Sv) (room : Int) (s : S) (ack : Bool) (a n : Int) (f : Bool) (w : World) (hR : Rw w rd x y room s) (hO : Ok room s) (hL : s.ms.length ≤ 4611686018427387904) :
    Calls Try.prog 31 #[.pointer (some ⟨rd, 0, none⟩), .bool ack, .int .i64 a, .int .i64 n, .bool f] w fun e w' => e = .returned (.int .i64 (tuE s a n f)) ∧ Rw w' rd x y room (tuS s ack a n f) ∧ Keep (Fp rd x y) w w' := by
  cases hT : tuB s a n f
  · rw [(tu_ok (ack := ack) hT).1]
    cases ack
    · exact rturn_lose rd x y room s a n f w hR hO hL hT
    · exact rturn_ack rd x y room s a n f w hR hO hL hT
  · rw [(tu_bad (ack := ack) hT).1, (tu_bad (ack := ack) hT).2]
    refine (rturn_bad rd x y room s ack a n f w hR (by have := hO.sent; omega) hT).mono ?_
    rintro e w' ⟨rfl, rfl⟩
    exact ⟨rfl, hR, Keep.refl _ _⟩
end Go.Proofs.Ytppemfdoogmeeaa
