/-
  What the document's own find answers: the byte whose code stands at a bit. A contract that the walk of its Decode uses.
-/
import Derived.Test.YtchkiohmjgmmbaaRFd
namespace Go.Proofs.Ytchkiohmjgmmbaa
open Go.RowKit
set_option linter.unusedVariables false
set_option maxRecDepth 100000

/-- A code of l bits stands at the beginning. -/
def Hit (bs : List Int) (l : Nat) : Prop := hqF l ≤ v2 0 (bs.take l) ∧ v2 0 (bs.take l) < hqF l + ((hqC l).length : Nat)
theorem fdA_find {bs : List Int} {l : Nat} (hl : l ≤ bs.length) (hh : Hit bs l) : ∀ L : List Nat, l ∈ L → L.Pairwise (· < ·) → (∀ y ∈ L, y < l → ¬ Hit bs y) → fdA bs L = some ((hqC l).getD (v2 0 (bs.take l) - hqF l).toNat 0, l)
  | [], h, _, _ => by cases h
  | y :: L, h, hs, hn => by
    rw [List.pairwise_cons] at hs
    by_cases e : y = l
    · subst e
      exact fdA_hit ⟨hl, hh.1, hh.2⟩
    · have hm : l ∈ L := by
        rcases List.mem_cons.1 h with h | h
        · exact absurd h.symm e
        · exact h
      have hlt := hs.1 l hm
      rw [fdA_skip (fun k => hn y (by simp) hlt ⟨k.2.1, k.2.2⟩)]
      exact fdA_find hl hh L hm hs.2 (fun z hz => hn z (by simp [hz]))
theorem fdA_no {bs : List Int} : ∀ L : List Nat, (∀ y ∈ L, y ≤ bs.length → ¬ Hit bs y) → fdA bs L = none
  | [], _ => rfl
  | y :: L, h => by
    rw [fdA_skip (fun k => h y (by simp) k.1 ⟨k.2.1, k.2.2⟩)]
    exact fdA_no L (fun z hz => h z (by simp [hz]))
/-- No code of at most k bits stands there. -/
def NoF (bs : List Int) (k : Nat) : Prop := ∀ y ∈ ([5, 6, 7, 8, 15] : List Nat), y ≤ k → ¬ Hit bs y
def fdR (bs : List Int) : Int × Nat := (fd bs).getD (0, 0)
theorem fdR_none {bs : List Int} {k : Nat} (h : NoF bs k) (hk : k = 15 ∨ k = bs.length) (hb : k ≤ 15) : fdR bs = (0, 0) := by
  unfold fdR fd
  rw [fdA_no _ (fun y hy hl => h y hy (by
    rcases hk with rfl | rfl
    · simp at hy; omega
    · exact hl))]
  rfl
theorem fdR_hit {bs : List Int} {k l : Nat} (h : NoF bs k) (hl : l = k + 1) (hm : l ∈ ([5, 6, 7, 8, 15] : List Nat)) (hle : l ≤ bs.length) (hh : Hit bs l) : fdR bs = ((hqC l).getD (v2 0 (bs.take l) - hqF l).toNat 0, l) := by
  unfold fdR fd
  rw [fdA_find hle hh _ hm srt (fun y hy hlt => h y hy (by omega))]
  rfl
theorem NoF.next {bs : List Int} {k : Nat} (h : NoF bs k) (hn : (k + 1) ∈ ([5, 6, 7, 8, 15] : List Nat) → ¬ Hit bs (k + 1)) : NoF bs (k + 1) := by
  intro y hy hle
  rcases Nat.lt_or_ge y (k + 1) with h1 | h1
  · exact h y hy (by omega)
  · obtain rfl : y = k + 1 := by omega
    exact hn hy
theorem v2_succ {bs : List Int} {k : Nat} (hk : k < bs.length) : v2 0 (bs.take (k + 1)) = v2 0 (bs.take k) * 2 + bs.getD k 0 := by
  rw [List.take_add_one, List.getElem?_eq_getElem hk, Option.toList_some, v2_app, List.getD_eq_getElem?_getD, List.getElem?_eq_getElem hk]
  simp [v2]
theorem v2_take_bd {bs : List Int} (h : Bits bs) {k : Nat} (hk : k ≤ 15) : 0 ≤ v2 0 (bs.take k) ∧ v2 0 (bs.take k) < 32768 := by
  have hb := v2_bound (bs.take k) (h.take k)
  have hl : (bs.take k).length ≤ 15 := Nat.le_trans (List.length_take_le _ _) hk
  have hp := Nat.pow_le_pow_right (n := 2) (by decide) hl
  have e := pow_cast (bs.take k).length
  refine ⟨hb.1, Int.lt_of_lt_of_le hb.2 ?_⟩
  rw [← e]
  exact Int.ofNat_le.2 hp
theorem bit_bd {bs : List Int} (h : Bits bs) (k : Nat) : 0 ≤ bs.getD k 0 ∧ bs.getD k 0 ≤ 1 := by
  rw [List.getD_eq_getElem?_getD]
  cases e : bs[k]? with
  | none => simp
  | some v => rcases h v (List.mem_of_getElem? e) with rfl | rfl <;> simp
set_option maxHeartbeats 16000000 in
theorem find_any (a : Option Addr) (n c p t : Nat) (zs : List Int) (w : World) (hlen : zs.length = n) (hn : n ≤ 16384) (ht : t = 8 * n) (hp : p ≤ t) (hz : ∀ y ∈ zs, 0 ≤ y ∧ y < 256) (hseg : Seg w a zs) :
    Calls Try.prog 44 #[.slice a n c, .int .i64 p, .int .i64 t] w fun e w' => e = .returned (.tuple #[.int .u8 (fdR ((ub zs).drop p)).1, .int .i64 ((fdR ((ub zs).drop p)).2 : Nat)]) ∧ w = w' := by
  have hbits := (ub_bits zs).drop p
  obtain ⟨lf, hlf⟩ : ∃ lf : Nat, t - p = lf := ⟨_, rfl⟩
  have hbl : ((ub zs).drop p).length = lf := by rw [List.length_drop, ub_len, hlen, ← ht]; exact hlf
  have HGD := hid (fun k => getD_drop (ub zs) p k 0)
  have HBT := hid (fun (i : Nat) (hi : i < 8 * n) => bit_any a n c i zs w hlen hn hi hz hseg)
  have HNT := hid nth_any
  have HN15 := hid nth15_any
  clear hlen hz hseg
  generalize (ub zs).drop p = bs at *
  have HB := hid hbits
  have HBL := hid hbl
  obtain ⟨⟨rx, rl⟩, hr⟩ : ∃ m, fdR bs = m := ⟨_, rfl⟩
  have HR := hid hr
  rw [hr]
  clear hr hbits hbl
  have hpl : (p : Int) + (lf : Int) = (t : Int) := by omega
  have HT := hid (show t = 8 * n ∧ t - p = lf ∧ p ≤ t from ⟨ht, hlf, hp⟩)
  have htb : t ≤ 131072 := by omega
  clear ht hlf hp hn
  go_enter Try.func44, Try.ntmps44
  go_wp2
  go_loopw [8, 9, 10, 11] (fun v i _ _ wr => wr = w ∧ ∃ k : Nat, k ≤ 15 ∧ k ≤ lf ∧ i = .int .i64 ((k + 1 : Nat) : Int) ∧ v = .int .i64 (v2 0 (bs.take k)) ∧ NoF bs k) (fun _ i _ _ _ => ((17 : Int) - intOf i).toNat)
  case atStart => exact ⟨rfl, 0, by omega, by omega, rfl, rfl, fun y hy h => by simp at hy; omega⟩
  case round =>
    obtain ⟨rfl, k, hk, hkl, rfl, rfl, hN⟩ := hrel
    have HN := hid hN
    clear hN
    have hv0 := v2_take_bd HB.out hk
    by_cases hk15 : k = 15
    · subst hk15
      have HE := hid (HR.out.symm.trans (fdR_none HN.out (.inl rfl) (by omega)))
      generalize v2 0 (bs.take 15) = v at *
      go_wp2
      go_ret2
      exact ⟨by have h := HE.out; simp only [Prod.mk.injEq] at h; rw [h.1, h.2]; rfl, rfl⟩
    have hki : ((k + 1 : Nat) : Int) ≤ 15 := by omega
    by_cases hkf : k = lf
    · subst hkf
      have HE := hid (HR.out.symm.trans (fdR_none HN.out (.inr HBL.out.symm) (by omega)))
      have hgt : decide ((p : Int) + ((k : Int) + 1) ≤ (t : Int)) = false := decide_eq_false (by omega)
      generalize v2 0 (bs.take k) = v at *
      clear hk15
      go_wp2
      go_ret2
      exact ⟨by have h := HE.out; simp only [Prod.mk.injEq] at h; rw [h.1, h.2]; rfl, rfl⟩
    have hle : (p : Int) + ((k : Int) + 1) ≤ (t : Int) := by omega
    have hpk : p + k < 8 * n := by have := HT.out; omega
    have HBK := hid (HBT.out (p + k) hpk)
    rw [← HGD.out k] at HBK
    have hb0 := bit_bd HB.out k
    have HV := hid (v2_succ (bs := bs) (k := k) (by rw [HBL.out]; omega))
    have hv1 := v2_take_bd HB.out (show k + 1 ≤ 15 by omega)
    have hsum : v2 0 (bs.take k) * 2 + bs.getD k 0 = v2 0 (bs.take (k + 1)) := HV.out.symm
    have hpk1 : (p : Int) + ((k : Int) + 1) - 1 = ((p + k : Nat) : Int) := by omega
    have HLE := hid (show k + 1 ≤ bs.length by rw [HBL.out]; omega)
    clear HV hkf hk15 hpk
    by_cases hcl : (k + 1) ∈ ([5, 6, 7, 8, 15] : List Nat)
    · have hcs : k = 4 ∨ k = 5 ∨ k = 6 ∨ k = 7 ∨ k = 14 := by simp at hcl; omega
      clear hcl
      rcases hcs with hk4 | hk4 | hk4 | hk4 | hk4
      · have HK := hid hk4
        have HHI := hid (show Hit bs (k + 1) ↔ (0 ≤ v2 0 (bs.take (k + 1)) ∧ v2 0 (bs.take (k + 1)) ≤ 9) from by
          unfold Hit
          rw [show hqF (k + 1) = 0 from by rw [hk4]; rfl, show ((hqC (k + 1)).length : Int) = 10 from by rw [hk4]; decide]
          constructor <;> intro h <;> omega)
        have HFH := hid (fun (h : Hit bs (k + 1)) => fdR_hit HN.out rfl (by rw [hk4]; decide) HLE.out h)
        rw [show hqF (k + 1) = 0 from by rw [hk4]; rfl, show hqC (k + 1) = clS 5 from by rw [hk4]; rfl] at HFH
        have e5 : ((k : Int) + 1 == 5) = true := by rw [hk4]; rfl
        clear hk4
        generalize v2 0 (bs.take k) = v at *
        generalize bs.getD k 0 = bt at *
        obtain ⟨u, hu⟩ : ∃ u, v2 0 (bs.take (k + 1)) = u := ⟨_, rfl⟩
        rw [hu] at hsum hv1 HHI HFH
        have HU := hid hu
        clear hu
        generalize hpkk : p + k = pk at *
        have HPK := hid hpkk
        clear hpkk
        by_cases h1 : 0 ≤ u
        · by_cases h2 : u ≤ 9
          · have HF := hid (HR.out.symm.trans (HFH.out (HHI.out.2 ⟨h1, h2⟩)))
            obtain ⟨i, hi⟩ := Int.eq_ofNat_of_zero_le (show 0 ≤ u - 0 by omega)
            have HNX := hid (show Calls Try.prog 50 #[.int .i64 ((k : Int) + 1), .int .i64 (i : Int)] wr (fun e w' => e = .returned (.int .u8 ((clS 5).getD i 0)) ∧ wr = w') from by
              rw [show (k : Int) + 1 = ((5 : Nat) : Int) from by have := HK.out; omega]
              exact nth_any 5 i wr (by omega) (by show i < 10; omega))
            rw [hi, Int.toNat_natCast] at HF
            have HE := hid HF.out
            generalize (clS 5).getD i 0 = xv at HNX HE
            clear HF HFH HHI
            obtain rfl : u = (i : Int) := by omega
            clear hi
            go_wp2_with (first | (go_at_call 45; refine HBK.out.mono ?_; rintro e w1 ⟨rfl, rfl⟩) | (go_at_call 50; refine HNX.out.mono ?_; rintro e w1 ⟨rfl, rfl⟩))
            go_ret2
            exact ⟨by have h := HE.out; simp only [Prod.mk.injEq] at h; rw [h.1, h.2]; rfl, rfl⟩
          · have h2' : decide (u ≤ 9) = false := decide_eq_false h2
            have HNN := hid (HN.out.next (fun _ => (fun h => h2 (HHI.out.1 h).2)))
            clear h2 HFH HHI
            go_wp2_with (go_at_call 45; refine HBK.out.mono ?_; rintro e w1 ⟨rfl, rfl⟩)
            go_roundw
            case rel => exact ⟨trivial, k + 1, by omega, by omega, by go_num, by rw [← HU.out], HNN.out⟩
            case measure => simp [intOf]; omega
        · exact absurd hv1.1 h1
      · have HK := hid hk4
        have HHI := hid (show Hit bs (k + 1) ↔ (20 ≤ v2 0 (bs.take (k + 1)) ∧ v2 0 (bs.take (k + 1)) ≤ 45) from by
          unfold Hit
          rw [show hqF (k + 1) = 20 from by rw [hk4]; rfl, show ((hqC (k + 1)).length : Int) = 26 from by rw [hk4]; decide]
          constructor <;> intro h <;> omega)
        have HFH := hid (fun (h : Hit bs (k + 1)) => fdR_hit HN.out rfl (by rw [hk4]; decide) HLE.out h)
        rw [show hqF (k + 1) = 20 from by rw [hk4]; rfl, show hqC (k + 1) = clS 6 from by rw [hk4]; rfl] at HFH
        have e5 : ((k : Int) + 1 == 5) = false := beq_eq_false_iff_ne.2 (by omega)
        have e6 : ((k : Int) + 1 == 6) = true := by rw [hk4]; rfl
        clear hk4
        generalize v2 0 (bs.take k) = v at *
        generalize bs.getD k 0 = bt at *
        obtain ⟨u, hu⟩ : ∃ u, v2 0 (bs.take (k + 1)) = u := ⟨_, rfl⟩
        rw [hu] at hsum hv1 HHI HFH
        have HU := hid hu
        clear hu
        generalize hpkk : p + k = pk at *
        have HPK := hid hpkk
        clear hpkk
        by_cases h1 : 20 ≤ u
        · by_cases h2 : u ≤ 45
          · have HF := hid (HR.out.symm.trans (HFH.out (HHI.out.2 ⟨h1, h2⟩)))
            obtain ⟨i, hi⟩ := Int.eq_ofNat_of_zero_le (show 0 ≤ u - 20 by omega)
            have HNX := hid (show Calls Try.prog 50 #[.int .i64 ((k : Int) + 1), .int .i64 (i : Int)] wr (fun e w' => e = .returned (.int .u8 ((clS 6).getD i 0)) ∧ wr = w') from by
              rw [show (k : Int) + 1 = ((6 : Nat) : Int) from by have := HK.out; omega]
              exact nth_any 6 i wr (by omega) (by show i < 26; omega))
            rw [hi, Int.toNat_natCast] at HF
            have HE := hid HF.out
            generalize (clS 6).getD i 0 = xv at HNX HE
            clear HF HFH HHI
            go_wp2_with (first | (go_at_call 45; refine HBK.out.mono ?_; rintro e w1 ⟨rfl, rfl⟩) | (go_at_call 50; refine HNX.out.mono ?_; rintro e w1 ⟨rfl, rfl⟩))
            go_ret2
            exact ⟨by have h := HE.out; simp only [Prod.mk.injEq] at h; rw [h.1, h.2]; rfl, rfl⟩
          · have h2' : decide (u ≤ 45) = false := decide_eq_false h2
            have HNN := hid (HN.out.next (fun _ => (fun h => h2 (HHI.out.1 h).2)))
            clear h2 HFH HHI
            go_wp2_with (go_at_call 45; refine HBK.out.mono ?_; rintro e w1 ⟨rfl, rfl⟩)
            go_roundw
            case rel => exact ⟨trivial, k + 1, by omega, by omega, by go_num, by rw [← HU.out], HNN.out⟩
            case measure => simp [intOf]; omega
        · have h1' : decide (20 ≤ u) = false := decide_eq_false h1
          have HNN := hid (HN.out.next (fun _ => (fun h => h1 (HHI.out.1 h).1)))
          clear h1 HFH HHI
          go_wp2_with (go_at_call 45; refine HBK.out.mono ?_; rintro e w1 ⟨rfl, rfl⟩)
          go_roundw
          case rel => exact ⟨trivial, k + 1, by omega, by omega, by go_num, by rw [← HU.out], HNN.out⟩
          case measure => simp [intOf]; omega
      · have HK := hid hk4
        have HHI := hid (show Hit bs (k + 1) ↔ (92 ≤ v2 0 (bs.take (k + 1)) ∧ v2 0 (bs.take (k + 1)) ≤ 123) from by
          unfold Hit
          rw [show hqF (k + 1) = 92 from by rw [hk4]; rfl, show ((hqC (k + 1)).length : Int) = 32 from by rw [hk4]; decide]
          constructor <;> intro h <;> omega)
        have HFH := hid (fun (h : Hit bs (k + 1)) => fdR_hit HN.out rfl (by rw [hk4]; decide) HLE.out h)
        rw [show hqF (k + 1) = 92 from by rw [hk4]; rfl, show hqC (k + 1) = clS 7 from by rw [hk4]; rfl] at HFH
        have e5 : ((k : Int) + 1 == 5) = false := beq_eq_false_iff_ne.2 (by omega)
        have e6 : ((k : Int) + 1 == 6) = false := beq_eq_false_iff_ne.2 (by omega)
        have e7 : ((k : Int) + 1 == 7) = true := by rw [hk4]; rfl
        clear hk4
        generalize v2 0 (bs.take k) = v at *
        generalize bs.getD k 0 = bt at *
        obtain ⟨u, hu⟩ : ∃ u, v2 0 (bs.take (k + 1)) = u := ⟨_, rfl⟩
        rw [hu] at hsum hv1 HHI HFH
        have HU := hid hu
        clear hu
        generalize hpkk : p + k = pk at *
        have HPK := hid hpkk
        clear hpkk
        by_cases h1 : 92 ≤ u
        · by_cases h2 : u ≤ 123
          · have HF := hid (HR.out.symm.trans (HFH.out (HHI.out.2 ⟨h1, h2⟩)))
            obtain ⟨i, hi⟩ := Int.eq_ofNat_of_zero_le (show 0 ≤ u - 92 by omega)
            have HNX := hid (show Calls Try.prog 50 #[.int .i64 ((k : Int) + 1), .int .i64 (i : Int)] wr (fun e w' => e = .returned (.int .u8 ((clS 7).getD i 0)) ∧ wr = w') from by
              rw [show (k : Int) + 1 = ((7 : Nat) : Int) from by have := HK.out; omega]
              exact nth_any 7 i wr (by omega) (by show i < 32; omega))
            rw [hi, Int.toNat_natCast] at HF
            have HE := hid HF.out
            generalize (clS 7).getD i 0 = xv at HNX HE
            clear HF HFH HHI
            go_wp2_with (first | (go_at_call 45; refine HBK.out.mono ?_; rintro e w1 ⟨rfl, rfl⟩) | (go_at_call 50; refine HNX.out.mono ?_; rintro e w1 ⟨rfl, rfl⟩))
            go_ret2
            exact ⟨by have h := HE.out; simp only [Prod.mk.injEq] at h; rw [h.1, h.2]; rfl, rfl⟩
          · have h2' : decide (u ≤ 123) = false := decide_eq_false h2
            have HNN := hid (HN.out.next (fun _ => (fun h => h2 (HHI.out.1 h).2)))
            clear h2 HFH HHI
            go_wp2_with (go_at_call 45; refine HBK.out.mono ?_; rintro e w1 ⟨rfl, rfl⟩)
            go_roundw
            case rel => exact ⟨trivial, k + 1, by omega, by omega, by go_num, by rw [← HU.out], HNN.out⟩
            case measure => simp [intOf]; omega
        · have h1' : decide (92 ≤ u) = false := decide_eq_false h1
          have HNN := hid (HN.out.next (fun _ => (fun h => h1 (HHI.out.1 h).1)))
          clear h1 HFH HHI
          go_wp2_with (go_at_call 45; refine HBK.out.mono ?_; rintro e w1 ⟨rfl, rfl⟩)
          go_roundw
          case rel => exact ⟨trivial, k + 1, by omega, by omega, by go_num, by rw [← HU.out], HNN.out⟩
          case measure => simp [intOf]; omega
      · have HK := hid hk4
        have HHI := hid (show Hit bs (k + 1) ↔ (248 ≤ v2 0 (bs.take (k + 1)) ∧ v2 0 (bs.take (k + 1)) ≤ 253) from by
          unfold Hit
          rw [show hqF (k + 1) = 248 from by rw [hk4]; rfl, show ((hqC (k + 1)).length : Int) = 6 from by rw [hk4]; decide]
          constructor <;> intro h <;> omega)
        have HFH := hid (fun (h : Hit bs (k + 1)) => fdR_hit HN.out rfl (by rw [hk4]; decide) HLE.out h)
        rw [show hqF (k + 1) = 248 from by rw [hk4]; rfl, show hqC (k + 1) = clS 8 from by rw [hk4]; rfl] at HFH
        have e5 : ((k : Int) + 1 == 5) = false := beq_eq_false_iff_ne.2 (by omega)
        have e6 : ((k : Int) + 1 == 6) = false := beq_eq_false_iff_ne.2 (by omega)
        have e7 : ((k : Int) + 1 == 7) = false := beq_eq_false_iff_ne.2 (by omega)
        have e8 : ((k : Int) + 1 == 8) = true := by rw [hk4]; rfl
        clear hk4
        generalize v2 0 (bs.take k) = v at *
        generalize bs.getD k 0 = bt at *
        obtain ⟨u, hu⟩ : ∃ u, v2 0 (bs.take (k + 1)) = u := ⟨_, rfl⟩
        rw [hu] at hsum hv1 HHI HFH
        have HU := hid hu
        clear hu
        generalize hpkk : p + k = pk at *
        have HPK := hid hpkk
        clear hpkk
        by_cases h1 : 248 ≤ u
        · by_cases h2 : u ≤ 253
          · have HF := hid (HR.out.symm.trans (HFH.out (HHI.out.2 ⟨h1, h2⟩)))
            obtain ⟨i, hi⟩ := Int.eq_ofNat_of_zero_le (show 0 ≤ u - 248 by omega)
            have HNX := hid (show Calls Try.prog 50 #[.int .i64 ((k : Int) + 1), .int .i64 (i : Int)] wr (fun e w' => e = .returned (.int .u8 ((clS 8).getD i 0)) ∧ wr = w') from by
              rw [show (k : Int) + 1 = ((8 : Nat) : Int) from by have := HK.out; omega]
              exact nth_any 8 i wr (by omega) (by show i < 6; omega))
            rw [hi, Int.toNat_natCast] at HF
            have HE := hid HF.out
            generalize (clS 8).getD i 0 = xv at HNX HE
            clear HF HFH HHI
            go_wp2_with (first | (go_at_call 45; refine HBK.out.mono ?_; rintro e w1 ⟨rfl, rfl⟩) | (go_at_call 50; refine HNX.out.mono ?_; rintro e w1 ⟨rfl, rfl⟩))
            go_ret2
            exact ⟨by have h := HE.out; simp only [Prod.mk.injEq] at h; rw [h.1, h.2]; rfl, rfl⟩
          · have h2' : decide (u ≤ 253) = false := decide_eq_false h2
            have HNN := hid (HN.out.next (fun _ => (fun h => h2 (HHI.out.1 h).2)))
            clear h2 HFH HHI
            go_wp2_with (go_at_call 45; refine HBK.out.mono ?_; rintro e w1 ⟨rfl, rfl⟩)
            go_roundw
            case rel => exact ⟨trivial, k + 1, by omega, by omega, by go_num, by rw [← HU.out], HNN.out⟩
            case measure => simp [intOf]; omega
        · have h1' : decide (248 ≤ u) = false := decide_eq_false h1
          have HNN := hid (HN.out.next (fun _ => (fun h => h1 (HHI.out.1 h).1)))
          clear h1 HFH HHI
          go_wp2_with (go_at_call 45; refine HBK.out.mono ?_; rintro e w1 ⟨rfl, rfl⟩)
          go_roundw
          case rel => exact ⟨trivial, k + 1, by omega, by omega, by go_num, by rw [← HU.out], HNN.out⟩
          case measure => simp [intOf]; omega
      · have HK := hid hk4
        have HHI := hid (show Hit bs (k + 1) ↔ (32512 ≤ v2 0 (bs.take (k + 1)) ∧ v2 0 (bs.take (k + 1)) ≤ 32693) from by
          unfold Hit
          rw [show hqF (k + 1) = 32512 from by rw [hk4]; rfl, show ((hqC (k + 1)).length : Int) = 182 from by rw [hk4]; decide]
          constructor <;> intro h <;> omega)
        have HFH := hid (fun (h : Hit bs (k + 1)) => fdR_hit HN.out rfl (by rw [hk4]; decide) HLE.out h)
        rw [show hqF (k + 1) = 32512 from by rw [hk4]; rfl, show hqC (k + 1) = hq15 from by rw [hk4]; rfl] at HFH
        have e5 : ((k : Int) + 1 == 5) = false := beq_eq_false_iff_ne.2 (by omega)
        have e6 : ((k : Int) + 1 == 6) = false := beq_eq_false_iff_ne.2 (by omega)
        have e7 : ((k : Int) + 1 == 7) = false := beq_eq_false_iff_ne.2 (by omega)
        have e8 : ((k : Int) + 1 == 8) = false := beq_eq_false_iff_ne.2 (by omega)
        have e15 : ((k : Int) + 1 == 15) = true := by rw [hk4]; rfl
        clear hk4
        generalize v2 0 (bs.take k) = v at *
        generalize bs.getD k 0 = bt at *
        obtain ⟨u, hu⟩ : ∃ u, v2 0 (bs.take (k + 1)) = u := ⟨_, rfl⟩
        rw [hu] at hsum hv1 HHI HFH
        have HU := hid hu
        clear hu
        generalize hpkk : p + k = pk at *
        have HPK := hid hpkk
        clear hpkk
        by_cases h1 : 32512 ≤ u
        · by_cases h2 : u ≤ 32693
          · have HF := hid (HR.out.symm.trans (HFH.out (HHI.out.2 ⟨h1, h2⟩)))
            obtain ⟨i, hi⟩ := Int.eq_ofNat_of_zero_le (show 0 ≤ u - 32512 by omega)
            have HNX := hid (show Calls Try.prog 50 #[.int .i64 ((k : Int) + 1), .int .i64 (i : Int)] wr (fun e w' => e = .returned (.int .u8 ((hq15).getD i 0)) ∧ wr = w') from by
              rw [show (k : Int) + 1 = ((15 : Nat) : Int) from by have := HK.out; omega]
              exact nth15_any i wr (by omega))
            rw [hi, Int.toNat_natCast] at HF
            have HE := hid HF.out
            generalize (hq15).getD i 0 = xv at HNX HE
            clear HF HFH HHI
            go_wp2_with (first | (go_at_call 45; refine HBK.out.mono ?_; rintro e w1 ⟨rfl, rfl⟩) | (go_at_call 50; refine HNX.out.mono ?_; rintro e w1 ⟨rfl, rfl⟩))
            go_ret2
            exact ⟨by have h := HE.out; simp only [Prod.mk.injEq] at h; rw [h.1, h.2]; rfl, rfl⟩
          · have h2' : decide (u ≤ 32693) = false := decide_eq_false h2
            have HNN := hid (HN.out.next (fun _ => (fun h => h2 (HHI.out.1 h).2)))
            clear h2 HFH HHI
            go_wp2_with (go_at_call 45; refine HBK.out.mono ?_; rintro e w1 ⟨rfl, rfl⟩)
            go_roundw
            case rel => exact ⟨trivial, k + 1, by omega, by omega, by go_num, by rw [← HU.out], HNN.out⟩
            case measure => simp [intOf]; omega
        · have h1' : decide (32512 ≤ u) = false := decide_eq_false h1
          have HNN := hid (HN.out.next (fun _ => (fun h => h1 (HHI.out.1 h).1)))
          clear h1 HFH HHI
          go_wp2_with (go_at_call 45; refine HBK.out.mono ?_; rintro e w1 ⟨rfl, rfl⟩)
          go_roundw
          case rel => exact ⟨trivial, k + 1, by omega, by omega, by go_num, by rw [← HU.out], HNN.out⟩
          case measure => simp [intOf]; omega
    · have HNN := hid (HN.out.next (fun h => absurd h hcl))
      have hne : k + 1 ≠ 5 ∧ k + 1 ≠ 6 ∧ k + 1 ≠ 7 ∧ k + 1 ≠ 8 ∧ k + 1 ≠ 15 := by refine ⟨?_, ?_, ?_, ?_, ?_⟩ <;> (intro e; apply hcl; rw [e]; decide)
      have e5 : ((k : Int) + 1 == 5) = false := beq_eq_false_iff_ne.2 (by omega)
      have e6 : ((k : Int) + 1 == 6) = false := beq_eq_false_iff_ne.2 (by omega)
      have e7 : ((k : Int) + 1 == 7) = false := beq_eq_false_iff_ne.2 (by omega)
      have e8 : ((k : Int) + 1 == 8) = false := beq_eq_false_iff_ne.2 (by omega)
      have e15 : ((k : Int) + 1 == 15) = false := beq_eq_false_iff_ne.2 (by omega)
      clear hcl hne
      generalize v2 0 (bs.take k) = v at *
      generalize bs.getD k 0 = bt at *
      obtain ⟨u, hu⟩ : ∃ u, v2 0 (bs.take (k + 1)) = u := ⟨_, rfl⟩
      rw [hu] at hsum hv1
      have HU := hid hu
      clear hu
      generalize hpkk : p + k = pk at *
      have HPK := hid hpkk
      clear hpkk
      by_cases h1 : 1 ≤ u
      · have h2 : decide (u ≤ 0) = false := decide_eq_false (by omega)
        go_wp2_with (go_at_call 45; refine HBK.out.mono ?_; rintro e w1 ⟨rfl, rfl⟩)
        go_roundw
        case rel => exact ⟨trivial, k + 1, by omega, by omega, by go_num, by rw [← HU.out], HNN.out⟩
        case measure => simp [intOf]; omega
      · have h1' : decide (1 ≤ u) = false := decide_eq_false h1
        clear h1
        go_wp2_with (go_at_call 45; refine HBK.out.mono ?_; rintro e w1 ⟨rfl, rfl⟩)
        go_roundw
        case rel => exact ⟨trivial, k + 1, by omega, by omega, by go_num, by rw [← HU.out], HNN.out⟩
        case measure => simp [intOf]; omega
end Go.Proofs.Ytchkiohmjgmmbaa
