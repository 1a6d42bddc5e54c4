/-
  The document's find, authority: contracts that the statements' walks use.
-/
import Derived.Test.YtclapheglgiokaaDoorDoD
import Derived.Test.YtclapheglgiokaaDoorDoC
namespace Go.Proofs.YtclapheglgiokaaDoor
open Go.RowKit
set_option linter.unusedVariables false
set_option maxRecDepth 20000

set_option maxHeartbeats 4000000 in
theorem find_any (x : Sv) (n : ByteArray) (l : List Fd) (w : World) (hx : SegF w x.a l) (hl : l.length = x.n) (hb : l.length ≤ 8796093022208) : Calls Tryd.prog 40 #[.slice x.a x.n x.c, .string n] w fun e w' => e = .returned (vaA (fnd l n)) ∧ Q w w' := by
  obtain ⟨xa, xn, xc⟩ := x
  dsimp only at *
  subst hl
  have HX := hid hx
  have HB := hid hb
  clear hx hb
  go_enter Tryd.func40, Tryd.ntmps40
  go_wp2
  go_loopw [6] (fun i wr => ∃ k : Nat, k ≤ l.length ∧ i = .int .i64 (k : Int) ∧ fnd (l.take k) n = none ∧ Q w wr) (fun i _ => l.length - (intOf i).toNat)
  case atStart => exact ⟨0, by omega, rfl, rfl, Q.refl w⟩
  case round =>
    obtain ⟨k, hk, rfl, h0, hq⟩ := hrel
    have HQ := hid hq
    by_cases hlt : k < l.length
    · obtain ⟨g, off, ⟨p1, p2⟩, ha, hp, c0, c1⟩ := (HX.out.q hq).at hlt
      subst ha
      have hF := fnd_at hp h0
      have HF := hid hF
      dsimp only at HF c0 c1
      have hqs := beq_eqS p1 n
      have HA := hid hq
      have hki : (k : Int) < (l.length : Int) := by omega
      have hk0 : (0 : Int) ≤ (k : Int) := by omega
      have hkb : (k : Int) < 8796093022208 := by have := HB.out; omega
      clear hq h0 hF hp
      cases he : eqS p1 n with
      | true =>
        rw [he] at hqs HF
        have HFF := hid (HF.out.1 rfl)
        clear HF he
        go_wp2
        go_ret2
        exact ⟨by rw [HFF.out]; rfl, HA.out⟩
      | false =>
        rw [he] at hqs HF
        have HFF := hid (HF.out.2 rfl)
        clear HF he
        go_wp2
        go_roundw
        case rel => exact ⟨k + 1, by omega, by go_num, HFF.out, HA.out⟩
        case measure => simp [intOf]; omega
    · have hki : ¬ (k : Int) < (l.length : Int) := by omega
      have HF := hid (fnd_end (by omega) h0)
      clear hq h0
      go_wp2
      go_ret2
      exact ⟨by rw [HF.out]; rfl, HQ.out⟩

def m8 : ByteArray := ⟨#[45, 46, 95, 126, 58, 91, 93, 37]⟩
theorem aut_8 (c : Nat) : autB c = (alB c || hasR m8 c) := by
  have h : autM.contains c = hasR m8 c := by
    rw [Bool.eq_iff_iff]
    simp [autM, hasR, m8]
    omega
  unfold autB
  rw [h]
set_option maxHeartbeats 4000000 in
theorem rauth_any (s : ByteArray) (w : World) (hs : s.size ≤ 140737488355328) : Calls Tryd.prog 43 #[.string s] w fun e w' => e = .returned (.bool (auS s)) ∧ w' = w := by
  have HS := hid hs
  have HZ := hid (neS_size s)
  clear hs
  go_enter Tryd.func43, Tryd.ntmps43
  go_wp2
  go_loop [3] (fun i => ∃ k : Nat, k ≤ s.size ∧ i = .int .i64 (k : Int) ∧ okTo autB s k) (fun i => s.size - (intOf i).toNat)
  case atStart => exact ⟨0, by omega, rfl, okTo_zero _ _⟩
  case round =>
    obtain ⟨k, hk, rfl, hok⟩ := hrel
    by_cases hlt : k < s.size
    · have hix := fun W => str_ix s k hlt W
      have hki : (k : Int) < (s.size : Int) := by omega
      have hk0 : (0 : Int) ≤ (k : Int) := by omega
      have hkb : (k : Int) < 140737488355328 := by have := HS.out; omega
      have hcb : (s[k]'hlt).toNat < 256 := UInt8.toNat_lt _
      have HN := hid (fun h => allB_no (p := autB) (s := s) hlt h)
      have HO := hid (fun h => okTo_succ (p := autB) (s := s) hok hlt h)
      clear hok
      generalize (s[k]'hlt).toNat = c at *
      have ht := aut_8 c
      have HA := hid (fun W => alnum_any c W)
      have HI := hid (fun W => in_any m8 c W (by decide))
      unfold m8 at HI ht
      generalize alB c = b1 at *
      generalize hasR _ c = b2 at *
      by_cases hb : (b1 || b2) = true
      · have HO2 := hid (HO.out (by rw [ht]; exact hb))
        clear HN HO ht
        cases b1 <;> cases b2
        all_goals (first | (exact absurd hb (by decide)) | skip)
        all_goals
          clear hb
          go_wp2_with (first | (go_at_call 62; refine (HA.out _).mono ?_; rintro e w1 ⟨rfl, rfl⟩) | (go_at_call 63; refine (HI.out _).mono ?_; rintro e w2 ⟨rfl, rfl⟩))
          go_round
          case rel => exact ⟨k + 1, by omega, by go_num, HO2.out⟩
          case measure => simp [intOf]; omega
      · have HN2 := hid (HN.out (by rw [ht]; simpa using hb))
        obtain ⟨rfl, rfl⟩ : b1 = false ∧ b2 = false := by cases b1 <;> cases b2 <;> simp at hb ⊢
        clear HN HO ht hb
        go_wp2_with (first | (go_at_call 62; refine (HA.out _).mono ?_; rintro e w1 ⟨rfl, rfl⟩) | (go_at_call 63; refine (HI.out _).mono ?_; rintro e w2 ⟨rfl, rfl⟩))
        go_ret
        exact ⟨by unfold auS; rw [HN2.out, Bool.and_false]; rfl, rfl⟩
    · have hki : ¬ (k : Int) < (s.size : Int) := by omega
      have HE := hid (okTo_end hok (by omega))
      clear hok
      have HF := hid (show auS s = decide (1 ≤ s.size) from by unfold auS; rw [HE.out, HZ.out, Bool.and_true])
      go_wp2
      go_ret
      exact ⟨by rw [HF.out]; rfl, rfl⟩
end Go.Proofs.YtclapheglgiokaaDoor
