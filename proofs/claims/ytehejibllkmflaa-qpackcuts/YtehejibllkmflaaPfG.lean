/-
  What prefix's PutText and the document's own answer. Contracts that the statements' walks use.
-/
import Derived.Test.YtehejibllkmflaaPfD
import Derived.Test.YtehejibllkmflaaPfT
import Derived.Test.YtehejibllkmflaaEnc
import Derived.Laws.IdiomStrings
namespace Go.Proofs.Ytehejibllkmflaa
open Go.RowKit
set_option linter.unusedVariables false
set_option maxRecDepth 100000

/-- A string's bytes. -/
def sb (s : ByteArray) : List Int := s.data.toList.map fun b => (b.toNat : Int)
theorem sb_len (s : ByteArray) : (sb s).length = s.size := by unfold sb; rw [List.length_map]; rfl
theorem sb_lt (s : ByteArray) : ∀ y ∈ sb s, 0 ≤ y ∧ y < 256 := by
  intro y hy
  obtain ⟨b, _, rfl⟩ := List.mem_map.1 hy
  have := b.toNat_lt
  omega
theorem conv_any (s : ByteArray) (w : World) : ∃ (c : Nat) (w' : World), (convert 9 30 (.string s)).run Try.prog w = .ok (.slice (some ⟨w.heap.size, 0, none⟩) s.size c) w' ∧ Q w w' ∧ In w' ⟨some ⟨w.heap.size, 0, none⟩, s.size, c⟩ (sb s) := by
  have h := run_bytes_of_string (P := Try.prog) w 9 30 5 s Try.underlying9 Try.underlying30 Try.underlying5
  refine ⟨_, _, h, ((Q.refl w).drew).alloc _, ?_, sb_len s, sb_lt s⟩
  intro _
  refine ⟨_, 0, rfl, fun i hi => ?_⟩
  rw [sb_len] at hi
  have hi' : i < s.data.size := hi
  rw [Nat.zero_add]
  have hc := World.cell?_alloc_mark w.drew (bytesRow s (grownCap w s.size 0 5)) 5 ((bytesRow s (grownCap w s.size 0 5)).size, (bytesRow s (grownCap w s.size 0 5)).size + 1) i
  rw [show w.drew.heap.size = w.heap.size from rfl] at hc
  rw [hc, bytesRow_at s _ i hi']
  rw [List.getD_eq_getElem?_getD, sb, List.getElem?_map, Array.getElem?_toList, Array.getElem?_eq_getElem hi']; rfl

theorem isT_any (b : Int) (w : World) : Calls Try.prog 71 #[.int .i64 b] w fun e w' => e = .returned (.bool (decide (1 ≤ b ∧ b ≤ 7))) ∧ w = w' := by
  have HP := hid (isP_any b)
  by_cases h1 : 1 ≤ b ∧ b ≤ 8
  · rw [decide_eq_true h1] at HP
    by_cases h2 : b < 8
    · have e : decide (1 ≤ b ∧ b ≤ 7) = true := decide_eq_true (by omega)
      rw [e]
      clear h1
      go_enter Try.func71, Try.ntmps71
      go_wp2_with (go_at_call 61; refine (HP.out _).mono ?_; rintro e w1 ⟨rfl, rfl⟩)
      go_ret
      exact ⟨rfl, rfl⟩
    · have e : decide (1 ≤ b ∧ b ≤ 7) = false := decide_eq_false (by omega)
      rw [e]
      have h2b : decide (b < 8) = false := decide_eq_false h2
      clear h1
      go_enter Try.func71, Try.ntmps71
      go_wp2_with (go_at_call 61; refine (HP.out _).mono ?_; rintro e w1 ⟨rfl, rfl⟩)
      go_ret
      exact ⟨rfl, rfl⟩
  · rw [decide_eq_false h1] at HP
    have e : decide (1 ≤ b ∧ b ≤ 7) = false := decide_eq_false (by omega)
    rw [e]
    clear h1
    go_enter Try.func71, Try.ntmps71
    go_wp2_with (go_at_call 61; refine (HP.out _).mono ?_; rintro e w1 ⟨rfl, rfl⟩)
    go_ret
    exact ⟨rfl, rfl⟩
theorem two_7 (k : Nat) (h : k ≤ 7) : (2 : Int) ^ k ≤ 128 := by
  have h1 := Nat.pow_le_pow_right (n := 2) (by decide) h
  have e : ((2 ^ k : Nat) : Int) = (2 : Int) ^ k := by simp
  omega
theorem flag_any (k : Nat) (w : World) (hk : k ≤ 7) : Calls Try.prog 72 #[.int .i64 k] w fun e w' => e = .returned (.int .u8 ((2 : Int) ^ k)) ∧ w = w' := by
  have hp := two_7 k hk
  have hp1 := (two_k k (by omega)).2
  have hw1 : IntKind.u8.wrap (1 * 2 ^ (min (k : Int).toNat 8)) = (2 : Int) ^ k := by
    rw [show min (k : Int).toNat 8 = k by omega]
    simp only [IntKind.wrap, IntKind.bits, IntKind.signed]; simp; omega
  go_enter Try.func72, Try.ntmps72
  go_wp2_with fail
  go_ret
  exact ⟨rfl, rfl⟩
theorem flag_tab : ∀ k : Fin 8, ∀ f : Fin 256, 0 ≤ bits .andNot .u8 (f.val : Int) ((2 : Int) ^ k.val) ∧ bits .andNot .u8 (f.val : Int) ((2 : Int) ^ k.val) < 256
    ∧ bits .andNot .u8 (f.val : Int) ((2 : Int) ^ k.val) / 2 ^ k.val * 2 ^ k.val = (f.val : Int) / (2 * 2 ^ k.val) * (2 * 2 ^ k.val)
    ∧ 0 ≤ bits .or .u8 (bits .andNot .u8 (f.val : Int) ((2 : Int) ^ k.val)) (2 ^ k.val) ∧ bits .or .u8 (bits .andNot .u8 (f.val : Int) ((2 : Int) ^ k.val)) (2 ^ k.val) < 256
    ∧ bits .or .u8 (bits .andNot .u8 (f.val : Int) ((2 : Int) ^ k.val)) (2 ^ k.val) / 2 ^ k.val * 2 ^ k.val = (f.val : Int) / (2 * 2 ^ k.val) * (2 * 2 ^ k.val) + 2 ^ k.val := by decide +kernel
/-- The first byte with the flag down, and up. -/
theorem flag_bits {k : Nat} {f : Int} (hk : k ≤ 7) (h0 : 0 ≤ f) (h1 : f < 256) : ∃ g h : Int, bits .andNot .u8 f (2 ^ k) = g ∧ bits .or .u8 g (2 ^ k) = h ∧ 0 ≤ g ∧ g < 256 ∧ 0 ≤ h ∧ h < 256 ∧ g / 2 ^ k * 2 ^ k = f / (2 * 2 ^ k) * (2 * 2 ^ k) ∧ h / 2 ^ k * 2 ^ k = f / (2 * 2 ^ k) * (2 * 2 ^ k) + 2 ^ k := by
  obtain ⟨x, rfl⟩ := Int.eq_ofNat_of_zero_le h0
  obtain ⟨a, b, c, d, e, g⟩ := flag_tab ⟨k, by omega⟩ ⟨x, by omega⟩
  exact ⟨_, _, rfl, rfl, a, b, d, e, c, g⟩
def ptE (s : List Int) (b : Int) : Int := if ¬ (1 ≤ b ∧ b ≤ 7) then 150 else if 16384 < s.length then 52 else 0
def ptB (s : List Int) (b f : Int) : List Int := if ptE s b = 0 then ptT s (2 ^ b.toNat) (f / (2 * 2 ^ b.toNat) * (2 * 2 ^ b.toNat)) else []
theorem nil_row (w : World) : Row w ⟨none, 0, 0⟩ [] := ⟨by simp, .inl ⟨rfl, rfl, rfl⟩⟩
theorem hM_le (s : List Int) : hM (hN s) ≤ 2 * s.length := by
  have := (hN_bd s).2
  unfold hM
  omega
theorem pu_ok {m k : Nat} (hk1 : 1 ≤ k) (hk : k ≤ 8) (hm : m ≤ 1000000) (f : Int) : puE m k = 0 ∧ puB m k f = pfP m (2 ^ k) (f / 2 ^ k * 2 ^ k) := by
  have he : puE m k = 0 := by unfold puE mxN; rw [if_neg (by omega), if_neg (by omega)]
  exact ⟨he, by unfold puB; rw [he, if_pos rfl, Int.toNat_natCast]⟩

set_option maxHeartbeats 4000000 in
theorem putText_any (s : ByteArray) (b f : Int) (w : World) (h0 : 0 ≤ f) (h1 : f < 256) (hms : s.size ≤ 9223372036854775807) :
    Calls Try.prog 82 #[.string s, .int .i64 b, .int .u8 f] w fun e w' => ∃ y : Sv, e = .returned (.tuple #[.slice y.a y.n y.c, .int .i64 (ptE (sb s) b)]) ∧ Q w w' ∧ Row w' y (ptB (sb s) b f) ∧ New w.heap.size y := by
  have HP := hid (isT_any b)
  by_cases hb : 1 ≤ b ∧ b ≤ 7
  · obtain ⟨k, rfl⟩ := Int.eq_ofNat_of_zero_le (show 0 ≤ b by omega)
    have hk7 : k ≤ 7 := by omega
    have hk1 : 1 ≤ k := by omega
    rw [decide_eq_true hb] at HP
    by_cases hh : 16384 < s.size
    · have he : ptE (sb s) k = 52 := by unfold ptE; rw [if_neg (by simpa using hb), if_pos (by rw [sb_len]; exact hh)]
      have hbB : ptB (sb s) k f = [] := by unfold ptB; rw [he, if_neg (by decide)]
      rw [he, hbB]
      have hhi : (16384 : Int) < (s.size : Nat) := by omega
      clear he hbB hb
      go_enter Try.func82, Try.ntmps82
      go_wp2_with (go_at_call 71; refine (HP.out _).mono ?_; rintro e w1 ⟨rfl, rfl⟩)
      go_ret2
      exact ⟨⟨none, 0, 0⟩, rfl, Q.refl _, nil_row _, fun b e => by cases e⟩
    · have he : ptE (sb s) k = 0 := by unfold ptE; rw [if_neg (by simpa using hb), if_neg (by rw [sb_len]; exact hh)]
      have hbB : ptB (sb s) k f = ptT (sb s) (2 ^ k) (f / (2 * 2 ^ k) * (2 * 2 ^ k)) := by unfold ptB; rw [he, if_pos rfl, Int.toNat_natCast]
      rw [he, hbB]
      have hhi : ¬ (16384 : Int) < (s.size : Nat) := by omega
      have HSL := hid (sb_len s)
      have hz := two_k k (by omega)
      have hz2 := two_k2 k hk1
      have hz7 := two_7 k hk7
      obtain ⟨g, h, hg, hh2, hg0, hg1, hh0, hh1, hgz, hhz⟩ := flag_bits hk7 h0 h1
      have HF := hid (fun W => flag_any k W hk7)
      obtain ⟨cc, w1, hcv, q1, i1⟩ := conv_any s w
      have HI1 := hid i1
      have HQ1 := hid q1
      have HSZ := hid (fun W (q : Q w1 W) => size_any (some ⟨w.heap.size, 0, none⟩) s.size cc (sb s) W i1.l (by omega) i1.z (i1.s.q q))
      have HEN := hid (fun W (q : Q w1 W) => encode_any (some ⟨w.heap.size, 0, none⟩) s.size cc (sb s) W i1.l (by omega) i1.z (i1.s.q q))
      have HML := hid (hM_le (sb s))
      have HEL := hid (hE_len (sb s))
      clear he hbB hb i1 q1
      by_cases hc : hM (hN (sb s)) < s.size
      · have hci : ((hM (hN (sb s)) : Nat) : Int) < ((s.size : Nat) : Int) := by omega
        have HT := hid (show ptT (sb s) (2 ^ k) (f / (2 * 2 ^ k) * (2 * 2 ^ k)) = pfP (hM (hN (sb s)) : Nat) (2 ^ k) (f / (2 * 2 ^ k) * (2 * 2 ^ k) + 2 ^ k) ++ hE (sb s) from by unfold ptT; rw [if_pos (by rw [HSL.out]; exact hc)])
        have hpu := pu_ok (m := hM (hN (sb s))) hk1 (show k ≤ 8 by omega) (by omega) h
        have HPU := hid (fun W => put_any (hM (hN (sb s)) : Nat) k h W (by omega) (by omega))
        rw [hpu.1, hpu.2, hhz] at HPU
        rw [HT.out]
        have HPL := hid (pfP_len (hM (hN (sb s)) : Nat) (2 ^ k) (f / (2 * 2 ^ k) * (2 * 2 ^ k) + 2 ^ k))
        generalize pfP (hM (hN (sb s)) : Nat) (2 ^ k) (f / (2 * 2 ^ k) * (2 * 2 ^ k) + 2 ^ k) = P at *
        clear HT hpu hc
        go_enter Try.func82, Try.ntmps82
        go_wp2_with (first
          | (go_at_call 71; refine (HP.out _).mono ?_; rintro e w1 ⟨rfl, rfl⟩)
          | (go_at_call 72; refine (HF.out _).mono ?_; rintro e w2 ⟨rfl, rfl⟩)
          | (go_at_call 92; refine (HSZ.out _ (Q.refl _)).mono ?_; rintro e w2 ⟨rfl, q2⟩; have Q2 := hid q2; clear q2)
          | (go_at_call 93; refine (HEN.out _ Q2.out).mono ?_; rintro e w3 ⟨g3, m, ec, rfl, q3, r3, hg3⟩; have Q3 := hid (Q2.out.trans q3); have R3 := hid (Row.seg r3); obtain rfl : m = hM (hN (sb s)) := ((Row.len r3).symm.trans HEL.out); clear q3 r3 hg3)
          | (go_at_call 42; refine (HPU.out _).mono ?_; rintro e w4 ⟨⟨ya, yn, yc⟩, rfl, q4, r4, n4⟩; have L4 := hid (show P.length = yn from Row.len r4); have S4 := hid (src_seg (c := ec) (Seg.q R3.out q4) HEL.out); obtain ⟨⟨za, zn, zc⟩, w5, hrun, hrow, hkp, hbb⟩ := row_append (ty := 30) r4 S4.out (by have := L4.out; have := HPL.out; have := HML.out; have := HSL.out; show yn + (hM (hN (sb s))) ≤ 10000000; omega); have X5 := hid (new_step rfl (HQ1.out.trans (Q3.out.trans q4)) (n4.mono (by have := HQ1.out.size; have := Q3.out.size; omega)) hkp hbb); have R5 := hid hrow; clear q4 r4 n4 hkp hbb hrow)
          | (at_builtin; refine Lib.wpList_append_run _ rfl _ _ _ _ rfl _ _ rfl rfl _ _ hrun ?_))
        go_ret2
        exact ⟨⟨za, zn, zc⟩, rfl, X5.out.1, R5.out, X5.out.2⟩
      · have hci : ¬ ((hM (hN (sb s)) : Nat) : Int) < ((s.size : Nat) : Int) := by omega
        have hcb : decide (((hM (hN (sb s)) : Nat) : Int) < ((s.size : Nat) : Int)) = false := decide_eq_false hci
        have HT := hid (show ptT (sb s) (2 ^ k) (f / (2 * 2 ^ k) * (2 * 2 ^ k)) = pfP (s.size : Nat) (2 ^ k) (f / (2 * 2 ^ k) * (2 * 2 ^ k)) ++ sb s from by unfold ptT; rw [if_neg (by rw [HSL.out]; exact hc), HSL.out])
        have hpu := pu_ok (m := s.size) hk1 (show k ≤ 8 by omega) (by omega) g
        have HPU := hid (fun W => put_any (s.size : Nat) k g W (by omega) (by omega))
        rw [hpu.1, hpu.2, hgz] at HPU
        rw [HT.out]
        have HPL := hid (pfP_len (s.size : Nat) (2 ^ k) (f / (2 * 2 ^ k) * (2 * 2 ^ k)))
        generalize pfP (s.size : Nat) (2 ^ k) (f / (2 * 2 ^ k) * (2 * 2 ^ k)) = P at *
        clear HT hpu hc
        go_enter Try.func82, Try.ntmps82
        go_wp2_with (first
          | (go_at_call 71; refine (HP.out _).mono ?_; rintro e w1 ⟨rfl, rfl⟩)
          | (go_at_call 72; refine (HF.out _).mono ?_; rintro e w2 ⟨rfl, rfl⟩)
          | (go_at_call 92; refine (HSZ.out _ (Q.refl _)).mono ?_; rintro e w2 ⟨rfl, q2⟩; have Q2 := hid q2; clear q2)
          | (go_at_call 42; refine (HPU.out _).mono ?_; rintro e w4 ⟨⟨ya, yn, yc⟩, rfl, q4, r4, n4⟩; have L4 := hid (show P.length = yn from Row.len r4); have S4 := hid (src_seg (c := cc) (Seg.q (HI1.out.s.q Q2.out) q4) HSL.out); obtain ⟨⟨za, zn, zc⟩, w5, hrun, hrow, hkp, hbb⟩ := row_append (ty := 30) r4 S4.out (by have := L4.out; have := HPL.out; have := HML.out; have := HSL.out; show yn + s.size ≤ 10000000; omega); have X5 := hid (new_step rfl (HQ1.out.trans (Q2.out.trans q4)) (n4.mono (by have := HQ1.out.size; have := Q2.out.size; omega)) hkp hbb); have R5 := hid hrow; clear q4 r4 n4 hkp hbb hrow)
          | (at_builtin; refine Lib.wpList_append_run _ rfl _ _ _ _ rfl _ _ rfl rfl _ _ hrun ?_))
        go_ret2
        exact ⟨⟨za, zn, zc⟩, rfl, X5.out.1, R5.out, X5.out.2⟩
  · have he : ptE (sb s) b = 150 := by unfold ptE; rw [if_pos hb]
    have hbB : ptB (sb s) b f = [] := by unfold ptB; rw [he, if_neg (by decide)]
    rw [he, hbB]
    rw [decide_eq_false hb] at HP
    clear hb he hbB
    go_enter Try.func82, Try.ntmps82
    go_wp2_with (go_at_call 71; refine (HP.out _).mono ?_; rintro e w1 ⟨rfl, rfl⟩)
    go_ret2
    exact ⟨⟨none, 0, 0⟩, rfl, Q.refl _, nil_row _, fun b e => by cases e⟩

end Go.Proofs.Ytehejibllkmflaa
