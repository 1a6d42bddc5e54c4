/-
  What guard's nonce, check, masked, long, reserved, numberOf and expand do: contracts that the statements' walks use.
-/
import Derived.Test.YtihmlfpfpadfpaaLst
import Derived.Test.YtihmlfpfpadfpaaRExp
import Derived.Test.YtihmlfpfpadfpaaExp
import Derived.BigQuiet
import Derived.Deep.RegionHeld3
namespace Go.Proofs.Ytihmlfpfpadfpaa
open Go.RowKit
set_option linter.unusedVariables false
set_option maxRecDepth 20000

/-- The cells of keys. -/
abbrev kcells (k i h : Sv) : Array Value := #[.slice k.a k.n k.c, .slice i.a i.n i.c, .slice h.a h.n h.c]
def KB (w : World) (g : Nat) (t : Nat) (k i h : Sv) : Prop := w.heap[g]? = some (.cells (kcells k i h) t (0, 0))
section
variable {w w' : World} {g t : Nat} {k i h : Sv}
theorem KB.q (x : KB w g t k i h) (q : Q w w') : KB w' g t k i h := (Below.block q _ (lt_of_block x)).trans x
theorem KB.c0 (x : KB w g t k i h) : w.cell? ⟨g, 0, none⟩ = some (.slice k.a k.n k.c) := by rw [cell_of_row w g 0 _ t (0, 0) x]; rfl
theorem KB.c1 (x : KB w g t k i h) : w.cell? ⟨g, 1, none⟩ = some (.slice i.a i.n i.c) := by rw [cell_of_row w g 1 _ t (0, 0) x]; rfl
theorem KB.c2 (x : KB w g t k i h) : w.cell? ⟨g, 2, none⟩ = some (.slice h.a h.n h.c) := by rw [cell_of_row w g 2 _ t (0, 0) x]; rfl
end
theorem long_any (f : Int) (w : World) (h0 : 0 ≤ f) (h1 : f < 256) : Calls Try.prog 72 #[.int .u8 f] w fun e w' => e = .returned (.bool (decide (128 ≤ f))) ∧ w = w' := by
  have HA := hid (show (bits .and .u8 f 128 != 0) = decide (128 ≤ f) from by
    rw [u8_and f 128 h0 h1 (by omega) (by omega)]
    obtain ⟨n, rfl⟩ := Int.eq_ofNat_of_zero_le h0
    have hn : n < 256 := by omega
    rw [Int.toNat_natCast]
    have : ∀ n, n < 256 → (((n &&& (128 : Int).toNat : Nat) : Int) != 0) = decide (128 ≤ (n : Int)) := by decide +kernel
    exact this n hn)
  go_enter Try.func72, Try.ntmps72
  go_wp2
  go_ret
  exact ⟨by first | rfl | (show Ending.returned (.bool (bits .and .u8 f 128 != 0)) = _; rw [HA.out]), rfl⟩
theorem masked_any (f : Int) (w : World) (h0 : 0 ≤ f) (h1 : f < 256) : Calls Try.prog 42 #[.int .u8 f] w fun e w' => e = .returned (.int .u8 (rch f)) ∧ w = w' := by
  by_cases h : 128 ≤ f
  · have hd : decide (128 ≤ f) = true := by simp [h]
    rw [show rch f = 15 from by unfold rch; rw [if_pos h]]
    go_enter Try.func42, Try.ntmps42
    go_wp2_with (go_at_call 72; refine (long_any f _ h0 h1).mono ?_; rintro e w' ⟨rfl, rfl⟩)
    go_ret
    exact ⟨rfl, rfl⟩
  · have hd : decide (128 ≤ f) = false := by simp [h]
    rw [show rch f = 31 from by unfold rch; rw [if_neg h]]
    go_enter Try.func42, Try.ntmps42
    go_wp2_with (go_at_call 72; refine (long_any f _ h0 h1).mono ?_; rintro e w' ⟨rfl, rfl⟩)
    go_ret
    exact ⟨rfl, rfl⟩
/-- The reserved bits of a first byte. -/
def rsb (f : Int) : Int := if 128 ≤ f then 12 else 24
theorem reserved_any (f : Int) (w : World) (h0 : 0 ≤ f) (h1 : f < 256) : Calls Try.prog 78 #[.int .u8 f] w fun e w' => e = .returned (.int .u8 (rsb f)) ∧ w = w' := by
  by_cases h : 128 ≤ f
  · have hd : decide (128 ≤ f) = true := by simp [h]
    rw [show rsb f = 12 from by unfold rsb; rw [if_pos h]]
    go_enter Try.func78, Try.ntmps78
    go_wp2_with (go_at_call 72; refine (long_any f _ h0 h1).mono ?_; rintro e w' ⟨rfl, rfl⟩)
    go_ret
    exact ⟨rfl, rfl⟩
  · have hd : decide (128 ≤ f) = false := by simp [h]
    rw [show rsb f = 24 from by unfold rsb; rw [if_neg h]]
    go_enter Try.func78, Try.ntmps78
    go_wp2_with (go_at_call 72; refine (long_any f _ h0 h1).mono ?_; rintro e w' ⟨rfl, rfl⟩)
    go_ret
    exact ⟨rfl, rfl⟩
theorem rsb_rsv (f : Int) (h0 : 0 ≤ f) (h1 : f < 256) : (bits .and .u8 f (rsb f) != 0) = rsv f := by
  have hr : 0 ≤ rsb f ∧ rsb f < 256 := by unfold rsb; split <;> omega
  rw [u8_and f (rsb f) h0 h1 hr.1 hr.2]
  obtain ⟨n, rfl⟩ := Int.eq_ofNat_of_zero_le h0
  have hn : n < 256 := by omega
  have : ∀ n : Nat, n < 256 → ((((n : Int).toNat &&& (rsb (n : Int)).toNat : Nat) : Int) != 0) = rsv (n : Int) := by decide +kernel
  exact this n hn
theorem rreach_any (f : Int) (w : World) (h0 : 0 ≤ f) (h1 : f < 256) : Calls Try.prog 48 #[.int .u8 f] w fun e w' => e = .returned (.int .u8 (rch f)) ∧ w = w' := by
  by_cases h : 128 ≤ f
  · rw [show rch f = 15 from by unfold rch; rw [if_pos h]]
    go_enter Try.func48, Try.ntmps48
    go_wp2
    go_ret
    exact ⟨rfl, rfl⟩
  · rw [show rch f = 31 from by unfold rch; rw [if_neg h]]
    go_enter Try.func48, Try.ntmps48
    go_wp2
    go_ret
    exact ⟨rfl, rfl⟩
theorem blk_ne {g g3 o : Nat} (h : g ≠ g3) : ∀ b, blk (some ⟨g3, o, none⟩) = some b → b ≠ g := by intro b e; simp [blk] at e; omega
theorem last_8 (num : Int) (w : World) (h0 : -9223372036854775808 ≤ num) (h1 : num ≤ 9223372036854775807) :
    Calls Try.prog 38 #[.int .i64 num, .int .i64 8] w fun e w' => ∃ g, e = .returned (.slice (some ⟨g, 0, none⟩) 8 8) ∧ Q w w' ∧ Row w' ⟨some ⟨g, 0, none⟩, 8, 8⟩ (be 8 num) ∧ w.heap.size ≤ g := last_any num 8 w (by omega) h0 h1
set_option maxHeartbeats 4000000 in
theorem nonce_any (k i h : Sv) (iv : List Int) (num : Int) (w : World) (hi : In w i iv) (li : i.n = 12) (h0 : -9223372036854775808 ≤ num) (h1 : num ≤ 9223372036854775807) :
    Calls Try.prog 40 #[.agg (kcells k i h), .int .i64 num] w fun e w' => ∃ y : Sv, e = .returned (.slice y.a y.n y.c) ∧ Q w w' ∧ Row w' y (nonL iv num) ∧ New w.heap.size y := by
  obtain ⟨ia, n, ic⟩ := i
  dsimp only at li
  subst li
  have HI := hid hi
  clear hi
  go_enter Try.func40, Try.ntmps40
  go_wp2_with fail
  generalize hw1 : World.alloc w _ = w1
  have Q1 := hid (show Q w w1 from by rw [← hw1]; exact (Q.refl w).alloc _)
  clear hw1
  refine (clone_any ⟨ia, 12, ic⟩ iv w1 (HI.out.q Q1.out) (by show 12 ≤ _; omega)).mono ?_
  rintro e w2 ⟨⟨ya, yn, yc⟩, rfl, q2, r2, n2⟩
  obtain rfl : yn = 12 := by have h1 := Row.len r2; have h2 : iv.length = 12 := HI.out.l; dsimp only at h1; omega
  obtain ⟨g, off, he⟩ := row_addr r2 (by show 0 < 12; omega)
  dsimp only at he
  subst he
  have hcap : 12 ≤ yc := Row.cap r2
  have Q2 := hid q2
  have R2 := hid r2
  have N2 := hid n2
  clear q2 r2 n2
  go_wp2
  have HL := hid (fun u => last_8 num u h0 h1)
  go_region_with (first
    | (go_at_call 38; refine (HL.out _).mono ?_; rintro e w3 ⟨g3, rfl, q3, r3, l3⟩; have m3 : g < g3 := Nat.lt_of_lt_of_le (R2.out.lt g rfl) l3; have j3 : Q w2 w3 := Q.trans (by repeat (first | (with_reducible assumption) | (with_reducible exact Q.refl _) | (with_reducible apply Q.drew) | (with_reducible apply Q.drewN) | (with_reducible apply Q.alloc))) q3; have R3 := hid r3; clear r3 q3 l3)
    | (go_at_call 43; refine (over_any ⟨some ⟨g, off, none⟩, 12, yc⟩ ⟨some ⟨g3, 0, none⟩, 8, 8⟩ g off 4 8 _ iv (be 8 num) _ rfl (R2.out.q (by repeat (first | (with_reducible assumption) | (with_reducible exact Q.refl _) | (with_reducible apply Q.drew) | (with_reducible apply Q.drewN) | (with_reducible apply Q.alloc)))) (by show 4 + 8 ≤ 12; omega) (R3.out.seg.q (by repeat (first | (with_reducible assumption) | (with_reducible exact Q.refl _) | (with_reducible apply Q.drew) | (with_reducible apply Q.drewN) | (with_reducible apply Q.alloc)))) (be_length _ _) (Nat.le_refl _) (blk_ne (by omega)) (by omega)).mono ?_; rintro e w4 ⟨rfl, k4, r4⟩))
  have hg : w.heap.size ≤ g := Nat.le_trans Q1.out.size (N2.out g rfl)
  have Q4 := hid (show Q w w4 from k4.below ((Q1.out.trans Q2.out).trans j3) ((Q1.out.trans Q2.out).trans j3).size (fun i e => by omega))
  have R4 := hid r4
  have HG := hid hg
  clear r4 k4 hg
  go_wp2
  go_ret
  exact ⟨⟨some ⟨g, off, none⟩, 12, yc⟩, rfl, Q4.out, R4.out, fun b e => by have := HG.out; simp [blk] at e; omega⟩
set_option maxHeartbeats 4000000 in
theorem kcheck_any (k i h : Sv) (w : World) : Calls Try.prog 49 #[.agg (kcells k i h)] w fun e w' => e = .returned (.int .i64 (kyE k.n i.n h.n)) ∧ Q w w' := by
  obtain ⟨ka, kn, kc⟩ := k
  obtain ⟨ia, n, ic⟩ := i
  obtain ⟨ha, hn, hc⟩ := h
  dsimp only
  by_cases h1 : kn = 16
  · by_cases h2 : n = 12
    · by_cases h3 : hn = 16
      · rw [show kyE kn n hn = 0 from by unfold kyE; rw [if_pos ⟨h1, h2, h3⟩]]
        subst h1 h2 h3
        go_enter Try.func49, Try.ntmps49
        go_wp2
        go_ret
        exact ⟨rfl, (Q.refl w).alloc _⟩
      · rw [show kyE kn n hn = 70 from by unfold kyE; rw [if_neg (by omega)]]
        subst h1 h2
        have h3' : ((hn : Int) != 16) = true := by simp; omega
        go_enter Try.func49, Try.ntmps49
        go_wp2
        go_ret
        exact ⟨rfl, (Q.refl w).alloc _⟩
    · rw [show kyE kn n hn = 70 from by unfold kyE; rw [if_neg (by omega)]]
      subst h1
      have h3' : ((n : Int) != 12) = true := by simp; omega
      go_enter Try.func49, Try.ntmps49
      go_wp2
      go_ret
      exact ⟨rfl, (Q.refl w).alloc _⟩
  · rw [show kyE kn n hn = 70 from by unfold kyE; rw [if_neg (by omega)]]
    have h3' : ((kn : Int) != 16) = true := by simp; omega
    go_enter Try.func49, Try.ntmps49
    go_wp2
    go_ret
    exact ⟨rfl, (Q.refl w).alloc _⟩
set_option maxHeartbeats 4000000 in
theorem expand_ok (k : Sv) (ks : List Int) (s : ByteArray) (n : Nat) (w : World) (hk : In w k ks) (bk : k.n ≤ 255) (bs : s.size ≤ 255) (hn : n ≤ 1024) :
    Calls Try.prog 32 #[.slice k.a k.n k.c, .string s, .int .i64 n] w fun e w' => ∃ x : Sv, e = .returned (.slice x.a x.n x.c) ∧ Q w w' ∧ Row w' x (exL ks (sb s) n) := by
  have HE := hid (expand_any k ks s n w hk (by omega) (by omega))
  have HX := hid (show expR ks (sb s) n = exL ks (sb s) n from by
    unfold expR
    rw [if_pos]
    · rw [Int.toNat_natCast]
    · unfold expE; rw [if_neg (by rw [sb_len, hk.l]; omega), if_neg (by omega)])
  go_enter Try.func32, Try.ntmps32
  go_wp2_with (go_at_call 65; refine HE.out.mono ?_; rintro e w' ⟨⟨xa, xn, xc⟩, rfl, q1, r1⟩)
  have Q1 := hid q1
  have R1 := hid r1
  clear q1 r1
  go_wp2
  go_ret
  exact ⟨⟨xa, xn, xc⟩, rfl, Q1.out, by rw [← HX.out]; exact R1.out⟩
set_option maxHeartbeats 4000000 in
theorem next_any (k : Sv) (ks : List Int) (w : World) (hk : In w k ks) (bk : k.n ≤ 9223372036854775807) :
    Calls Try.prog 14 #[.slice k.a k.n k.c] w fun e w' => ∃ x : Sv, e = .returned (.tuple #[.slice x.a x.n x.c, .int .i64 (if k.n = 16 then 0 else 70)]) ∧ Q w w' ∧ Row w' x (if k.n = 16 then exL ks (sb ⟨#[107, 117]⟩) 16 else []) := by
  obtain ⟨ka, kn, kc⟩ := k
  have HK := hid hk
  clear hk
  dsimp only at *
  by_cases h : kn = 16
  · subst h
    rw [if_pos rfl, if_pos rfl]
    have HE := hid (expand_ok ⟨ka, 16, kc⟩ ks ⟨#[107, 117]⟩ 16 w HK.out (by show 16 ≤ _; omega) (by decide) (by omega))
    go_enter Try.func14, Try.ntmps14
    go_wp2_with (go_at_call 32; refine HE.out.mono ?_; rintro e w' ⟨⟨xa, xn, xc⟩, rfl, q1, r1⟩)
    have Q1 := hid q1
    have R1 := hid r1
    clear q1 r1
    go_wp2
    go_ret2
    exact ⟨⟨xa, xn, xc⟩, rfl, Q1.out, R1.out⟩
  · rw [if_neg h, if_neg h]
    have h3' : ((kn : Int) != 16) = true := by simp; omega
    go_enter Try.func14, Try.ntmps14
    go_wp2
    go_ret2
    exact ⟨nilS, rfl, Q.refl _, sub_nil _ _ _⟩
end Go.Proofs.Ytihmlfpfpadfpaa
