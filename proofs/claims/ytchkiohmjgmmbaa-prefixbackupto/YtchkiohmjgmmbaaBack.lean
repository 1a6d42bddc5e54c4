/-
  A number and a text are read back from where they stand behind a prefix, with whatever bytes ahead and behind; the bits above are the given ones. All of at most about a million bytes.
-/
import Derived.Test.YtchkiohmjgmmbaaRows
import Derived.Test.YtchkiohmjgmmbaaBkR
import Derived.Test.YtchkiohmjgmmbaaBkM
import Derived.Test.YtchkiohmjgmmbaaOpenI
import Derived.WalkKit
import Derived.ProofKit
import Derived.OpenShut
import Derived.ShutString
import Derived.ChangeOld
import Derived.Below
import Derived.SizedLaws
import Derived.BigQuiet
import Derived.Deep.RegionHeld3
namespace Go.Proofs.Ytchkiohmjgmmbaa.prefixBack
open Go.ChangeShapes Go.WideShapes Go.ChangeAt Go.RowKit
open Go.ChangeMaps (open_string shut_string)
set_option linter.unusedVariables false

set_option maxRecDepth 20000

/-- What is known of the bytes that were written. -/
structure BB (B : List Int) (m : Nat) (y0 : Int) : Prop where
  l : B.length ≤ m
  pos : 0 < B.length
  ne : B ≠ []
  first : B.getD 0 0 = y0
  z : 0 ≤ y0 ∧ y0 < 256
theorem Row.cap' {w : World} {x : Sv} {zs : List Int} (h : Row w x zs) : x.n ≤ x.c := by
  rcases h.2 with ⟨_, h1, h2⟩ | ⟨g, off, cur, _, _, h1, _⟩ <;> omega
theorem ptB_len (s : List Int) (b f : Int) : (ptB s b f).length ≤ 100000 := by
  unfold ptB
  split
  · next h =>
    have hl : s.length ≤ 16384 := by
      rcases Nat.lt_or_ge 16384 s.length with hh | hh
      · unfold ptE at h
        split at h
        · cases h
        · cases h
      · exact hh
    unfold ptT
    split
    · have h1 := (pfP_len (hM (hN s) : Nat) (2 ^ b.toNat) (f / (2 * 2 ^ b.toNat) * (2 * 2 ^ b.toNat) + 2 ^ b.toNat)).1
      have h2 := hE_len s
      rw [List.length_append]; omega
    · have h1 := (pfP_len (s.length : Nat) (2 ^ b.toNat) (f / (2 * 2 ^ b.toNat) * (2 * 2 ^ b.toNat))).1
      rw [List.length_append]; omega
  · simp
set_option maxHeartbeats 16000000 in
theorem walk (n : Int) (s : ByteArray) (b f : Int) (x y : Sv) (xs ys : List Int) (w : World) (h0 : 0 ≤ f) (h1 : f < 256) (hs : s.size ≤ 9223372036854775807) (hx : In w x xs) (hy : In w y ys) (hxn : x.n ≤ 1048576) (hyn : y.n ≤ 1048576) :
    Calls Try.prog 7 #[.agg #[.int .i64 n, .string s, .int .i64 b, .int .u8 f, .slice x.a x.n x.c, .slice y.a y.n y.c]] w fun r w' => r = .returned (.bool true) ∧ Below w.heap.size w w' := by
  have HAW := hid awake_any
  have HP := hid (fun W => put_any n b f W h0 h1)
  have HT := hid (fun W => putText_any s b f W h0 h1 hs)
  have HX := hid hx
  have HY := hid hy
  obtain ⟨xa, xn, xc⟩ := x
  obtain ⟨ya, yn, yc⟩ := y
  have HLB := hid (show ∀ W : World, IB (W.alloc (.cells #[.int .i64 n, .string s, .int .i64 b, .int .u8 f, .slice xa xn xc, .slice ya yn yc] 45)) W.heap.size n s b f ⟨xa, xn, xc⟩ ⟨ya, yn, yc⟩ from fun W => heap_alloc_new W _)
  clear hx hy
  replace hxn : xn ≤ 1048576 := hxn
  replace hyn : yn ≤ 1048576 := hyn
  have HXL := hid (show xs.length = xn from HX.out.l)
  have HYL := hid (show ys.length = yn from HY.out.l)
  by_cases he : puE n b = 0
  · have hkb : 1 ≤ b ∧ b ≤ 8 ∧ 0 ≤ n ∧ n ≤ mxN := by
      unfold puE at he
      split at he
      · cases he
      · split at he
        · cases he
        · omega
    obtain ⟨k, rfl⟩ := Int.eq_ofNat_of_zero_le (show 0 ≤ b by omega)
    have hk1 : 1 ≤ k := by omega
    have hk8 : k ≤ 8 := by omega
    have hb1 : ¬ (k : Int) < 1 := by omega
    have hb8 : (k : Int) ≤ 8 := by omega
    by_cases hf : ptE (sb s) k = 0
    · have hsl : k ≤ 7 ∧ s.size ≤ 16384 := by
        unfold ptE at hf
        rw [sb_len] at hf
        split at hf
        · cases hf
        · split at hf
          · cases hf
          · omega
      have hk7 := hsl.1
      replace hsl := hsl.2
      obtain ⟨y0, r0, hy0, hyz, hyl, hyd⟩ := pu_first (n := n) hk1 hk8 h0 h1 hkb.2.2.1
      have hbz := pu_bytes (n := n) hk1 hk8 h0 h1 hkb.2.2.1 hkb.2.2.2
      have hpl := pfP_len n (2 ^ k) (f / 2 ^ k * 2 ^ k)
      have HGB := hid (pg_back (f := f) xs ys hk1 hk8 hkb.2.2.1 hkb.2.2.2)
      have hpb : puB n k f = pfP n (2 ^ k) (f / 2 ^ k * 2 ^ k) := by unfold puB; rw [he, if_pos rfl, Int.toNat_natCast]
      rw [he, hpb] at HP
      generalize hBB : pfP n (2 ^ k) (f / 2 ^ k * 2 ^ k) = B at *
      have HB := hid (show BB B 10 y0 from ⟨hpl.1, hpl.2, by rw [hy0]; simp, by rw [hy0]; rfl, hyz, hyl⟩)
      have HG := hid (fun (W : World) (r : Sv) (q : Q w W) (rr : Row W r (xs ++ (B ++ ys))) => (get_any r.a r.n r.c (xs ++ (B ++ ys)) (xn : Nat) k W (Row.len rr) (by have := Row.len rr; rw [List.length_append, List.length_append] at this; have := HXL.out; have := HYL.out; have := HB.out.l; omega) (fun y hy => by
        rcases List.mem_append.1 hy with h | h
        · exact HX.out.z y h
        · rcases List.mem_append.1 h with h | h
          · exact hbz y h
          · exact HY.out.z y h) (Row.seg rr)).mono (fun e w' h => (⟨h.1, by rw [h.2]; exact Q.refl _⟩ : e = ans3 (pgA (xs ++ (B ++ ys)) (xn : Nat) k) ∧ Q W w')))
      rw [HXL.out] at HGB
      rw [HGB.out] at HG
      simp only [ans3] at HG
      have HYD := hid hyd
      clear hpb hBB hy0 hbz hpl HGB he hyz hyl hyd
      obtain ⟨t0, r1, ht0, htz, htl, htd⟩ := pt_first (sb s) hk1 hk7 h0 h1
      have htb := pt_bytes (s := sb s) hk1 hk7 h0 h1 (sb_lt s) (by rw [sb_len]; exact hsl)
      have HTB := hid (gt_back (f := f) xs ys (sb s) hk1 hk7 (sb_lt s) (by rw [sb_len]; exact hsl))
      have htB : ptB (sb s) k f = ptT (sb s) (2 ^ k) (f / (2 * 2 ^ k) * (2 * 2 ^ k)) := by unfold ptB; rw [hf, if_pos rfl, Int.toNat_natCast]
      have hTL : (ptT (sb s) (2 ^ k) (f / (2 * 2 ^ k) * (2 * 2 ^ k))).length ≤ 100000 := by rw [← htB]; exact ptB_len _ _ _
      rw [hf, htB] at HT
      generalize hTT : ptT (sb s) (2 ^ k) (f / (2 * 2 ^ k) * (2 * 2 ^ k)) = T at *
      have HTT := hid (show BB T 100000 t0 from ⟨hTL, by rw [ht0]; simp, by rw [ht0]; simp, by rw [ht0]; rfl, htz, htl⟩)
      have HG2 := hid (fun (W : World) (r : Sv) (q : Q w W) (rr : Row W r (xs ++ (T ++ ys))) => getText_any r.a r.n r.c (xs ++ (T ++ ys)) (xn : Nat) k W (Row.len rr) (by have := Row.len rr; rw [List.length_append, List.length_append] at this; have := HXL.out; have := HYL.out; have := HTT.out.l; omega) (Row.cap' rr) (fun y hy => by
        rcases List.mem_append.1 hy with h | h
        · exact HX.out.z y h
        · rcases List.mem_append.1 h with h | h
          · exact htb y h
          · exact HY.out.z y h) (Row.seg rr))
      rw [HXL.out] at HTB
      rw [HTB.out] at HG2
      simp only [ansT, str_sb] at HG2
      have HTD := hid htd
      clear htB hTT ht0 htb hTL HTB hf htz htl htd
      go_enter Try.func7, Try.ntmps7
      go_wp2_with fail
      generalize hW : World.alloc w _ = W0
      have HQ0 := hid (show Q w W0 from by rw [← hW]; exact (Q.refl w).alloc _)
      have IB0 := hid (show IB W0 w.heap.size n s k f ⟨xa, xn, xc⟩ ⟨ya, yn, yc⟩ from by rw [← hW]; exact HLB.out w)
      clear hW HLB
      generalize w.heap.size = hb at *
      refine (HP.out W0).mono ?_
      rintro e w1 ⟨⟨ra, rn, rc⟩, rfl, q1, r1, n1⟩
      have W1Q := hid (HQ0.out.trans q1)
      have W1I := hid (IB0.out.q q1)
      have S1 := hid (Row.seg r1)
      have L1 := hid (Row.len r1)
      clear q1 r1 n1 HQ0 IB0
      go_wp2_with fail
      generalize hR : Code.region 3 _ true = CC
      have eR : CC = Code.region 3 (RofN Try.f7 3) true := hR.symm.trans (by kernel_rfl)
      clear hR
      subst eR
      refine wp_region_noPanic ?_
      refine bk3 hb n s k f ⟨xa, xn, xc⟩ ⟨ya, yn, yc⟩ ⟨ra, rn, rc⟩ n ((xn : Int) + (rn : Int)) w1 _ (fun c a d v w h => h) ⟨Q.refl _, W1I.out⟩ xs B ys (HX.out.q W1Q.out) S1.out L1.out (HY.out.q W1Q.out) (by have := HB.out.l; have := L1.out; show xn + rn + yn ≤ 10000000; omega) (fun W r q rr => (HG.out W r (W1Q.out.trans q) rr).mono (by rintro e w' ⟨rfl, q'⟩; exact ⟨by rw [show ((xn + B.length : Nat) : Int) = (xn : Int) + (rn : Int) by have := L1.out; omega], q'⟩)) ?_
      intro ja jn jc w2 q2
      have W2Q := hid (W1Q.out.trans q2)
      have W2I := hid (W1I.out.q q2)
      obtain ⟨c0, c1, c2, c3, c4, c5⟩ := W2I.out.c
      have S2 := S1.out.q q2
      obtain ⟨rb, ro, rfl, hr0⟩ := S2 HB.out.ne
      have hr1 := hr0 0 HB.out.pos
      rw [HB.out.first] at hr1
      have hr2 : w2.cell? ⟨rb, ro, none⟩ = some (.int .u8 y0) := hr1
      clear hr0 hr1 q2 S2
      have hyzr := HB.out.z.1
      have hylr := HB.out.z.2
      have hrn1r : rn ≤ 10 := by have := HB.out.l; have := L1.out; omega
      have hrn0r : 0 < rn := by have := HB.out.pos; have := L1.out; omega
      have hrn0ir : (0 : Int) < (rn : Int) := by omega
      have hne2r : ((xn : Int) + (rn : Int) != (xn : Int) + (rn : Int)) = false := by simp
      have hne1r : (n != n) = false := by simp
      have hsh1r : min (k : Int).toNat 64 = k := by omega
      have hyd2r : y0 / 2 ^ k = f / 2 ^ k := HYD.out
      have hne3r : (f / 2 ^ k != f / 2 ^ k) = false := by simp
      refine NoPanic.normal ?_
      refine ‹∀ a w, Code.wp Try.prog _ _ a w → _› _ _ ?_
      go_wp2_with fail
      go_quiet (fail)
      clear c0 c1 c2 c3 c4 c5 hr2
      generalize hW3 : World.drewN _ _ = w3
      have W3Q := hid (show Q w w3 from by rw [← hW3]; exact W2Q.out.drewN _)
      have W3I := hid (show IB w3 hb n s k f ⟨xa, xn, xc⟩ ⟨ya, yn, yc⟩ from by rw [← hW3]; exact W2I.out.q ((Q.refl _).drewN _))
      clear hW3
      obtain ⟨c0, c1, c2, c3, c4, c5⟩ := W3I.out.c
      go_wp2_with (go_at_call 16; refine (HT.out w3).mono ?_; rintro e w4 ⟨⟨ta, tn, tc⟩, rfl, q4, r4, n4⟩; have W4Q := hid (W3Q.out.trans q4); have W4I := hid (W3I.out.q q4); have S4 := hid (Row.seg r4); have L4 := hid (Row.len r4); clear q4 r4 n4 c0 c1 c2 c3 c4 c5; obtain ⟨c0, c1, c2, c3, c4, c5⟩ := W4I.out.c; refine Hid.out ?_)
      refine hid ?_
      go_wp2_with fail
      generalize hR : Code.region 8 _ true = CC
      have eR : CC = Code.region 8 (RofN Try.f7 8) true := hR.symm.trans (by kernel_rfl)
      clear hR
      subst eR
      refine wp_region_noPanic ?_
      refine bk8 hb n s k f ⟨xa, xn, xc⟩ ⟨ya, yn, yc⟩ ⟨ta, tn, tc⟩ s ((xn : Int) + (tn : Int)) w4 _ (fun c a d v w h => h) ⟨Q.refl _, W4I.out⟩ xs T ys (HX.out.q W4Q.out) S4.out L4.out (HY.out.q W4Q.out) (by have := HTT.out.l; have := L4.out; show xn + tn + yn ≤ 10000000; omega) (fun W r q rr => (HG2.out W r (W4Q.out.trans q) rr).mono (by rintro e w' ⟨rfl, q'⟩; exact ⟨by rw [show ((xn + T.length : Nat) : Int) = (xn : Int) + (tn : Int) by have := L4.out; omega], q'⟩)) ?_
      intro ja jn jc w5 q2
      have W5Q := hid (W4Q.out.trans q2)
      have W5I := hid (W4I.out.q q2)
      obtain ⟨c0, c1, c2, c3, c4, c5⟩ := W5I.out.c
      have S2 := S4.out.q q2
      obtain ⟨rb, ro, rfl, hr0⟩ := S2 HTT.out.ne
      have hr1 := hr0 0 HTT.out.pos
      rw [HTT.out.first] at hr1
      have hr2 : w5.cell? ⟨rb, ro, none⟩ = some (.int .u8 t0) := hr1
      clear hr0 hr1 q2 S2
      have hyzt := HTT.out.z.1
      have hylt := HTT.out.z.2
      have hrn1t : tn ≤ 100000 := by have := HTT.out.l; have := L4.out; omega
      have hrn0t : 0 < tn := by have := HTT.out.pos; have := L4.out; omega
      have hrn0it : (0 : Int) < (tn : Int) := by omega
      have hne2t : ((xn : Int) + (tn : Int) != (xn : Int) + (tn : Int)) = false := by simp
      have hsh1t : ((k : Int) + 1).toNat = k + 1 := by omega
      have hyd2t : t0 / 2 ^ (k + 1) = f / 2 ^ (k + 1) := HTD.out
      have hne3t : (f / 2 ^ (k + 1) != f / 2 ^ (k + 1)) = false := by simp
      refine NoPanic.normal ?_
      refine ‹∀ a w, Code.wp Try.prog _ _ a w → _› _ _ ?_
      go_wp2_with fail
      go_quiet (fail)
      clear c0 c1 c2 c3 c4 c5 hr2
      generalize hW3 : World.drewN _ _ = w6
      have W6Q := hid (show Q w w6 from by rw [← hW3]; exact W5Q.out.drewN _)
      have W6I := hid (show IB w6 hb n s k f ⟨xa, xn, xc⟩ ⟨ya, yn, yc⟩ from by rw [← hW3]; exact W5I.out.q ((Q.refl _).drewN _))
      clear hW3
      obtain ⟨c0, c1, c2, c3, c4, c5⟩ := W6I.out.c
      go_wp2_with (go_at_call 11; refine (HAW.out _).mono ?_; rintro e w9 ⟨rfl, q9⟩; have W9Q := hid (W6Q.out.trans q9); clear q9)
      go_ret
      exact ⟨rfl, W9Q.out⟩

    · skip
      obtain ⟨y0, r0, hy0, hyz, hyl, hyd⟩ := pu_first (n := n) hk1 hk8 h0 h1 hkb.2.2.1
      have hbz := pu_bytes (n := n) hk1 hk8 h0 h1 hkb.2.2.1 hkb.2.2.2
      have hpl := pfP_len n (2 ^ k) (f / 2 ^ k * 2 ^ k)
      have HGB := hid (pg_back (f := f) xs ys hk1 hk8 hkb.2.2.1 hkb.2.2.2)
      have hpb : puB n k f = pfP n (2 ^ k) (f / 2 ^ k * 2 ^ k) := by unfold puB; rw [he, if_pos rfl, Int.toNat_natCast]
      rw [he, hpb] at HP
      generalize hBB : pfP n (2 ^ k) (f / 2 ^ k * 2 ^ k) = B at *
      have HB := hid (show BB B 10 y0 from ⟨hpl.1, hpl.2, by rw [hy0]; simp, by rw [hy0]; rfl, hyz, hyl⟩)
      have HG := hid (fun (W : World) (r : Sv) (q : Q w W) (rr : Row W r (xs ++ (B ++ ys))) => (get_any r.a r.n r.c (xs ++ (B ++ ys)) (xn : Nat) k W (Row.len rr) (by have := Row.len rr; rw [List.length_append, List.length_append] at this; have := HXL.out; have := HYL.out; have := HB.out.l; omega) (fun y hy => by
        rcases List.mem_append.1 hy with h | h
        · exact HX.out.z y h
        · rcases List.mem_append.1 h with h | h
          · exact hbz y h
          · exact HY.out.z y h) (Row.seg rr)).mono (fun e w' h => (⟨h.1, by rw [h.2]; exact Q.refl _⟩ : e = ans3 (pgA (xs ++ (B ++ ys)) (xn : Nat) k) ∧ Q W w')))
      rw [HXL.out] at HGB
      rw [HGB.out] at HG
      simp only [ans3] at HG
      have HYD := hid hyd
      clear hpb hBB hy0 hbz hpl HGB he hyz hyl hyd
      have hnfb : (ptE (sb s) k == 0) = false := beq_eq_false_iff_ne.2 hf
      have hnfc : (ptE (sb s) k != 0) = true := by simpa using hf
      generalize ptE (sb s) k = e2 at *
      clear hf
      go_enter Try.func7, Try.ntmps7
      go_wp2_with fail
      generalize hW : World.alloc w _ = W0
      have HQ0 := hid (show Q w W0 from by rw [← hW]; exact (Q.refl w).alloc _)
      have IB0 := hid (show IB W0 w.heap.size n s k f ⟨xa, xn, xc⟩ ⟨ya, yn, yc⟩ from by rw [← hW]; exact HLB.out w)
      clear hW HLB
      generalize w.heap.size = hb at *
      refine (HP.out W0).mono ?_
      rintro e w1 ⟨⟨ra, rn, rc⟩, rfl, q1, r1, n1⟩
      have W1Q := hid (HQ0.out.trans q1)
      have W1I := hid (IB0.out.q q1)
      have S1 := hid (Row.seg r1)
      have L1 := hid (Row.len r1)
      clear q1 r1 n1 HQ0 IB0
      go_wp2_with fail
      generalize hR : Code.region 3 _ true = CC
      have eR : CC = Code.region 3 (RofN Try.f7 3) true := hR.symm.trans (by kernel_rfl)
      clear hR
      subst eR
      refine wp_region_noPanic ?_
      refine bk3 hb n s k f ⟨xa, xn, xc⟩ ⟨ya, yn, yc⟩ ⟨ra, rn, rc⟩ n ((xn : Int) + (rn : Int)) w1 _ (fun c a d v w h => h) ⟨Q.refl _, W1I.out⟩ xs B ys (HX.out.q W1Q.out) S1.out L1.out (HY.out.q W1Q.out) (by have := HB.out.l; have := L1.out; show xn + rn + yn ≤ 10000000; omega) (fun W r q rr => (HG.out W r (W1Q.out.trans q) rr).mono (by rintro e w' ⟨rfl, q'⟩; exact ⟨by rw [show ((xn + B.length : Nat) : Int) = (xn : Int) + (rn : Int) by have := L1.out; omega], q'⟩)) ?_
      intro ja jn jc w2 q2
      have W2Q := hid (W1Q.out.trans q2)
      have W2I := hid (W1I.out.q q2)
      obtain ⟨c0, c1, c2, c3, c4, c5⟩ := W2I.out.c
      have S2 := S1.out.q q2
      obtain ⟨rb, ro, rfl, hr0⟩ := S2 HB.out.ne
      have hr1 := hr0 0 HB.out.pos
      rw [HB.out.first] at hr1
      have hr2 : w2.cell? ⟨rb, ro, none⟩ = some (.int .u8 y0) := hr1
      clear hr0 hr1 q2 S2
      have hyzr := HB.out.z.1
      have hylr := HB.out.z.2
      have hrn1r : rn ≤ 10 := by have := HB.out.l; have := L1.out; omega
      have hrn0r : 0 < rn := by have := HB.out.pos; have := L1.out; omega
      have hrn0ir : (0 : Int) < (rn : Int) := by omega
      have hne2r : ((xn : Int) + (rn : Int) != (xn : Int) + (rn : Int)) = false := by simp
      have hne1r : (n != n) = false := by simp
      have hsh1r : min (k : Int).toNat 64 = k := by omega
      have hyd2r : y0 / 2 ^ k = f / 2 ^ k := HYD.out
      have hne3r : (f / 2 ^ k != f / 2 ^ k) = false := by simp
      refine NoPanic.normal ?_
      refine ‹∀ a w, Code.wp Try.prog _ _ a w → _› _ _ ?_
      go_wp2_with fail
      go_quiet (fail)
      clear c0 c1 c2 c3 c4 c5 hr2
      generalize hW3 : World.drewN _ _ = w3
      have W3Q := hid (show Q w w3 from by rw [← hW3]; exact W2Q.out.drewN _)
      have W3I := hid (show IB w3 hb n s k f ⟨xa, xn, xc⟩ ⟨ya, yn, yc⟩ from by rw [← hW3]; exact W2I.out.q ((Q.refl _).drewN _))
      clear hW3
      obtain ⟨c0, c1, c2, c3, c4, c5⟩ := W3I.out.c
      go_wp2_with (go_at_call 16; refine (HT.out w3).mono ?_; rintro e w4 ⟨⟨ta, tn, tc⟩, rfl, q4, r4, n4⟩; have W4Q := hid (W3Q.out.trans q4); have W4I := hid (W3I.out.q q4); have S4 := hid (Row.seg r4); have L4 := hid (Row.len r4); clear q4 r4 n4 c0 c1 c2 c3 c4 c5; obtain ⟨c0, c1, c2, c3, c4, c5⟩ := W4I.out.c; refine Hid.out ?_)
      refine hid ?_
      go_wp2_with (go_at_call 11; refine (HAW.out _).mono ?_; rintro e w9 ⟨rfl, q9⟩; have W9Q := hid (W4Q.out.trans q9); clear q9)
      go_ret
      exact ⟨rfl, W9Q.out⟩

  · by_cases hf : ptE (sb s) b = 0
    · have hsl : 1 ≤ b ∧ b ≤ 7 ∧ s.size ≤ 16384 := by
        unfold ptE at hf
        rw [sb_len] at hf
        split at hf
        · cases hf
        · split at hf
          · cases hf
          · omega
      obtain ⟨k, rfl⟩ := Int.eq_ofNat_of_zero_le (show 0 ≤ b by omega)
      have hk1 : 1 ≤ k := by omega
      have hk7 : k ≤ 7 := by omega
      have hb1 : ¬ (k : Int) < 1 := by omega
      have hb8 : (k : Int) ≤ 8 := by omega
      replace hsl := hsl.2.2
      have hneb : (puE n k == 0) = false := beq_eq_false_iff_ne.2 he
      have hnec : (puE n k != 0) = true := by simpa using he
      generalize puE n k = e1 at *
      clear he
      obtain ⟨t0, r1, ht0, htz, htl, htd⟩ := pt_first (sb s) hk1 hk7 h0 h1
      have htb := pt_bytes (s := sb s) hk1 hk7 h0 h1 (sb_lt s) (by rw [sb_len]; exact hsl)
      have HTB := hid (gt_back (f := f) xs ys (sb s) hk1 hk7 (sb_lt s) (by rw [sb_len]; exact hsl))
      have htB : ptB (sb s) k f = ptT (sb s) (2 ^ k) (f / (2 * 2 ^ k) * (2 * 2 ^ k)) := by unfold ptB; rw [hf, if_pos rfl, Int.toNat_natCast]
      have hTL : (ptT (sb s) (2 ^ k) (f / (2 * 2 ^ k) * (2 * 2 ^ k))).length ≤ 100000 := by rw [← htB]; exact ptB_len _ _ _
      rw [hf, htB] at HT
      generalize hTT : ptT (sb s) (2 ^ k) (f / (2 * 2 ^ k) * (2 * 2 ^ k)) = T at *
      have HTT := hid (show BB T 100000 t0 from ⟨hTL, by rw [ht0]; simp, by rw [ht0]; simp, by rw [ht0]; rfl, htz, htl⟩)
      have HG2 := hid (fun (W : World) (r : Sv) (q : Q w W) (rr : Row W r (xs ++ (T ++ ys))) => getText_any r.a r.n r.c (xs ++ (T ++ ys)) (xn : Nat) k W (Row.len rr) (by have := Row.len rr; rw [List.length_append, List.length_append] at this; have := HXL.out; have := HYL.out; have := HTT.out.l; omega) (Row.cap' rr) (fun y hy => by
        rcases List.mem_append.1 hy with h | h
        · exact HX.out.z y h
        · rcases List.mem_append.1 h with h | h
          · exact htb y h
          · exact HY.out.z y h) (Row.seg rr))
      rw [HXL.out] at HTB
      rw [HTB.out] at HG2
      simp only [ansT, str_sb] at HG2
      have HTD := hid htd
      clear htB hTT ht0 htb hTL HTB hf htz htl htd
      go_enter Try.func7, Try.ntmps7
      go_wp2_with fail
      generalize hW : World.alloc w _ = W0
      have HQ0 := hid (show Q w W0 from by rw [← hW]; exact (Q.refl w).alloc _)
      have IB0 := hid (show IB W0 w.heap.size n s k f ⟨xa, xn, xc⟩ ⟨ya, yn, yc⟩ from by rw [← hW]; exact HLB.out w)
      clear hW HLB
      generalize w.heap.size = hb at *
      refine (HP.out W0).mono ?_
      rintro e w1 ⟨⟨ra, rn, rc⟩, rfl, q1, r1, n1⟩
      have W1Q := hid (HQ0.out.trans q1)
      have W1I := hid (IB0.out.q q1)
      have S1 := hid (Row.seg r1)
      have L1 := hid (Row.len r1)
      clear q1 r1 n1 HQ0 IB0
      obtain ⟨c0, c1, c2, c3, c4, c5⟩ := W1I.out.c
      go_wp2_with (go_at_call 16; refine (HT.out w1).mono ?_; rintro e w4 ⟨⟨ta, tn, tc⟩, rfl, q4, r4, n4⟩; have W4Q := hid (W1Q.out.trans q4); have W4I := hid (W1I.out.q q4); have S4 := hid (Row.seg r4); have L4 := hid (Row.len r4); clear q4 r4 n4 c0 c1 c2 c3 c4 c5; obtain ⟨c0, c1, c2, c3, c4, c5⟩ := W4I.out.c; refine Hid.out ?_)
      refine hid ?_
      go_wp2_with fail
      generalize hR : Code.region 8 _ true = CC
      have eR : CC = Code.region 8 (RofN Try.f7 8) true := hR.symm.trans (by kernel_rfl)
      clear hR
      subst eR
      refine wp_region_noPanic ?_
      refine bk8 hb n s k f ⟨xa, xn, xc⟩ ⟨ya, yn, yc⟩ ⟨ta, tn, tc⟩ s ((xn : Int) + (tn : Int)) w4 _ (fun c a d v w h => h) ⟨Q.refl _, W4I.out⟩ xs T ys (HX.out.q W4Q.out) S4.out L4.out (HY.out.q W4Q.out) (by have := HTT.out.l; have := L4.out; show xn + tn + yn ≤ 10000000; omega) (fun W r q rr => (HG2.out W r (W4Q.out.trans q) rr).mono (by rintro e w' ⟨rfl, q'⟩; exact ⟨by rw [show ((xn + T.length : Nat) : Int) = (xn : Int) + (tn : Int) by have := L4.out; omega], q'⟩)) ?_
      intro ja jn jc w5 q2
      have W5Q := hid (W4Q.out.trans q2)
      have W5I := hid (W4I.out.q q2)
      obtain ⟨c0, c1, c2, c3, c4, c5⟩ := W5I.out.c
      have S2 := S4.out.q q2
      obtain ⟨rb, ro, rfl, hr0⟩ := S2 HTT.out.ne
      have hr1 := hr0 0 HTT.out.pos
      rw [HTT.out.first] at hr1
      have hr2 : w5.cell? ⟨rb, ro, none⟩ = some (.int .u8 t0) := hr1
      clear hr0 hr1 q2 S2
      have hyzt := HTT.out.z.1
      have hylt := HTT.out.z.2
      have hrn1t : tn ≤ 100000 := by have := HTT.out.l; have := L4.out; omega
      have hrn0t : 0 < tn := by have := HTT.out.pos; have := L4.out; omega
      have hrn0it : (0 : Int) < (tn : Int) := by omega
      have hne2t : ((xn : Int) + (tn : Int) != (xn : Int) + (tn : Int)) = false := by simp
      have hsh1t : ((k : Int) + 1).toNat = k + 1 := by omega
      have hyd2t : t0 / 2 ^ (k + 1) = f / 2 ^ (k + 1) := HTD.out
      have hne3t : (f / 2 ^ (k + 1) != f / 2 ^ (k + 1)) = false := by simp
      refine NoPanic.normal ?_
      refine ‹∀ a w, Code.wp Try.prog _ _ a w → _› _ _ ?_
      go_wp2_with fail
      go_quiet (fail)
      clear c0 c1 c2 c3 c4 c5 hr2
      generalize hW3 : World.drewN _ _ = w6
      have W6Q := hid (show Q w w6 from by rw [← hW3]; exact W5Q.out.drewN _)
      have W6I := hid (show IB w6 hb n s k f ⟨xa, xn, xc⟩ ⟨ya, yn, yc⟩ from by rw [← hW3]; exact W5I.out.q ((Q.refl _).drewN _))
      clear hW3
      obtain ⟨c0, c1, c2, c3, c4, c5⟩ := W6I.out.c
      go_wp2_with (go_at_call 11; refine (HAW.out _).mono ?_; rintro e w9 ⟨rfl, q9⟩; have W9Q := hid (W6Q.out.trans q9); clear q9)
      go_ret
      exact ⟨rfl, W9Q.out⟩

    · by_cases hb : 1 ≤ b ∧ b ≤ 8
      · have hb1 : ¬ b < 1 := by omega
        have hb8 := hb.2
        clear hb
        have hneb : (puE n b == 0) = false := beq_eq_false_iff_ne.2 he
        have hnec : (puE n b != 0) = true := by simpa using he
        generalize puE n b = e1 at *
        clear he
        have hnfb : (ptE (sb s) b == 0) = false := beq_eq_false_iff_ne.2 hf
        have hnfc : (ptE (sb s) b != 0) = true := by simpa using hf
        generalize ptE (sb s) b = e2 at *
        clear hf
        go_enter Try.func7, Try.ntmps7
        go_wp2_with fail
        generalize hW : World.alloc w _ = W0
        have HQ0 := hid (show Q w W0 from by rw [← hW]; exact (Q.refl w).alloc _)
        have IB0 := hid (show IB W0 w.heap.size n s b f ⟨xa, xn, xc⟩ ⟨ya, yn, yc⟩ from by rw [← hW]; exact HLB.out w)
        clear hW HLB
        generalize w.heap.size = hb at *
        refine (HP.out W0).mono ?_
        rintro e w1 ⟨⟨ra, rn, rc⟩, rfl, q1, r1, n1⟩
        have W1Q := hid (HQ0.out.trans q1)
        have W1I := hid (IB0.out.q q1)
        have S1 := hid (Row.seg r1)
        have L1 := hid (Row.len r1)
        clear q1 r1 n1 HQ0 IB0
        obtain ⟨c0, c1, c2, c3, c4, c5⟩ := W1I.out.c
        go_wp2_with (go_at_call 16; refine (HT.out w1).mono ?_; rintro e w4 ⟨⟨ta, tn, tc⟩, rfl, q4, r4, n4⟩; have W4Q := hid (W1Q.out.trans q4); have W4I := hid (W1I.out.q q4); have S4 := hid (Row.seg r4); have L4 := hid (Row.len r4); clear q4 r4 n4 c0 c1 c2 c3 c4 c5; obtain ⟨c0, c1, c2, c3, c4, c5⟩ := W4I.out.c; refine Hid.out ?_)
        refine hid ?_
        go_wp2_with (go_at_call 11; refine (HAW.out _).mono ?_; rintro e w9 ⟨rfl, q9⟩; have W9Q := hid (W4Q.out.trans q9); clear q9)
        go_ret
        exact ⟨rfl, W9Q.out⟩

      · by_cases hb1 : 1 ≤ b
        · have hb8 : ¬ b ≤ 8 := by omega
          have hb8b : decide (b ≤ 8) = false := decide_eq_false hb8
          clear hb
          have hneb : (puE n b == 0) = false := beq_eq_false_iff_ne.2 he
          have hnec : (puE n b != 0) = true := by simpa using he
          generalize puE n b = e1 at *
          clear he
          have hnfb : (ptE (sb s) b == 0) = false := beq_eq_false_iff_ne.2 hf
          have hnfc : (ptE (sb s) b != 0) = true := by simpa using hf
          generalize ptE (sb s) b = e2 at *
          clear hf
          go_enter Try.func7, Try.ntmps7
          go_wp2_with fail
          generalize hW : World.alloc w _ = W0
          have HQ0 := hid (show Q w W0 from by rw [← hW]; exact (Q.refl w).alloc _)
          have IB0 := hid (show IB W0 w.heap.size n s b f ⟨xa, xn, xc⟩ ⟨ya, yn, yc⟩ from by rw [← hW]; exact HLB.out w)
          clear hW HLB
          generalize w.heap.size = hb at *
          refine (HP.out W0).mono ?_
          rintro e w1 ⟨⟨ra, rn, rc⟩, rfl, q1, r1, n1⟩
          have W1Q := hid (HQ0.out.trans q1)
          have W1I := hid (IB0.out.q q1)
          have S1 := hid (Row.seg r1)
          have L1 := hid (Row.len r1)
          clear q1 r1 n1 HQ0 IB0
          obtain ⟨c0, c1, c2, c3, c4, c5⟩ := W1I.out.c
          go_wp2_with (go_at_call 16; refine (HT.out w1).mono ?_; rintro e w4 ⟨⟨ta, tn, tc⟩, rfl, q4, r4, n4⟩; have W4Q := hid (W1Q.out.trans q4); have W4I := hid (W1I.out.q q4); have S4 := hid (Row.seg r4); have L4 := hid (Row.len r4); clear q4 r4 n4 c0 c1 c2 c3 c4 c5; obtain ⟨c0, c1, c2, c3, c4, c5⟩ := W4I.out.c; refine Hid.out ?_)
          refine hid ?_
          go_wp2_with (go_at_call 11; refine (HAW.out _).mono ?_; rintro e w9 ⟨rfl, q9⟩; have W9Q := hid (W4Q.out.trans q9); clear q9)
          go_ret
          exact ⟨rfl, W9Q.out⟩

        · have hb1b : decide (1 ≤ b) = false := decide_eq_false hb1
          clear hb
          have hneb : (puE n b == 0) = false := beq_eq_false_iff_ne.2 he
          have hnec : (puE n b != 0) = true := by simpa using he
          generalize puE n b = e1 at *
          clear he
          have hnfb : (ptE (sb s) b == 0) = false := beq_eq_false_iff_ne.2 hf
          have hnfc : (ptE (sb s) b != 0) = true := by simpa using hf
          generalize ptE (sb s) b = e2 at *
          clear hf
          go_enter Try.func7, Try.ntmps7
          go_wp2_with fail
          generalize hW : World.alloc w _ = W0
          have HQ0 := hid (show Q w W0 from by rw [← hW]; exact (Q.refl w).alloc _)
          have IB0 := hid (show IB W0 w.heap.size n s b f ⟨xa, xn, xc⟩ ⟨ya, yn, yc⟩ from by rw [← hW]; exact HLB.out w)
          clear hW HLB
          generalize w.heap.size = hb at *
          refine (HP.out W0).mono ?_
          rintro e w1 ⟨⟨ra, rn, rc⟩, rfl, q1, r1, n1⟩
          have W1Q := hid (HQ0.out.trans q1)
          have W1I := hid (IB0.out.q q1)
          have S1 := hid (Row.seg r1)
          have L1 := hid (Row.len r1)
          clear q1 r1 n1 HQ0 IB0
          obtain ⟨c0, c1, c2, c3, c4, c5⟩ := W1I.out.c
          go_wp2_with (go_at_call 16; refine (HT.out w1).mono ?_; rintro e w4 ⟨⟨ta, tn, tc⟩, rfl, q4, r4, n4⟩; have W4Q := hid (W1Q.out.trans q4); have W4I := hid (W1I.out.q q4); have S4 := hid (Row.seg r4); have L4 := hid (Row.len r4); clear q4 r4 n4 c0 c1 c2 c3 c4 c5; obtain ⟨c0, c1, c2, c3, c4, c5⟩ := W4I.out.c; refine Hid.out ?_)
          refine hid ?_
          go_wp2_with (go_at_call 11; refine (HAW.out _).mono ?_; rintro e w9 ⟨rfl, q9⟩; have W9Q := hid (W4Q.out.trans q9); clear q9)
          go_ret
          exact ⟨rfl, W9Q.out⟩

theorem contract (H : Type) (enc : TypeId × Value → H) (W : World) (base : Nat) (args : Array Value) (ds gs : List (DataW H)) (before : List MemPlace)
    (hval : ∀ (j : Nat) t v, Try.f7.params[j]? = some t → args[j]? = some v → Value.okWide Try.prog W .any base t v)
    (hW : DataW.Whole enc Try.prog Try.f7.params.toList Rows.prefixBackSpec.vars false W args.toList ds gs before) (hk : Rows.uptoSmall H (ds ++ gs) = true) :
    Calls Try.prog 7 args W fun e W' => ∃ v, e = .returned v ∧ Rows.prefixBackSpec.post enc Try.prog Try.f7 false true false false W args v W' := by
  have hW' := hW
  obtain ⟨p, q, hA0, hV, rfl, hfz, hnd⟩ := hW
  have hA : DataW.TrodAll enc Try.prog W 0 (fun _ => true) true Try.f7.params.toList args.toList ds p := hA0
  rw [Try.params7] at hA hval
  obtain ⟨v0, vs0, d0, ds0, p0, q0, hargs, rfl, rfl, h0, r0⟩ := trodAll_cons hA
  obtain ⟨rfl, rfl, rfl⟩ := trodAll_nil r0
  obtain rfl : args = #[v0] := by cases args; simp_all
  obtain ⟨rfl, rfl⟩ := trodVars_none hV
  obtain ⟨cs0, rfl, hcs0⟩ := okWide_struct Try.underlying45 (hval 0 45 v0 rfl rfl)
  have k0 := h0
  have lt0 : ∀ x ∈ p0, x.block < W.heap.size := by obtain ⟨m, hm⟩ := k0; exact DataW.trod_lt m _ _ _ hm
  obtain ⟨n0, t1, n2, n3, s4, s5, z4, z5, rfl, hc0⟩ := it_open h0 hcs0
  have ft0 := it_bulk hk (by simp) hc0
  clear hA0
  refine (walk n0 t1 n2 n3 s4 s5 z4 z5 W hc0.b3.1 hc0.b3.2 (by have := hc0.b1; unfold maxLen at this; omega) hc0.i4 hc0.i5 ft0.1 ft0.2).mono fun e W' ⟨he, bel⟩ => ?_
  subst he
  exact ⟨_, rfl, _, _, _, [], _, [], hW', trodAll_mk1 (shut_bool Try.underlying4 _), (trodAll_cons_mk (Below.trod laid_out (by kernel_rfl) (of_decide_eq_true (by kernel_rfl)) k0 bel lt0) trodAll_mk0), rfl, bel.frame _, fun h => by cases h⟩

set_option maxRecDepth 100000 in
theorem lifted (os : Os) (started : os.Started) (H : Type) (enc : TypeId × Value → H) (F : Stop.Interp) :
    ReturnsInHanded {} Try.checked os 7 .any ((Rows.OpenSpec.upto Rows.prefixBackSpec).pre6 enc Try.prog Try.f7 Rows.prefixBackUptoRow.domain false) (((Rows.OpenSpec.upto Rows.prefixBackSpec).at F).post enc Try.prog Try.f7 false true false false) := by
  refine returnsInHanded_of_cond (C := Try.checked) (s := Rows.OpenSpec.upto Rows.prefixBackSpec) (k := Rows.uptoSmall) rfl own_knob started (by kernel_rfl) Try.func7
    (OpenSpec.witness (enc := enc) (C := Try.checked) (s := Rows.OpenSpec.upto Rows.prefixBackSpec) (k := Rows.uptoSmall) rfl false ⟨#[], #[.agg #[.int .i64 0, .string ⟨#[]⟩, .int .i64 0, .int .u8 0, .slice none 0 0, .slice none 0 0]], []⟩ 8 (by kernel_rfl) (by kernel_rfl) (by kernel_rfl)
      (x := ([.agg [.lit (.int .i64 0), .lit (.string []), .lit (.int .i64 0), .lit (.int .u8 0), .nil, .nil]], [], [])) (by kernel_rfl) rfl (by kernel_rfl)) ?_
  intro W base args ds gs before hval hW _ hk _
  exact contract H enc W base args ds gs before hval hW hk

theorem over : Rows.prefixBackUptoRow.holds Try.pinned (Rows.OpenSpec.upto Rows.prefixBackSpec) :=
  OpenClaim.holds_of_cond 7 Try.f7 rfl rfl rfl rfl rfl rfl rfl ⟨rfl, rfl, rfl, rfl, rfl⟩ rfl rfl rfl rfl rfl (by kernel_rfl) Try.func7 (by kernel_rfl)
    (of_decide_eq_true (by kernel_rfl)) (by unfold Func.isWrapper; first | (rw [if_pos (by decide +kernel)]; kernel_rfl) | (rw [if_neg (by decide +kernel)]; exact ⟨rfl, rfl⟩))
    (fun os started H enc _ F => lifted os started H enc F)

end Go.Proofs.Ytchkiohmjgmmbaa.prefixBack
namespace Go.Proofs.Ytchkiohmjgmmbaa

/-- The statement. -/
theorem prefixBackUpto_holds : Rows.PrefixBackUptoSaid := prefixBack.over
#print axioms prefixBackUpto_holds
end Go.Proofs.Ytchkiohmjgmmbaa
