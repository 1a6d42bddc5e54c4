/-
  What the document's own Expand does: a contract that the statements' walks use.
-/
import Derived.Test.YtihmlfpfpadfpaaExM
import Derived.Test.YtihmlfpfpadfpaaRMask
namespace Go.Proofs.Ytihmlfpfpadfpaa
open Go.RowKit
set_option linter.unusedVariables false
set_option maxRecDepth 20000

theorem Row.cap {w : World} {x : Sv} {zs : List Int} (h : Row w x zs) : x.n ≤ x.c := by
  rcases h.2 with ⟨_, h1, h2⟩ | ⟨g, off, cur, _, _, h1, _⟩ <;> omega
theorem eb_flat (ks ls : List Int) (i : Nat) (hi : i < 256) : eb ks ls i = dg ([tx ks, tx ls, [(i : Int)]] : List (List Int)).flatten := by
  unfold eb
  rw [show (i : Int) % 256 = (i : Int) by omega]
  simp
set_option maxHeartbeats 8000000 in
theorem rexpand_any (k : Sv) (ks : List Int) (s : ByteArray) (n : Int) (w : World) (hk : In w k ks) (bk : k.n ≤ 140737488355328) (bs : s.size ≤ 9223372036854775807) :
    Calls Try.prog 35 #[.slice k.a k.n k.c, .string s, .int .i64 n] w fun e w' => ∃ x : Sv, e = .returned (.tuple #[.slice x.a x.n x.c, .int .i64 (expE k.n s.size n)]) ∧ Q w w' ∧ Row w' x (expR ks (sb s) n) := by
  have HK := hid hk
  have HR := hid (show expR ks (sb s) n = if expE k.n s.size n = 0 then exL ks (sb s) n.toNat else [] from by unfold expR; rw [hk.l, sb_len])
  clear hk
  obtain ⟨ka, kn, kc⟩ := k
  dsimp only at *
  by_cases h1 : (255 : Int) < (kn : Int)
  · have HE := hid (show expE kn s.size n = 70 from by unfold expE; rw [if_pos (by omega)])
    rw [HE.out] at HR
    rw [HE.out, HR.out, if_neg (by decide)]
    go_enter Try.func35, Try.ntmps35
    go_wp2
    go_ret2
    exact ⟨nilS, rfl, Q.refl _, sub_nil _ _ _⟩
  by_cases h2 : (255 : Int) < (s.size : Int)
  · have HE := hid (show expE kn s.size n = 70 from by unfold expE; rw [if_pos (by omega)])
    rw [HE.out] at HR
    rw [HE.out, HR.out, if_neg (by decide)]
    go_enter Try.func35, Try.ntmps35
    go_wp2
    go_ret2
    exact ⟨nilS, rfl, Q.refl _, sub_nil _ _ _⟩
  by_cases h3 : n < 0
  · have HE := hid (show expE kn s.size n = 52 from by unfold expE; rw [if_neg (by omega), if_pos (by omega)])
    rw [HE.out] at HR
    rw [HE.out, HR.out, if_neg (by decide)]
    go_enter Try.func35, Try.ntmps35
    go_wp2
    go_ret2
    exact ⟨nilS, rfl, Q.refl _, sub_nil _ _ _⟩
  by_cases h4 : 1024 < n
  · have HE := hid (show expE kn s.size n = 52 from by unfold expE; rw [if_neg (by omega), if_pos (by omega)])
    rw [HE.out] at HR
    rw [HE.out, HR.out, if_neg (by decide)]
    go_enter Try.func35, Try.ntmps35
    go_wp2
    go_ret2
    exact ⟨nilS, rfl, Q.refl _, sub_nil _ _ _⟩
  obtain ⟨n, rfl⟩ := Int.eq_ofNat_of_zero_le (show 0 ≤ n by omega)
  have HE := hid (show expE kn s.size n = 0 from by unfold expE; rw [if_neg (by omega), if_neg (by omega)])
  rw [HE.out] at HR
  rw [HE.out, HR.out, if_pos rfl, Int.toNat_natCast]
  clear HR HE
  have HLN := hid (fun (i : Int) => show ([tx ks, tx (sb s), [i]] : List (List Int)).flatten.length ≤ 1000000 from by
    have e1 : ks.length = kn := HK.out.l
    have e2 := sb_len s
    simp [tx, e1, e2]; omega)
  go_enter Try.func35, Try.ntmps35
  go_wp2
  generalize hw1 : World.alloc w _ = w1
  have HQ1 := hid (show Q w w1 from by rw [← hw1]; exact (Q.refl w).alloc _)
  have HR1 := hid (show Row w1 ⟨some ⟨w.heap.size, 0, none⟩, 0, 0⟩ [] from by rw [← hw1]; exact row_empty w)
  clear hw1
  go_loopw [8, 9] (fun os is wr => Q w wr ∧ ∃ (i : Nat) (x : Sv), 16 * i < n + 16 ∧ is = .int .i64 i ∧ os = .slice x.a x.n x.c ∧ Row wr x (catE ks (sb s) i) ∧ New w.heap.size x) (fun _ is _ => ((n : Int) + 16 - intOf is).toNat)
  case atStart => exact ⟨HQ1.out, 0, ⟨some ⟨w.heap.size, 0, none⟩, 0, 0⟩, by omega, rfl, rfl, HR1.out, fun b e => by cases e; exact Nat.le_refl _⟩
  case round =>
    clear HQ1 HR1
    obtain ⟨hq, i, ⟨xa, xn, xc⟩, hi, rfl, rfl, hr, hnew⟩ := hrel
    have hxn : xn = 16 * i := by
      have h1 : (catE ks (sb s) i).length = xn := Row.len hr
      rw [catE_len] at h1; omega
    have hxc := Row.cap hr
    dsimp only at hxc
    have HQ := hid hq
    have HR := hid hr
    have HN := hid hnew
    clear hq hr hnew
    by_cases hin : 16 * i < n
    · have hlt : (i : Int) * 16 < (n : Int) := by omega
      have HXN := hid hxn
      clear hxn hxc
      go_wp2_with fail
      refine (rtext_any ⟨ka, kn, kc⟩ ks wr (HK.out.q HQ.out) (by show kn ≤ _; omega)).mono ?_
      rintro e w2 ⟨⟨ta, tn, tc⟩, rfl, q2, i2⟩
      have Q2 := hid q2
      have I2 := hid i2
      clear q2 i2
      obtain ⟨lc, w3, hrun, q3, i3⟩ := conv_any s w2
      have Q3 := hid (Q2.out.trans q3)
      have I3 := hid i3
      have T3 := hid (I2.out.q q3)
      clear q3 i3 Q2 I2
      go_wp2_with fail
      refine (rtext_any ⟨some ⟨w2.heap.size, 0, none⟩, s.size, lc⟩ (sb s) w3 I3.out (by show s.size ≤ _; omega)).mono ?_
      rintro e w4 ⟨⟨ua, un, uc⟩, rfl, q4, i4⟩
      have Q4 := hid (Q3.out.trans q4)
      have T4 := hid (T3.out.q q4)
      have U4 := hid i4
      clear q4 i4 Q3 T3 I3 hrun
      go_wp2_with fail
      refine (join_at (w4.alloc (.cells #[.int .u8 i] 5)) (w4.heap.size + 1) (by simp) [⟨ta, tn, tc⟩, ⟨ua, un, uc⟩, ⟨some ⟨w4.heap.size, 0, none⟩, 1, 1⟩] [tx ks, tx (sb s), [(i : Int)]] rfl (in3 (T4.out.q ((Q.refl _).alloc _)) (U4.out.q ((Q.refl _).alloc _)) (in_lit1 w4 i (by omega) (by omega))) (by show 3 ≤ 100; omega) (HLN.out i)).mono ?_
      rintro e w5 ⟨⟨ja, jn, jc⟩, rfl, q5, i5, r5, n5⟩
      have Q5 := hid (Q4.out.trans (Q.trans ((Q.refl w4).alloc _) q5))
      have J5 := hid i5
      have HJL := hid (show jn ≤ 1000000 from by have h1 := i5.l; dsimp only at h1; rw [← h1]; exact HLN.out i)
      have HEB := hid (eb_flat ks (sb s) i (by omega))
      have hcs : catE ks (sb s) (i + 1) = catE ks (sb s) i ++ eb ks (sb s) i := rfl
      have HCS := hid hcs
      have HTL := hid (eb_len ks (sb s) i)
      clear q5 i5 r5 n5 Q4 T4 U4 hcs
      go_wp2_with fail
      refine (rdigest_any ja jn jc _ w5 J5.out.l (by have := HJL.out; omega) J5.out.z J5.out.s).mono ?_
      rintro e w6 ⟨g6, rfl, q6, r6, n6⟩
      rw [← HEB.out] at r6
      have Q6 := hid (Q5.out.trans q6)
      clear J5 HEB
      obtain ⟨⟨ya, yn, yc⟩, w7, hrun, hrow, hkp, hb⟩ := row_append (ty := 22) (d := ⟨xa, xn, xc⟩) (x := .slice (some ⟨g6, 0, none⟩) 16 16) (m := 16) (ys := eb ks (sb s) i) (HR.out.q Q6.out) (src_seg r6.seg HTL.out) (by have := HXN.out; show xn + 16 ≤ 1000000; omega)
      have hns := new_step rfl (HQ.out.trans Q6.out) HN.out hkp hb
      have HX := hid hns
      have HY := hid (show Row w7 ⟨ya, yn, yc⟩ (catE ks (sb s) (i + 1)) from by rw [HCS.out]; exact hrow)
      clear q6 r6 n6 hrow hkp hb hns Q5 Q6 HCS HTL
      go_wp2_with (at_builtin; refine Lib.wpList_append_run _ rfl _ _ _ _ rfl _ _ rfl rfl _ _ hrun ?_)
      go_roundw
      case rel => exact ⟨HX.out.1, i + 1, ⟨ya, yn, yc⟩, by omega, by go_num, rfl, HY.out, HX.out.2⟩
      case measure => simp [intOf]; omega
    · have hlt : ¬ (i : Int) * 16 < (n : Int) := by omega
      have hnc : (n : Int) ≤ (xc : Int) := by omega
      have RC := hid (rcopy_any xa n xc (exL ks (sb s) n) wr (exL_len _ _ _) (by omega) (by rw [← exL_eq ks (sb s) n i (by omega)]; exact seg_take HR.out.seg n))
      clear hxn hxc
      go_wp2_with fail
      refine RC.out.mono ?_
      rintro e w8 ⟨g, rfl, q8, o8, g8⟩
      have K8 := hid (HQ.out.trans q8)
      have R8 := hid (show Row w8 ⟨some ⟨g, 0, none⟩, n, n⟩ (exL ks (sb s) n) from o8.row (by intro e; cases e))
      clear q8 o8 g8 RC
      go_wp2
      go_ret2
      exact ⟨⟨some ⟨g, 0, none⟩, n, n⟩, rfl, K8.out, R8.out⟩
end Go.Proofs.Ytihmlfpfpadfpaa
