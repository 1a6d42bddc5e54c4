/-
  What prim.Expand does: a contract that the statements' walks use.
-/
import Derived.Test.YtekpepnonhbkcaaExM
namespace Go.Proofs.Ytekpepnonhbkcaa
open Go.RowKit
set_option linter.unusedVariables false
set_option maxRecDepth 20000

/-- The loop's memory: the digest's beginning, what is made so far. -/
structure ExI (w wr : World) (g8 : Nat) (m3 : Mx) (x : Sv) (os : List Int) : Prop where
  q : Q w wr
  m : MBox wr g8 m3
  r : Row wr x os
  n : ∀ b, blk x.a = some b → w.heap.size ≤ b ∧ b ≠ g8
  h : w.heap.size ≤ g8
section
variable {w wr w' : World} {g8 : Nat} {m3 : Mx} {x : Sv} {os : List Int}
theorem ExI.step (h : ExI w wr g8 m3 x os) (k : Q wr w') : ExI w w' g8 m3 x os := ⟨h.q.trans k, h.m.q k, h.r.q k, h.n, h.h⟩
theorem ExI.app (h : ExI w wr g8 m3 x os) {y : Sv} {os' : List Int} (hr : Row w' y os') (k : Keep (fun b => blk x.a = some b) wr w') (hb : blk y.a = blk x.a ∨ blk y.a = some wr.heap.size) : ExI w w' g8 m3 y os' := by
  refine ⟨k.below h.q h.q.size (fun i e => (h.n i e).1), h.m.keep k (fun e => (h.n _ e).2 rfl), hr, fun b e => ?_, h.h⟩
  rcases hb with f | f
  · exact h.n b (by rw [← f]; exact e)
  · rw [f] at e; cases e
    have h1 := h.m.lt; have h3 := h.q.size
    exact ⟨by omega, by omega⟩
end
set_option maxHeartbeats 8000000 in
theorem expand_any (k : Sv) (ks : List Int) (s : ByteArray) (n : Int) (w : World) (hk : In w k ks) (bk : k.n ≤ 140737488355328) (bs : s.size ≤ 9223372036854775807) :
    Calls Try.prog 86 #[.slice k.a k.n k.c, .string s, .int .i64 n] w fun e w' => ∃ x : Sv, e = .returned (.tuple #[.slice x.a x.n x.c, .int .i64 (expE k.n s.size n)]) ∧ Q w w' ∧ Row w' x (expR ks (sb s) n) := by
  have HK := hid hk
  have HR := hid (show expR ks (sb s) n = if expE k.n s.size n = 0 then exL ks (sb s) n.toNat else [] from by unfold expR; rw [hk.l, sb_len])
  clear hk
  obtain ⟨ka, kn, kc⟩ := k
  dsimp only at *
  by_cases h1 : (255 : Int) < (kn : Int)
  · have HE := hid (show expE kn s.size n = 70 from by unfold expE; rw [if_pos (by omega)])
    rw [HE.out] at HR
    rw [HE.out, HR.out, if_neg (by decide)]
    go_enter Try.func86, Try.ntmps86
    go_wp2
    go_ret2
    exact ⟨nilS, rfl, Q.refl _, sub_nil _ _ _⟩
  by_cases h2 : (255 : Int) < (s.size : Int)
  · have HE := hid (show expE kn s.size n = 70 from by unfold expE; rw [if_pos (by omega)])
    rw [HE.out] at HR
    rw [HE.out, HR.out, if_neg (by decide)]
    go_enter Try.func86, Try.ntmps86
    go_wp2
    go_ret2
    exact ⟨nilS, rfl, Q.refl _, sub_nil _ _ _⟩
  by_cases h3 : n < 0
  · have HE := hid (show expE kn s.size n = 52 from by unfold expE; rw [if_neg (by omega), if_pos (by omega)])
    rw [HE.out] at HR
    rw [HE.out, HR.out, if_neg (by decide)]
    go_enter Try.func86, Try.ntmps86
    go_wp2
    go_ret2
    exact ⟨nilS, rfl, Q.refl _, sub_nil _ _ _⟩
  by_cases h4 : 1024 < n
  · have HE := hid (show expE kn s.size n = 52 from by unfold expE; rw [if_neg (by omega), if_pos (by omega)])
    rw [HE.out] at HR
    rw [HE.out, HR.out, if_neg (by decide)]
    go_enter Try.func86, Try.ntmps86
    go_wp2
    go_ret2
    exact ⟨nilS, rfl, Q.refl _, sub_nil _ _ _⟩
  obtain ⟨n, rfl⟩ := Int.eq_ofNat_of_zero_le (show 0 ≤ n by omega)
  have HE := hid (show expE kn s.size n = 0 from by unfold expE; rw [if_neg (by omega), if_neg (by omega)])
  rw [HE.out] at HR
  rw [HE.out, HR.out, if_pos rfl, Int.toNat_natCast]
  have HEB := hid (eb_eq ks (sb s))
  clear HR HE
  go_enter Try.func86, Try.ntmps86
  go_wp2_with fail
  refine (start_any w).mono ?_
  rintro e w2 ⟨rfl, q2⟩
  have Q2 := hid q2
  clear q2
  generalize st0 = m0 at *
  go_wp2_with fail
  refine (sized_any m0 ka kn kc ks w2 HK.out.l (by omega) HK.out.z (HK.out.s.q Q2.out)).mono ?_
  rintro e w3 ⟨rfl, q3⟩
  have Q3 := hid (Q2.out.trans q3)
  clear Q2 q3
  generalize mix m0 (tx ks) = m1 at *
  obtain ⟨lc, w4, hrun, q4, i4⟩ := conv_any s w3
  have Q4 := hid (Q3.out.trans q4)
  have I4 := hid i4
  clear q4 i4 Q3
  go_wp2_with fail
  refine (sized_any m1 (some ⟨w3.heap.size, 0, none⟩) s.size lc (sb s) w4 I4.out.l (by omega) I4.out.z I4.out.s).mono ?_
  rintro e w5 ⟨rfl, q5⟩
  have Q5 := hid (Q4.out.trans q5)
  clear Q4 q5 I4 hrun
  generalize mix m1 (tx (sb s)) = m3 at *
  go_wp2
  have START := hid (show ExI w (w5.alloc (.cells (mcells m3) 114)) w5.heap.size m3 nilS [] from ⟨Q5.out.alloc _, heap_alloc_new w5 _, sub_nil _ _ _, fun b e => (by cases e), Q5.out.size⟩)
  generalize hw6 : World.alloc w5 _ = w6 at *
  clear hw6 Q5
  generalize w5.heap.size = g8 at *
  go_loopw [9, 10] (fun os is wr => ∃ (i : Nat) (x : Sv), 16 * i < n + 16 ∧ is = .int .i64 i ∧ os = .slice x.a x.n x.c ∧ ExI w wr g8 m3 x ((catE ks (sb s) i).take n)) (fun _ is _ => ((n : Int) + 16 - intOf is).toNat)
  case atStart => exact ⟨0, nilS, by omega, rfl, rfl, by rw [show catE ks (sb s) 0 = [] from rfl, List.take_nil]; exact START.out⟩
  case round =>
    clear START
    obtain ⟨i, ⟨xa, xn, xc⟩, hi, rfl, rfl, hI⟩ := hrel
    have hxn : xn = min n (16 * i) := by
      have h1 : ((catE ks (sb s) i).take n).length = xn := Row.len hI.r
      rw [List.length_take, catE_len] at h1; omega
    have HI := hid hI
    clear hI
    by_cases hin : 16 * i < n
    · have hxi : xn = 16 * i := by omega
      have hlt : (xn : Int) < (n : Int) := by omega
      have HXI := hid hxi
      clear hxi hxn
      have c0 := HI.out.m.c0
      have c1 := HI.out.m.c1
      have c2 := HI.out.m.c2
      go_wp2_with fail
      refine (with_one m3 i wr (by omega) (by omega)).mono ?_
      rintro e w7 ⟨rfl, q7⟩
      have HI7 := hid (HI.out.step q7)
      have hbi := HEB.out i
      rw [show (i : Int) % 256 = (i : Int) by omega] at hbi
      have HBI := hid hbi
      clear q7 HI c0 c1 c2 hbi
      generalize mix m3 [(i : Int)] = m4 at *
      go_wp2_with fail
      refine (sum_any m4 w7).mono ?_
      rintro e w8 ⟨rfl, q8⟩
      have HI8 := hid (HI7.out.step q8)
      rw [← HBI.out]
      have HTL := hid (eb_len ks (sb s) i)
      have HST := hid (ex_step ks (sb s) i n hin)
      clear q8 HI7 HBI
      generalize eb ks (sb s) i = ts at *
      go_wp2_with (refine wpList_store_row rfl 63 _ _ rfl w8.heap.size (u8s ts).toArray rfl rfl 63 _ (heap_alloc_new w8 _) (arr_info _ HTL.out) (arr_sizes (List.replicate 16 0) _ rfl HTL.out) (arr_one _) ?_; refine Hid.out ?_)
      refine hid ?_
      generalize hw9 : World.setRow _ _ _ = w9
      have q89 : Q w8 w9 := by
        have k9 : Keep (fun i => i = w8.heap.size) w8 w9 := by rw [← hw9]; exact ((Keep.refl (fun i => i = w8.heap.size) w8).alloc _).setRow _ _ (.inl rfl)
        exact k9.below (Q.refl _) (Nat.le_refl _) (fun i e => by omega)
      have T9 := hid (seg_arr (show w9.heap[w8.heap.size]? = some (.cells (u8s ts).toArray 63 (0, 0)) from by rw [← hw9]; exact setRow_heap _ _ _ _ 63 _ (heap_alloc_new w8 _)))
      have HI9 := hid (HI8.out.step q89)
      clear hw9 q89 HI8
      generalize w8.heap.size = tg at *
      obtain ⟨kk, hkk, hk16, KK⟩ : ∃ kk : Nat, min 16 ((n : Int) - (xn : Int)) = (kk : Int) ∧ kk ≤ 16 ∧ Hid (kk = min 16 (n - 16 * i)) := ⟨min 16 (n - 16 * i), by have := HXI.out; omega, by omega, hid rfl⟩
      have hk16' : (kk : Int) ≤ 16 := by omega
      obtain ⟨⟨ya, yn, yc⟩, w2, hrun, hrow, hkp, hb⟩ := row_append (ty := 24) (d := ⟨xa, xn, xc⟩) (x := .slice (some ⟨tg, 0, none⟩) kk 16) (m := kk) (ys := ts.take kk) HI9.out.r (src_seg (seg_take T9.out kk) (by rw [List.length_take, HTL.out]; omega)) (by have := HXI.out; show xn + kk ≤ 1000000; omega)
      have HX := hid (show ExI w w2 g8 m3 ⟨ya, yn, yc⟩ ((catE ks (sb s) (i + 1)).take n) from HI9.out.app (by rw [HST.out, ← KK.out]; exact hrow) hkp hb)
      clear hrow hkp hb HI9 T9 HST
      go_wp2_with (at_builtin; refine Lib.wpList_append_run _ rfl _ _ _ _ rfl _ _ rfl rfl _ _ hrun ?_)
      go_roundw
      case rel => exact ⟨i + 1, ⟨ya, yn, yc⟩, by omega, by go_num, rfl, HX.out⟩
      case measure => simp [intOf]; omega
    · have hxi : xn = n := by omega
      subst hxi
      have hlt : ¬ (xn : Int) < (xn : Int) := by omega
      have HR := hid (show Row wr ⟨xa, xn, xc⟩ (exL ks (sb s) xn) from by rw [← exL_eq ks (sb s) xn i (by omega)]; exact HI.out.r)
      clear hxn
      go_wp2
      go_ret2
      exact ⟨⟨xa, xn, xc⟩, rfl, HI.out.q, HR.out⟩
end Go.Proofs.Ytekpepnonhbkcaa
