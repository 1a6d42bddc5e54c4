/-
  What prim.overlay does: a contract that the statements' walks use.
-/
import Derived.Test.YtnnjogfpapndaaaOvl
namespace Go.Proofs.Ytnnjogfpapndaaa
open Go.RowKit
set_option linter.unusedVariables false
set_option maxRecDepth 20000

/-- The loop's memory: the digest's beginning, the block, what is made so far. -/
structure OvI (w wr : World) (g7 g9 : Nat) (m3 : Mx) (bl : List Int) (x : Sv) (os : List Int) : Prop where
  q : Q w wr
  m : MBox wr g7 m3
  b : wr.heap[g9]? = some (.cells (u8s bl).toArray 90 (0, 0))
  bl : bl.length = 16
  r : Row wr x os
  n : ∀ b, blk x.a = some b → w.heap.size ≤ b ∧ b ≠ g7 ∧ b ≠ g9
  h7 : w.heap.size ≤ g7
  h9 : w.heap.size ≤ g9
  ne : g7 ≠ g9
section
variable {w wr w' : World} {g7 g9 : Nat} {m3 : Mx} {bl : List Int} {x : Sv} {os : List Int}
theorem OvI.step (h : OvI w wr g7 g9 m3 bl x os) (k : Q wr w') : OvI w w' g7 g9 m3 bl x os :=
  ⟨h.q.trans k, h.m.q k, (Below.block k _ (lt_of_block h.b)).trans h.b, h.bl, h.r.q k, h.n, h.h7, h.h9, h.ne⟩
theorem OvI.block (h : OvI w wr g7 g9 m3 bl x os) (b' : List Int) (hb : b'.length = 16) : OvI w (wr.setRow g9 (u8s b').toArray) g7 g9 m3 b' x os := by
  have k : Keep (fun i => i = g9) wr (wr.setRow g9 (u8s b').toArray) := (Keep.refl _ wr).setRow _ _ (.inl rfl)
  exact ⟨k.below h.q h.q.size (fun i e => by subst e; exact h.h9), h.m.keep k h.ne, setRow_heap _ _ _ _ 90 _ h.b, hb, h.r.keep k (fun b e f => (h.n b e).2.2 f), h.n, h.h7, h.h9, h.ne⟩
theorem OvI.app (h : OvI w wr g7 g9 m3 bl x os) {y : Sv} {os' : List Int} (hr : Row w' y os') (k : Keep (fun b => blk x.a = some b) wr w') (hb : ∀ b, blk y.a = some b → blk x.a = some b ∨ wr.heap.size ≤ b) : OvI w w' g7 g9 m3 bl y os' := by
  refine ⟨k.below h.q h.q.size (fun i e => (h.n i e).1), h.m.keep k (fun e => (h.n _ e).2.1 rfl), (k.block _ (lt_of_block h.b) (fun e => (h.n _ e).2.2 rfl)).trans h.b, h.bl, hr, fun b e => ?_, h.h7, h.h9, h.ne⟩
  rcases hb b e with e | e
  · exact h.n b e
  · have h1 := h.m.lt; have h2 := lt_of_block h.b; have h3 := h.q.size
    exact ⟨by omega, by omega, by omega⟩
theorem OvI.cell (h : OvI w wr g7 g9 m3 bl x os) (j : Nat) (hj : j < 16) : wr.cell? ⟨g9, j, none⟩ = some (.int .u8 (bl.getD j 0)) := by
  rw [cell_of_row wr g9 j _ 90 (0, 0) h.b]
  have := h.bl
  simp [List.getD_eq_getElem?_getD, this, hj]
end
theorem blkS_eq (ks ns : List Int) (j : Nat) : blkS ks ns j = sumL (mix (mix (mix (mix st0 [1]) (tx ks)) (tx ns)) (wrd j)) := by
  simp only [mix_append, blkS, dg, pre]; simp
set_option maxHeartbeats 8000000 in
theorem overlay_any (k n d : Sv) (ks ns ds : List Int) (w : World) (hk : In w k ks) (hn : In w n ns) (hd : In w d ds) (bk : k.n ≤ 255) (bn : n.n ≤ 255) (bd : d.n ≤ 16384) :
    Calls Try.prog 53 #[.slice k.a k.n k.c, .slice n.a n.n n.c, .slice d.a d.n d.c] w fun e w' => ∃ x : Sv, e = .returned (.slice x.a x.n x.c) ∧ Q w w' ∧ Row w' x (ovl ks ns ds) ∧ New w.heap.size x := by
  obtain ⟨i0, hi, hz0, hz1, hz2⟩ := info_parts info5
  obtain ⟨ka, kn, kc⟩ := k
  obtain ⟨na, nn, nc⟩ := n
  obtain ⟨da, dn, dc⟩ := d
  dsimp only at *
  have HK := hid hk
  have HN := hid hn
  have HD := hid hd
  have HBK := hid (blkS_eq ks ns)
  clear hk hn hd
  go_enter Try.func53, Try.ntmps53
  go_wp2_with fail
  refine (start_any w).mono ?_
  rintro e w2 ⟨rfl, q2⟩
  have Q2 := hid q2
  clear q2
  generalize st0 = m0 at *
  go_wp2_with fail
  refine (with_one m0 1 w2 (by omega) (by omega)).mono ?_
  rintro e w3 ⟨rfl, q3⟩
  have Q3 := hid (Q2.out.trans q3)
  clear Q2 q3
  generalize mix m0 [1] = m1 at *
  go_wp2_with fail
  refine (sized_any m1 ka kn kc ks w3 HK.out.l (by omega) HK.out.z (HK.out.s.q Q3.out)).mono ?_
  rintro e w4 ⟨rfl, q4⟩
  have Q4 := hid (Q3.out.trans q4)
  clear Q3 q4
  generalize mix m1 (tx ks) = m2 at *
  go_wp2_with fail
  refine (sized_any m2 na nn nc ns w4 HN.out.l (by omega) HN.out.z (HN.out.s.q Q4.out)).mono ?_
  rintro e w5 ⟨rfl, q5⟩
  have Q5 := hid (Q4.out.trans q5)
  clear Q4 q5
  generalize mix m2 (tx ns) = m3 at *
  go_wp2_with (at_make; refine wpList_make_own _ rfl _ _ 22 rfl w.heap.size 5 i0 (.int .u8 0) 1 Try.underlying22 hi hz0 hz1 .i64 .i64 _ dn rfl rfl rfl (by rw [hz2]; omega) (by unfold maxLen; omega) (by have := Q5.out.size; simp; omega) ?_; intro w6 hown hgr)
  have hs5 : (w5.alloc (.cells (mcells m3) 109)).heap.size = w5.heap.size + 1 := by simp
  have q56 : Q w5 w6 := ((Q.refl w5).alloc _).grown hgr
  generalize hW7 : World.alloc w6 _ = w7
  have START := hid (show OvI w w7 w5.heap.size w6.heap.size m3 (List.replicate 16 0) ⟨some ⟨w5.heap.size + 1, 0, none⟩, 0, dn⟩ [] from by
    rw [← hW7]
    have q6 : Q (w5.alloc (.cells (mcells m3) 109)) w6 := (Q.refl _).grown hgr
    have hsz := q6.size
    rw [hs5] at hsz
    have h5 := Q5.out.size
    have m6 : MBox w6 w5.heap.size m3 := MBox.q (show MBox (w5.alloc (.cells (mcells m3) 109)) w5.heap.size m3 from heap_alloc_new w5 _) q6
    have r6 : Row w6 ⟨some ⟨w5.heap.size + 1, 0, none⟩, 0, dn⟩ [] := by
      have : Own w6 w.heap.size (some ⟨w5.heap.size + 1, 0, none⟩) 0 dn [] := by rw [← hs5]; exact hown
      exact this.row (by intro e; cases e)
    have l6 := r6.lt (w5.heap.size + 1) rfl
    have qa : Q w6 (w6.alloc (.cells z16 90)) := (Q.refl w6).alloc _
    exact ⟨(Q5.out.trans q56).trans qa, m6.q qa, heap_alloc_new w6 _, rfl, r6.q qa, fun b e => by simp only [blk, Option.map_some, Option.some.injEq] at e; subst e; exact ⟨by omega, by omega, by omega⟩, h5, by omega, by omega⟩)
  clear hW7 hown hgr q56 hs5 Q5
  generalize w5.heap.size + 1 = ob at *
  generalize w5.heap.size = g7 at *
  generalize w6.heap.size = g9 at *
  go_loopw [8, 24] (fun os is wr => ∃ (i : Nat) (x : Sv) (bl : List Int), i ≤ dn ∧ is = .int .i64 i ∧ os = .slice x.a x.n x.c ∧ OvI w wr g7 g9 m3 bl x ((ovl ks ns ds).take i) ∧ (i % 16 ≠ 0 → bl = blkS ks ns (i / 16))) (fun _ is _ => ((dn : Int) - intOf is).toNat)
  case atStart => exact ⟨0, ⟨some ⟨ob, 0, none⟩, 0, dn⟩, List.replicate 16 0, Nat.zero_le _, rfl, rfl, START.out, fun h => absurd rfl h⟩
  case round =>
    clear START
    obtain ⟨i, ⟨xa, xn, xc⟩, bl, hi1, rfl, rfl, hI, hbl⟩ := hrel
    have HI := hid hI
    have HBL0 := hid hbl
    clear hI hbl
    by_cases hin : i < dn
    · have hin' : (i : Int) < (dn : Int) := by omega
      obtain ⟨p, o, rfl, hc⟩ := HD.out.s (by intro e; have := HD.out.l; simp [e] at this; omega)
      have hlk : i < ds.length := by rw [HD.out.l]; exact hin
      have hck := hc i hlk
      rw [← HI.out.q.cell (lt_of_cell hck)] at hck
      obtain ⟨r, hr, hr1, KR⟩ : ∃ r : Nat, (i : Int) % 16 = (r : Int) ∧ r < 16 ∧ Hid (r = i % 16) := ⟨i % 16, by omega, by omega, hid rfl⟩
      obtain ⟨dd, hdd, KD⟩ : ∃ r : Nat, (i : Int) / 16 = (r : Int) ∧ Hid (r = i / 16) := ⟨i / 16, by omega, hid rfl⟩
      clear hc hlk
      generalize hdx : ds.getD i 0 = dx at *
      have KX := hid hdx
      clear hdx
      by_cases h0 : r = 0
      · subst h0
        have hr0 : (i : Int) % 16 = 0 := hr
        clear hr
        have c0 := HI.out.m.c0
        have c1 := HI.out.m.c1
        have c2 := HI.out.m.c2
        go_wp2_with fail
        refine (number_any m3 dd wr).mono ?_
        rintro e w10 ⟨rfl, q10⟩
        have HI10 := hid (HI.out.step q10)
        clear q10 c0 c1 c2 HI
        have HBD := hid (HBK.out dd)
        generalize mix m3 (wrd dd) = m4 at *
        go_wp2_with fail
        refine (sum_any m4 w10).mono ?_
        rintro e w11 ⟨rfl, q11⟩
        have HI11 := hid (HI10.out.step q11)
        rw [← HBD.out]
        clear q11 HI10 HBD
        obtain ⟨bl', hbl'⟩ : ∃ b, b = blkS ks ns dd := ⟨_, rfl⟩
        rw [← hbl']
        have HBL' := hid hbl'
        have hbl16 : bl'.length = 16 := by rw [hbl']; exact blkS_len _ _ _
        clear hbl'
        go_wp2_with (refine wpList_store_row rfl 90 _ _ rfl g9 (u8s bl').toArray rfl rfl 90 _ HI11.out.b (arr_info _ hbl16) (arr_sizes _ _ HI11.out.bl hbl16) (arr_one _) ?_; refine Hid.out ?_)
        refine hid ?_
        have HI := hid (HI11.out.block bl' hbl16)
        clear HI11 hbl16 HBL0
        generalize World.setRow w11 g9 (u8s bl').toArray = wx at *
        have HBL := HBL'
        clear HBL'
        have hcb := HI.out.cell 0 (by omega)
        have hdl : ds.length = dn := HD.out.l
        have hxl : ((ovl ks ns ds).take i).length = xn := Row.len HI.out.r
        rw [List.length_take] at hxl
        have hsn := ovl_snoc ks ns ds i (by omega)
        rw [KX.out] at hsn
        have HSn := hid hsn
        clear hsn
        have hBL := HBL.out
        rw [show bl'.getD 0 0 = strm ks ns i from by rw [hBL, KR.out, KD.out]; rfl] at hcb
        generalize strm ks ns i = sv at *
        obtain ⟨⟨ya, yn, yc⟩, w9, hrun, hrow, hkp, hbb⟩ := row_one (w := wx) (d := ⟨xa, xn, xc⟩) (bits .xor .u8 dx sv) HI.out.r (by show xn ≤ 1099511627776; omega)
        have HX := hid (show OvI w w9 g7 g9 m3 bl' ⟨ya, yn, yc⟩ ((ovl ks ns ds).take (i + 1)) from HI.out.app (by rw [HSn.out]; exact hrow) hkp hbb)
        clear hxl hdl hkp hrow hbb hBL HSn
        have hrun' : (Builtin.append_ #[22, 22] 22 #[.slice xa xn xc, .slice (some ⟨wx.heap.size, 0, none⟩) 1 1]).run Try.prog (wx.alloc (.cells #[.int .u8 (bits .xor .u8 dx sv)] 5)) = .ok (.slice ya yn yc) w9 := hrun
        clear hrun
        go_wp2_with (at_builtin; refine Lib.wpList_append_run _ rfl _ _ _ _ rfl _ _ rfl rfl _ _ hrun' ?_)
        go_roundw
        case rel => exact ⟨i + 1, ⟨ya, yn, yc⟩, bl', by omega, by go_num, rfl, HX.out, fun h => by have := KD.out; have := KR.out; rw [HBL.out, KD.out]; congr 1; omega⟩
        case measure => simp [intOf]; omega
      · have hr0 : ((r : Int) == 0) = false := by simp; omega
        have hr0' : ((r : Int) = 0) = False := by simp; omega
        have HBL := hid (show bl = blkS ks ns dd from by rw [KD.out]; exact HBL0.out (by have := KR.out; omega))
        have hcb := HI.out.cell r hr1
        have hdl : ds.length = dn := HD.out.l
        have hxl : ((ovl ks ns ds).take i).length = xn := Row.len HI.out.r
        rw [List.length_take] at hxl
        have hsn := ovl_snoc ks ns ds i (by omega)
        rw [KX.out] at hsn
        have HSn := hid hsn
        clear hsn
        have hBL := HBL.out
        rw [show bl.getD r 0 = strm ks ns i from by rw [hBL, KR.out, KD.out]; rfl] at hcb
        generalize strm ks ns i = sv at *
        obtain ⟨⟨ya, yn, yc⟩, w9, hrun, hrow, hkp, hbb⟩ := row_one (w := wr) (d := ⟨xa, xn, xc⟩) (bits .xor .u8 dx sv) HI.out.r (by show xn ≤ 1099511627776; omega)
        have HX := hid (show OvI w w9 g7 g9 m3 bl ⟨ya, yn, yc⟩ ((ovl ks ns ds).take (i + 1)) from HI.out.app (by rw [HSn.out]; exact hrow) hkp hbb)
        clear hxl hdl hkp hrow hbb hBL HSn
        have hrun' : (Builtin.append_ #[22, 22] 22 #[.slice xa xn xc, .slice (some ⟨wr.heap.size, 0, none⟩) 1 1]).run Try.prog (wr.alloc (.cells #[.int .u8 (bits .xor .u8 dx sv)] 5)) = .ok (.slice ya yn yc) w9 := hrun
        clear hrun
        go_wp2_with (at_builtin; refine Lib.wpList_append_run _ rfl _ _ _ _ rfl _ _ rfl rfl _ _ hrun' ?_)
        go_roundw
        case rel => exact ⟨i + 1, ⟨ya, yn, yc⟩, bl, by omega, by go_num, rfl, HX.out, fun h => by have := KD.out; have := KR.out; rw [HBL.out, KD.out]; congr 1; omega⟩
        case measure => simp [intOf]; omega
    · obtain rfl : i = dn := by omega
      have hin' : ¬ (i : Int) < (i : Int) := by omega
      have HR := hid (show Row wr ⟨xa, xn, xc⟩ (ovl ks ns ds) from by
        have := HI.out.r
        rw [List.take_of_length_le (by rw [ovl_len, HD.out.l]; exact Nat.le_refl _)] at this
        exact this)
      go_wp2
      go_ret
      exact ⟨⟨xa, xn, xc⟩, rfl, HI.out.q, HR.out, fun b e => (HI.out.n b e).1⟩
end Go.Proofs.Ytnnjogfpapndaaa
