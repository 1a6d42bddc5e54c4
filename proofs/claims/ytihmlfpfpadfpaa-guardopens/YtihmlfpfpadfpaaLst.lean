/-
  What slices.Clone, guard's lastBytes and overlay do: contracts that the statements' walks use.
-/
import Derived.Test.YtihmlfpfpadfpaaRSeal
import Derived.Test.YtihmlfpfpadfpaaGdM
namespace Go.Proofs.Ytihmlfpfpadfpaa
open Go.RowKit
set_option linter.unusedVariables false
set_option maxRecDepth 20000

theorem row_setc {w : World} {d : Sv} {zs : List Int} (h : Row w d zs) {g off j : Nat} (ha : d.a = some ⟨g, off, none⟩) (hj : j < d.n) (v : Int) : Row (w.setCell ⟨g, off + j, none⟩ (.int .u8 v)) d (zs.set j v) := by
  have := Sub.set h (g := g) (off := off) (j := j) ha (by show j < d.n * 1; omega) (.int .u8 v)
  rw [set_u8s] at this
  exact this
theorem row_cellc {w : World} {d : Sv} {zs : List Int} (h : Row w d zs) {g off j : Nat} (ha : d.a = some ⟨g, off, none⟩) {x : Int} (hx : zs[j]? = some x) : w.cell? ⟨g, off + j, none⟩ = some (.int .u8 x) ∧ w.frozen? ⟨g, off + j, none⟩ = false := by
  have hn : 0 < d.n := by
    have h1 : zs.length = d.n := Row.len h
    have h2 : j < zs.length := by
      rcases Nat.lt_or_ge j zs.length with hh | hh
      · exact hh
      · rw [List.getElem?_eq_none hh] at hx; cases hx
    omega
  obtain ⟨g', off', e, hf, hc⟩ := Sub.some_ h hn
  rw [ha] at e
  cases e
  exact ⟨hc j (.int .u8 x) (by rw [List.getElem?_map, hx]; rfl), hf (off + j)⟩
theorem row_addr {w : World} {d : Sv} {zs : List Int} (h : Row w d zs) (hn : 0 < d.n) : ∃ g off, d.a = some ⟨g, off, none⟩ := by
  obtain ⟨g, off, e, _, _⟩ := Sub.some_ h hn
  exact ⟨g, off, e⟩
theorem seg_none {w : World} {zs : List Int} (h : Seg w none zs) : zs = [] := by
  by_cases hz : zs = []
  · exact hz
  · obtain ⟨b, o, e, _⟩ := h hz
    cases e
theorem eq_nil (n c : Nat) (w : World) : (binOp .eql 22 (.slice none n c) (.slice none 0 0)).run Try.prog w = .ok (.bool true) w := by kernel_rfl
theorem eq_some (ad : Addr) (n c : Nat) (w : World) : (binOp .eql 22 (.slice (some ad) n c) (.slice none 0 0)).run Try.prog w = .ok (.bool false) w := by kernel_rfl
attribute [local go_sem] eq_nil eq_some
set_option maxHeartbeats 4000000 in
theorem clone_any (x : Sv) (zs : List Int) (w : World) (hx : In w x zs) (bx : x.n ≤ 900000) :
    Calls Try.prog 57 #[.slice x.a x.n x.c] w fun e w' => ∃ y : Sv, e = .returned (.slice y.a y.n y.c) ∧ Q w w' ∧ Row w' y zs ∧ New w.heap.size y := by
  obtain ⟨xa, xn, xc⟩ := x
  have HX := hid hx
  have HL := hid (show zs.length = xn from hx.l)
  dsimp only at *
  clear hx
  cases xa with
  | none =>
    have hz := seg_none HX.out.s
    subst hz
    go_enter Try.func57, Try.ntmps57
    go_wp2
    go_ret
    exact ⟨nilS, rfl, Q.refl _, sub_nil _ _ _, new_nil _⟩
  | some ad =>
    go_enter Try.func57, Try.ntmps57
    obtain ⟨⟨ya, yn, yc⟩, w2, hrun, hrow, hkp, hb⟩ := row_append (ty := 22) (x := .slice (some ad) xn xc) (m := xn) (ys := zs) (row_empty w) (src_seg (HX.out.s.q ((Q.refl w).alloc _)) HL.out) (by show 0 + xn ≤ 1000000; omega)
    have HK := hid hkp
    have HB := hid hb
    have HR := hid hrow
    clear hkp hb hrow
    dsimp only at hrun
    go_wp2_with (at_builtin; refine Lib.wpList_append_run _ rfl _ _ _ _ rfl _ _ rfl rfl _ _ hrun ?_)
    go_ret
    refine ⟨⟨ya, yn, yc⟩, rfl, ?_, HR.out, ?_⟩
    · exact HK.out.below ((Q.refl w).alloc _) (by simp) (fun i e => by simp [blk] at e; omega)
    · intro b e
      rcases HB.out with h | h
      · rw [h] at e; simp [blk] at e; omega
      · rw [h] at e; simp at e; omega
/-- Bytes of a number, as far as written. -/
def lsT (wd : Nat) (num : Int) (i : Nat) : List Int := (be wd num).take i ++ List.replicate (wd - i) 0
theorem lsT_len (wd : Nat) (num : Int) (i : Nat) (h : i ≤ wd) : (lsT wd num i).length = wd := by
  unfold lsT; rw [List.length_append, List.length_take, be_length, List.length_replicate]; omega
theorem be_at (num : Int) : ∀ (wd i : Nat), i < wd → (be wd num)[i]? = some (num / 256 ^ (wd - 1 - i) % 256)
  | 0, i, h => by omega
  | wd + 1, 0, _ => by simp [be]
  | wd + 1, i + 1, h => by
    rw [be, List.getElem?_cons_succ, be_at num wd i (by omega)]
    rw [show wd + 1 - 1 - (i + 1) = wd - 1 - i by omega]
theorem lsT_set (wd : Nat) (num : Int) (i : Nat) (h : i < wd) : (lsT wd num i).set i (num / 256 ^ (wd - 1 - i) % 256) = lsT wd num (i + 1) := by
  have hl : ((be wd num).take i).length = i := by rw [List.length_take, be_length]; omega
  unfold lsT
  rw [List.set_append, if_neg (by omega), hl, Nat.sub_self, show wd - i = (wd - (i + 1)) + 1 by omega, List.replicate_succ, List.set_cons_zero, List.take_add_one, be_at num wd i h, Option.toList_some, List.append_assoc]
  rfl
theorem lsT_all (wd : Nat) (num : Int) : lsT wd num wd = be wd num := by
  unfold lsT; rw [Nat.sub_self, List.take_of_length_le (by rw [be_length]; exact Nat.le_refl _)]; simp
theorem pow_8 (k : Nat) : (2 : Int) ^ (8 * k) = 256 ^ k := by rw [Int.pow_mul]; rfl
set_option maxHeartbeats 4000000 in
theorem last_any (num : Int) (wd : Nat) (w : World) (hw : wd ≤ 8) (h0 : -9223372036854775808 ≤ num) (h1 : num ≤ 9223372036854775807) :
    Calls Try.prog 38 #[.int .i64 num, .int .i64 wd] w fun e w' => ∃ g, e = .returned (.slice (some ⟨g, 0, none⟩) wd wd) ∧ Q w w' ∧ Row w' ⟨some ⟨g, 0, none⟩, wd, wd⟩ (be wd num) ∧ w.heap.size ≤ g := by
  obtain ⟨i0, hi, hz0, hz1, hz2⟩ := info_parts info5
  go_enter Try.func38, Try.ntmps38
  go_wp2_with (at_make; refine wpList_make_full _ rfl _ _ 22 rfl w.heap.size 5 i0 (.int .u8 0) 1 Try.underlying22 hi hz0 hz1 .i64 .i64 _ _ wd rfl rfl rfl rfl (by rw [hz2]; omega) (by unfold maxLen; omega) (Nat.le_refl _) ?_; intro w1 hown hgr)
  rw [made_zero] at hown
  have HO := hid (show Own w1 w.heap.size (some ⟨w.heap.size, 0, none⟩) wd wd (List.replicate wd 0) from hown)
  have HQ := hid (show Q w w1 from (Q.refl w).grown hgr)
  clear hown hgr hi hz0 hz1 hz2
  have T1 := hid (show TI w w1 w.heap.size wd (lsT wd num 0) from ⟨HQ.out, by rw [show lsT wd num 0 = List.replicate wd 0 from by simp [lsT]]; exact HO.out.row (by intro e; cases e), Nat.le_refl _⟩)
  clear HO HQ
  generalize w.heap.size = g at *
  go_wp2
  go_loopw [11] (fun is wr => ∃ i : Nat, i ≤ wd ∧ is = .int .i64 i ∧ TI w wr g wd (lsT wd num i)) (fun is _ => ((wd : Int) - intOf is).toNat)
  case atStart => exact ⟨0, Nat.zero_le _, rfl, T1.out⟩
  case round =>
    clear T1
    obtain ⟨i, hi, rfl, hT⟩ := hrel
    have HT := hid hT
    clear hT
    by_cases hin : i < wd
    · have hin' : (i : Int) < (wd : Int) := by omega
      obtain ⟨k, hk, KK⟩ : ∃ k : Nat, (wd : Int) - 1 - (i : Int) = (k : Int) ∧ Hid (k = wd - 1 - i) := ⟨wd - 1 - i, by omega, hid rfl⟩
      have hk8 : k ≤ 8 := by omega
      obtain ⟨s, hm, KS⟩ : ∃ s : Nat, 8 * (k : Int) = (s : Int) ∧ Hid (s = 8 * k) := ⟨8 * k, by omega, hid rfl⟩
      have hs64 : (s : Int) ≤ 64 := by have := KS.out; omega
      have hs := row_cell HT.out.r (j := i) (x := (lsT wd num i).getD i 0) (by rw [List.getD_eq_getElem?_getD, List.getElem?_eq_getElem (by rw [lsT_len _ _ _ hi]; exact hin)]; rfl)
      obtain ⟨hs1, hs2⟩ := hs
      generalize (lsT wd num i).getD i 0 = old at *
      have HSE := hid (lsT_set wd num i hin)
      have HV := hid (show num / 256 ^ (wd - 1 - i) % 256 = num / 2 ^ s % 256 from by rw [KS.out, pow_8, KK.out])
      go_wp2
      refine ⟨⟨i + 1, by omega, by go_num, ?_⟩, by simp [intOf]; omega⟩
      rw [← HSE.out, HV.out]
      exact HT.out.set hin _
    · obtain rfl : i = wd := by omega
      have hin' : ¬ (i : Int) < (i : Int) := by omega
      rw [lsT_all] at HT
      go_wp2
      go_ret
      exact ⟨g, rfl, HT.out.q, HT.out.r, HT.out.h⟩
/-- Overlay: of a row of the caller's, at a place. -/
structure OI (w wr : World) (d : Sv) (g : Nat) (zs : List Int) : Prop where
  k : Keep (fun i => i = g) w wr
  r : Row wr d zs
theorem OI.set {w wr : World} {d : Sv} {g off : Nat} {zs : List Int} (h : OI w wr d g zs) (ha : d.a = some ⟨g, off, none⟩) {j : Nat} (hj : j < d.n) (v : Int) : OI w (wr.setCell ⟨g, off + j, none⟩ (.int .u8 v)) d g (zs.set j v) :=
  ⟨h.k.setCell _ _ _ (.inl rfl), row_setc h.r ha hj v⟩
theorem OI.drewN {w wr : World} {d : Sv} {g : Nat} {zs : List Int} (h : OI w wr d g zs) (k : Nat) : OI w (wr.drewN k) d g zs := ⟨h.k.drewN k, h.r.q ((Q.refl wr).drewN k)⟩
set_option maxHeartbeats 8000000 in
theorem over_any (d m : Sv) (g off o k c : Nat) (zs ms : List Int) (w : World) (ha : d.a = some ⟨g, off, none⟩) (hr : Row w d zs) (hk : o + k ≤ d.n) (hm : Seg w m.a ms) (lm : ms.length = m.n) (hkm : k ≤ m.n) (hne : ∀ b, blk m.a = some b → b ≠ g) (bk : k ≤ 1000000) :
    Calls Try.prog 43 #[.slice (some ⟨g, off + o, none⟩) k c, .slice m.a m.n m.c] w fun e w' => e = .returned (.tuple #[]) ∧ Keep (fun i => i = g) w w' ∧ Row w' d (ovA zs o ms k) := by
  have HR := hid hr
  have HA := hid ha
  have HM := hid hm
  have LM := hid lm
  have HNE := hid hne
  have HK := hid hk
  have HKM := hid hkm
  have T1 := hid (show OI w w d g (ovA zs o ms 0) from ⟨Keep.refl _ _, by rw [ovA_zero]; exact hr⟩)
  have LZ := hid (Row.len hr)
  clear hr ha hm lm hne hk hkm
  obtain ⟨ma, mn, mc⟩ := m
  dsimp only at *
  go_enter Try.func43, Try.ntmps43
  go_wp2
  go_loopw [7] (fun is wr => ∃ i : Nat, i ≤ k ∧ is = .int .i64 i ∧ OI w wr d g (ovA zs o ms i)) (fun is _ => ((k : Int) - intOf is).toNat)
  case atStart => exact ⟨0, Nat.zero_le _, rfl, T1.out⟩
  case round =>
    clear T1
    obtain ⟨i, hi, rfl, hT⟩ := hrel
    have HT := hid hT
    clear hT
    by_cases hin : i < k
    · have hin' : (i : Int) < (k : Int) := by omega
      have hoi : o + i < zs.length := by have := HK.out; have := LZ.out; omega
      obtain ⟨hx1, hx2⟩ := row_cellc HT.out.r HA.out (ovA_at zs o ms i (o + i) hoi (by omega))
      have hmm : i < ms.length := by have := HKM.out; have := LM.out; omega
      have hmn : (i : Int) < (mn : Int) := by have := HKM.out; omega
      obtain ⟨mb, mo, rfl, hmc⟩ := HM.out (by intro e; rw [e] at hmm; simp at hmm)
      have hy := hmc i hmm
      have hy' := HT.out.k.cell hy (HNE.out mb rfl)
      have HSE := hid (ovA_set zs o ms i hoi)
      have HJ := hid (show o + i < d.n from by have := HK.out; omega)
      rw [← Nat.add_assoc] at hx1 hx2
      clear hy hmc
      generalize zs.getD (o + i) 0 = xx at *
      generalize ms.getD i 0 = yy at *
      have HW := hid (show ∀ wx, OI w wx d g (ovA zs o ms i) → OI w (wx.setCell ⟨g, off + o + i, none⟩ (.int .u8 (bits .xor .u8 xx yy))) d g (ovA zs o ms (i + 1)) from fun wx h => by
        rw [← HSE.out, Nat.add_assoc]; exact h.set HA.out HJ.out _)
      go_wp2
      go_region
      all_goals (
        go_wp2
        go_roundw
        case rel =>
          refine ⟨i + 1, by omega, by go_num, ?_⟩
          first
            | exact HW.out _ (HT.out.drewN _)
            | exact (HW.out _ HT.out).drewN _
            | exact HW.out _ HT.out
        case measure => simp [intOf]; omega)
    · obtain rfl : i = k := by omega
      have hin' : ¬ (i : Int) < (i : Int) := by omega
      go_wp2
      go_end0
      exact ⟨rfl, HT.out.k, HT.out.r⟩
end Go.Proofs.Ytihmlfpfpadfpaa
