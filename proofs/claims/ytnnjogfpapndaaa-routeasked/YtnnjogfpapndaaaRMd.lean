/-
  What the document's value, mask, Make and Read of layer 13 do: contracts that the statements' walks use.
-/
import Derived.Test.YtnnjogfpapndaaaRMk
import Derived.StillTailTactics
namespace Go.Proofs.Ytnnjogfpapndaaa
open Go.RowKit
set_option linter.unusedVariables false
set_option maxRecDepth 20000

set_option maxHeartbeats 4000000 in
theorem value_any (s : Sv) (zs : List Int) (w : World) (h : In w s zs) (hn : s.n ≤ 7) : Calls Try.prog 32 #[.slice s.a s.n s.c] w fun e w' => e = .returned (.int .i64 (val 0 zs)) ∧ Q w w' := by
  obtain ⟨a, n, c⟩ := s
  dsimp only at *
  have HI := hid h
  have HL := hid h.l
  clear h
  go_enter Try.func32, Try.ntmps32
  go_wp2
  go_loopw [3, 4] (fun r i wr => Q w wr ∧ ∃ j : Nat, j ≤ n ∧ i = .int .i64 j ∧ r = .int .i64 (val 0 (zs.take j))) (fun _ i _ => ((n : Int) - intOf i).toNat)
  case atStart => exact ⟨Q.refl _, 0, Nat.zero_le _, rfl, rfl⟩
  case round =>
    obtain ⟨hq, j, hj, rfl, rfl⟩ := hrel
    have HQ := hid hq
    by_cases hjn : j < n
    · have hne : zs ≠ [] := by intro e; have h1 := HL.out; rw [e] at h1; simp at h1; omega
      obtain ⟨b, off, rfl, hc⟩ := (HI.out.s.q hq) hne
      have hcj := hc j (by rw [HL.out]; exact hjn)
      have hy := HI.out.z (zs.getD j 0) (by rw [List.getD_eq_getElem?_getD, List.getElem?_eq_getElem (by rw [HL.out]; exact hjn)]; exact List.getElem_mem _)
      have HE := hid (show val 0 (zs.take (j + 1)) = val 0 (zs.take j) * 256 + zs.getD j 0 from by
        rw [List.take_add_one, List.getElem?_eq_getElem (by rw [HL.out]; exact hjn), Option.toList_some, val_snoc, List.getD_eq_getElem?_getD, List.getElem?_eq_getElem (by rw [HL.out]; exact hjn)]; rfl)
      have hv := val_bound (zs.take j) 0 (by omega) (fun x hx => HI.out.z x (List.mem_of_mem_take hx))
      have hv0 := hv.1
      have hv1 : val 0 (zs.take j) < 72057594037927936 / 256 := by
        have h2 := hv.2
        rw [List.length_take, HL.out] at h2
        have h3 : (256 : Int) ^ (min j n) ≤ 72057594037927936 / 256 := by
          rcases (show min j n = 0 ∨ min j n = 1 ∨ min j n = 2 ∨ min j n = 3 ∨ min j n = 4 ∨ min j n = 5 ∨ min j n = 6 by omega) with h | h | h | h | h | h | h <;> rw [h] <;> decide
        omega
      clear hc hv hne hq
      generalize zs.getD j 0 = y at *
      generalize val 0 (zs.take j) = V at *
      have hy0 := hy.1
      have hy1 := hy.2
      clear hy
      have hji : (j : Int) < (n : Int) := by omega
      have hj0 : (0 : Int) ≤ (j : Int) := by omega
      go_wp2
      go_roundw
      case rel => exact ⟨HQ.out, j + 1, by omega, by go_num, by rw [HE.out]⟩
      case measure => simp [intOf]; omega
    · obtain rfl : j = n := by omega
      have HT := hid (show zs.take j = zs from List.take_of_length_le (by rw [HL.out]; exact Nat.le_refl _))
      have hji : ¬ (j : Int) < (j : Int) := by omega
      go_wp2
      go_ret
      rw [HT.out]
      exact ⟨rfl, HQ.out⟩
theorem dcel {W : World} {p : Addr} {v : Value} (h : W.cell? p = some v) : W.drew.cell? p = some v := h
theorem dcelN {W : World} {p : Addr} {v : Value} {n : Nat} (h : W.cell? p = some v) : (W.drewN n).cell? p = some v := h
/-- Bytes xor bytes, as far as done. -/
def mkT (zs ms : List Int) (k : Nat) : List Int := xr (zs.take k) (ms.take k) ++ zs.drop k
theorem mkT_len (zs ms : List Int) (k : Nat) (hz : zs.length = 8) (hm : ms.length = 8) (hk : k ≤ 8) : (mkT zs ms k).length = 8 := by
  unfold mkT; rw [List.length_append, xr_len, List.length_take, List.length_take, List.length_drop]; omega
theorem mkT_get (zs ms : List Int) (k : Nat) (hz : zs.length = 8) (hm : ms.length = 8) (hk : k < 8) : (mkT zs ms k)[k]? = some (zs.getD k 0) := by
  have hl : (xr (zs.take k) (ms.take k)).length = k := by rw [xr_len, List.length_take, List.length_take]; omega
  unfold mkT
  rw [List.getElem?_append_right (by omega), hl, Nat.sub_self, List.getElem?_drop, Nat.add_zero, List.getD_eq_getElem?_getD, List.getElem?_eq_getElem (by omega)]
  rfl
theorem mkT_set (zs ms : List Int) (k : Nat) (hz : zs.length = 8) (hm : ms.length = 8) (hk : k < 8) : (mkT zs ms k).set k (bits .xor .u8 (zs.getD k 0) (ms.getD k 0)) = mkT zs ms (k + 1) := by
  have hl : (xr (zs.take k) (ms.take k)).length = k := by rw [xr_len, List.length_take, List.length_take]; omega
  unfold mkT
  rw [List.set_append, hl, if_neg (by omega), Nat.sub_self, take_snoc zs k (by omega), take_snoc ms k (by omega)]
  rw [show xr (zs.take k ++ [zs.getD k 0]) (ms.take k ++ [ms.getD k 0]) = xr (zs.take k) (ms.take k) ++ [bits .xor .u8 (zs.getD k 0) (ms.getD k 0)] from by
    unfold xr; rw [List.zipWith_append (by rw [List.length_take, List.length_take]; omega)]; rfl]
  rw [List.append_assoc, List.drop_eq_getElem_cons (by omega)]
  rfl
set_option maxHeartbeats 4000000 in
theorem mask_any (k d : Sv) (ks zs : List Int) (w : World) (hk : In w k ks) (hd : In w d zs) (hn : k.n = 16) (h8 : d.n = 8) :
    Calls Try.prog 28 #[.slice k.a k.n k.c, .slice d.a d.n d.c] w fun e w' => ∃ x, e = .returned (.slice (some ⟨x, 0, none⟩) 8 8) ∧ Q w w' ∧ Row w' ⟨some ⟨x, 0, none⟩, 8, 8⟩ (xr zs (veL ks)) ∧ w.heap.size ≤ x := by
  obtain ⟨ka, kn, kc⟩ := k
  obtain ⟨da, dn, dc⟩ := d
  dsimp only at hn h8
  subst hn
  subst h8
  have HK := hid hk
  have HD := hid hd
  have HL := hid (show zs.length = 8 from hd.l)
  clear hk hd
  dsimp only at *
  have kcv := Lib.run_convert_bytes_const (P := Try.prog) w 22 5 (u8s cidL).toArray 3 3 Try.underlying22 Try.underlying5
  rw [show (u8s cidL).toArray = #[.int .u8 99, .int .u8 105, .int .u8 100] from rfl] at kcv
  go_enter Try.func28, Try.ntmps28
  go_wp2_with fail
  refine (rdlit2 cidL (3, 4) ⟨ka, 16, kc⟩ ks w cidL_by HK.out (by show 3 + 16 ≤ _; omega)).mono ?_
  rintro e w1 ⟨g, rfl, q1, i1, l1⟩
  have Q1 := hid q1
  have I1 := hid i1
  clear q1 i1 l1 kcv
  go_wp2_with fail
  refine (rcopy_any da 8 dc zs w1 HL.out (by omega) (HD.out.s.q Q1.out)).mono ?_
  rintro e w2 ⟨x, rfl, q2, o2, x2⟩
  have Q2 := hid (Q1.out.trans q2)
  have I2 := hid (I1.out.q q2)
  have HX := hid (Nat.le_trans Q1.out.size x2)
  have R2 := hid (show Row w2 ⟨some ⟨x, 0, none⟩, 8, 8⟩ (mkT zs (veL ks) 0) from by
    have h := o2.row (fun e => by cases e)
    have e : mkT zs (veL ks) 0 = zs := by unfold mkT; simp [xr]
    rw [e]; exact h)
  have hgx := lt_of_cell (row_cellc R2.out (g := x) (off := 0) (j := 0) (x := zs.getD 0 0) rfl (mkT_get zs (veL ks) 0 HL.out (veL_len ks) (by omega))).1
  have hgn : Hid (g ≠ x) := by
    obtain ⟨b, o, e, hc⟩ := I1.out.s (by intro e; have := dg_len (cidL ++ ks); rw [e] at this; cases this)
    cases e
    have := lt_of_cell (hc 0 (by rw [dg_len]; omega))
    exact fun e => by omega
  clear q2 o2 x2 I1 Q1 hgx
  go_wp2
  go_loopw [7] (fun i wr => Q w wr ∧ In wr ⟨some ⟨g, 0, none⟩, 16, 16⟩ (dg (cidL ++ ks)) ∧ ∃ j : Nat, j ≤ 8 ∧ i = .int .i64 j ∧ Row wr ⟨some ⟨x, 0, none⟩, 8, 8⟩ (mkT zs (veL ks) j)) (fun i _ => (8 - intOf i).toNat)
  case atStart => exact ⟨Q2.out, I2.out, 0, Nat.zero_le _, rfl, R2.out⟩
  case round =>
    obtain ⟨hq, hi, j, hj, rfl, hr⟩ := hrel
    have HQ := hid hq
    have HI := hid hi
    have HR := hid hr
    clear hq hi hr
    by_cases hj8 : j < 8
    · have hml := veL_len ks
      have hg1 := mkT_get zs (veL ks) j HL.out hml hj8
      have HS := hid (mkT_set zs (veL ks) j HL.out hml hj8)
      have hc := row_cellc HR.out (g := x) (off := 0) (j := j) rfl hg1
      rw [Nat.zero_add] at hc
      have hc1 := hc.1
      have hc2 := hc.2
      have hm1 : wr.cell? ⟨g, j, none⟩ = some (.int .u8 ((veL ks).getD j 0)) := by
        obtain ⟨b, o, e, hcc⟩ := HI.out.s (by intro e; have := dg_len (cidL ++ ks); rw [e] at this; cases this)
        cases e
        have h := hcc j (by rw [dg_len]; omega)
        rw [Nat.zero_add] at h
        rw [h]
        unfold veL
        simp [List.getD_eq_getElem?_getD, hj8]
      have hzb : 0 ≤ zs.getD j 0 ∧ zs.getD j 0 < 256 := HD.out.z _ (by rw [List.getD_eq_getElem?_getD, List.getElem?_eq_getElem (by rw [HL.out]; exact hj8)]; exact List.getElem_mem _)
      have hmb : 0 ≤ (veL ks).getD j 0 ∧ (veL ks).getD j 0 < 256 := veL_by ks _ (by rw [List.getD_eq_getElem?_getD, List.getElem?_eq_getElem (by rw [hml]; exact hj8)]; exact List.getElem_mem _)
      have k1 : Keep (fun i => i = x) wr (wr.setCell ⟨x, j, none⟩ (.int .u8 (bits .xor .u8 (zs.getD j 0) ((veL ks).getD j 0)))) := (Keep.refl (fun i => i = x) wr).setCell x _ _ (.inl rfl)
      have HK := hid (show Q w (wr.setCell ⟨x, j, none⟩ (.int .u8 (bits .xor .u8 (zs.getD j 0) ((veL ks).getD j 0)))) from k1.below HQ.out HQ.out.size (fun i e => by have := HX.out; omega))
      have HN := hid (show In (wr.setCell ⟨x, j, none⟩ (.int .u8 (bits .xor .u8 (zs.getD j 0) ((veL ks).getD j 0)))) ⟨some ⟨g, 0, none⟩, 16, 16⟩ (dg (cidL ++ ks)) from ⟨HI.out.s.keep k1 (fun b e e2 => by cases e; exact hgn.out e2), HI.out.l, HI.out.z⟩)
      have HT := hid (show Row (wr.setCell ⟨x, j, none⟩ (.int .u8 (bits .xor .u8 (zs.getD j 0) ((veL ks).getD j 0)))) ⟨some ⟨x, 0, none⟩, 8, 8⟩ (mkT zs (veL ks) (j + 1)) from by
        have h := row_setc HR.out (g := x) (off := 0) (j := j) rfl hj8 (bits .xor .u8 (zs.getD j 0) ((veL ks).getD j 0))
        rw [Nat.zero_add, HS.out] at h
        exact h)
      clear hc hg1 HS k1 hml
      generalize zs.getD j 0 = y at *
      generalize (veL ks).getD j 0 = m at *
      have hji : (j : Int) < 8 := by omega
      have hj16 : (j : Int) < 16 := by omega
      have hj0 : (0 : Int) ≤ (j : Int) := by omega
      have hy0 := hzb.1
      have hy1 := hzb.2
      have hm0 := hmb.1
      have hm2 := hmb.2
      clear hzb hmb
      go_wp2
      go_still_tail 10, (by kernel_rfl)
      go_wp2
      go_roundw
      case rel => exact ⟨HK.out.drew, HN.out.q ((Q.refl _).drew), j + 1, by omega, by go_num, HT.out.q ((Q.refl _).drew)⟩
      case measure => simp [intOf]; omega
    · obtain rfl : j = 8 := by omega
      go_wp2
      go_ret
      refine ⟨x, rfl, HQ.out, ?_, HX.out⟩
      have h := HR.out
      unfold mkT at h
      rw [List.take_of_length_le (by rw [HL.out]; exact Nat.le_refl _), List.take_of_length_le (by rw [veL_len]; exact Nat.le_refl _), List.drop_of_length_le (by rw [HL.out]; exact Nat.le_refl _), List.append_nil] at h
      exact h
end Go.Proofs.Ytnnjogfpapndaaa
