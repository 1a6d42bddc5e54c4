/-
  What the document's own turn does: a contract that the statements' walks use.
-/
import Derived.Test.YtihmlfpfpadfpaaRTag
import Derived.BigRegion
namespace Go.Proofs.Ytihmlfpfpadfpaa
open Go.RowKit
set_option linter.unusedVariables false
set_option maxRecDepth 20000

/-- The bytes of which the first m are turned. -/
def ovT (k n zs : List Int) (m : Nat) : List Int := (ovl k n zs).take m ++ zs.drop m
theorem ovT_len (k n zs : List Int) (m : Nat) (h : m ≤ zs.length) : (ovT k n zs m).length = zs.length := by
  unfold ovT; rw [List.length_append, List.length_take, ovl_len, List.length_drop]; omega
theorem ovT_zero (k n zs : List Int) : ovT k n zs 0 = zs := by unfold ovT; simp
theorem ovT_all (k n zs : List Int) : ovT k n zs zs.length = ovl k n zs := by
  unfold ovT; rw [List.take_of_length_le (by rw [ovl_len]; exact Nat.le_refl _), List.drop_length, List.append_nil]
theorem ovT_get (k n zs : List Int) (m : Nat) (h : m < zs.length) : (ovT k n zs m)[m]? = some (zs.getD m 0) := by
  unfold ovT
  rw [List.getElem?_append_right (by rw [List.length_take, ovl_len]; omega), List.length_take, ovl_len, Nat.min_eq_left (by omega), Nat.sub_self, List.getElem?_drop, Nat.add_zero, List.getD_eq_getElem?_getD, List.getElem?_eq_getElem h]; rfl
theorem ovT_set (k n zs : List Int) (m : Nat) (h : m < zs.length) : (ovT k n zs m).set m (bits .xor .u8 (zs.getD m 0) (strm k n m)) = ovT k n zs (m + 1) := by
  unfold ovT
  rw [List.set_append_right _ _ (by rw [List.length_take, ovl_len]; omega), List.length_take, ovl_len, Nat.min_eq_left (by omega), Nat.sub_self, ovl_snoc k n zs m h, List.append_assoc]
  congr 1
  rw [List.drop_eq_getElem_cons h, List.set_cons_zero]
  rfl
/-- How far: at the head of round i. -/
def far (n i : Nat) : Nat := min n (16 * ((i + 15) / 16))
theorem far_le (n i : Nat) : far n i ≤ n := Nat.min_le_left _ _
theorem set_u8s (zs : List Int) (j : Nat) (v : Int) : (u8s zs).set j (.int .u8 v) = u8s (zs.set j v) := by
  simp [List.map_set]
theorem row_set {w : World} {g n : Nat} {zs : List Int} (h : Row w ⟨some ⟨g, 0, none⟩, n, n⟩ zs) {j : Nat} (hj : j < n) (v : Int) : Row (w.setCell ⟨g, j, none⟩ (.int .u8 v)) ⟨some ⟨g, 0, none⟩, n, n⟩ (zs.set j v) := by
  have := Sub.set h (g := g) (off := 0) (j := j) rfl (by show j < n * 1; omega) (.int .u8 v)
  rw [Nat.zero_add, set_u8s] at this
  exact this
theorem row_cell {w : World} {g n : Nat} {zs : List Int} (h : Row w ⟨some ⟨g, 0, none⟩, n, n⟩ zs) {j : Nat} {x : Int} (hx : zs[j]? = some x) : w.cell? ⟨g, j, none⟩ = some (.int .u8 x) ∧ w.frozen? ⟨g, j, none⟩ = false := by
  have hn : 0 < n := by
    have h1 : zs.length = n := Row.len h
    have h2 : j < zs.length := by
      rcases Nat.lt_or_ge j zs.length with hh | hh
      · exact hh
      · rw [List.getElem?_eq_none hh] at hx; cases hx
    omega
  obtain ⟨g', off, e, hf, hc⟩ := Sub.some_ h hn
  cases e
  refine ⟨?_, hf j⟩
  have := hc j (.int .u8 x) (by rw [List.getElem?_map, hx]; rfl)
  rw [Nat.zero_add] at this
  exact this
/-- The loops' memory. -/
structure TI (w wr : World) (g n : Nat) (zs : List Int) : Prop where
  q : Q w wr
  r : Row wr ⟨some ⟨g, 0, none⟩, n, n⟩ zs
  h : w.heap.size ≤ g
theorem TI.step {w wr w' : World} {g n : Nat} {zs : List Int} (h : TI w wr g n zs) (k : Q wr w') : TI w w' g n zs := ⟨h.q.trans k, h.r.q k, h.h⟩
theorem TI.set {w wr : World} {g n : Nat} {zs : List Int} (h : TI w wr g n zs) {j : Nat} (hj : j < n) (v : Int) : TI w (wr.setCell ⟨g, j, none⟩ (.int .u8 v)) g n (zs.set j v) := by
  have k : Keep (fun i => i = g) wr (wr.setCell ⟨g, j, none⟩ (.int .u8 v)) := (Keep.refl (fun i => i = g) wr).setCell _ _ _ (.inl rfl)
  exact ⟨k.below h.q h.q.size (fun i e => by subst e; exact h.h), row_set h.r hj v, h.h⟩
theorem TI.drewN {w wr : World} {g n : Nat} {zs : List Int} (h : TI w wr g n zs) (k : Nat) : TI w (wr.drewN k) g n zs := h.step ((Q.refl wr).drewN k)
theorem blkS_flat (ks ns : List Int) (j : Nat) : blkS ks ns j = dg (([[1], tx ks, tx ns, wrd j] : List (List Int)).flatten) := by
  unfold blkS pre; simp
set_option maxHeartbeats 8000000 in
theorem turn_any (k n d : Sv) (ks ns ds : List Int) (w : World) (hk : In w k ks) (hn : In w n ns) (hd : In w d ds) (bk : k.n ≤ 255) (bn : n.n ≤ 255) (bd : d.n ≤ 16384) :
    Calls Try.prog 73 #[.slice k.a k.n k.c, .slice n.a n.n n.c, .slice d.a d.n d.c] w fun e w' => ∃ g, e = .returned (.slice (some ⟨g, 0, none⟩) d.n d.n) ∧ Q w w' ∧ Row w' ⟨some ⟨g, 0, none⟩, d.n, d.n⟩ (ovl ks ns ds) := by
  obtain ⟨ka, kn, kc⟩ := k
  obtain ⟨na, nn, nc⟩ := n
  obtain ⟨da, dn, dc⟩ := d
  dsimp only at *
  have HK := hid hk
  have HN := hid hn
  have HD := hid hd
  have Ld := hid (show ds.length = dn from hd.l)
  have HLN := hid (fun (j : Int) => show (([[1], tx ks, tx ns, wrd j] : List (List Int)).flatten).length ≤ 1000000 from by
    have e1 : ks.length = kn := hk.l
    have e2 : ns.length = nn := hn.l
    simp [tx, wrd, e1, e2]; omega)
  clear hk hn hd
  go_enter Try.func73, Try.ntmps73
  go_wp2_with fail
  refine (rcopy_any da dn dc ds w Ld.out (by omega) HD.out.s).mono ?_
  rintro e w1 ⟨g, rfl, q1, o1, g1⟩
  have T1 := hid (show TI w w1 g dn (ovT ks ns ds 0) from ⟨q1, by rw [ovT_zero]; exact o1.row (by intro e; cases e), g1⟩)
  clear q1 o1 g1
  go_wp2
  go_loopw [8] (fun is wr => ∃ i : Nat, i ≤ dn ∧ is = .int .i64 i ∧ TI w wr g dn (ovT ks ns ds (far dn i))) (fun is _ => ((dn : Int) - intOf is).toNat)
  case atStart => exact ⟨0, Nat.zero_le _, rfl, by rw [show far dn 0 = 0 from by unfold far; omega]; exact T1.out⟩
  case round =>
    clear T1
    obtain ⟨i, hi, rfl, hT⟩ := hrel
    have HT := hid hT
    clear hT
    by_cases hin : i < dn
    · have hin' : (i : Int) < (dn : Int) := by omega
      by_cases h0 : i % 16 = 0
      · have hr0 : (i : Int) % 16 = 0 := by omega
        obtain ⟨dd, hdd, KD⟩ : ∃ r : Nat, (i : Int) / 16 = (r : Int) ∧ Hid (r = i / 16) := ⟨i / 16, by omega, hid rfl⟩
        have HF := hid (show far dn i = i from by unfold far; omega)
        rw [HF.out] at HT
        go_wp2_with fail
        generalize hw1 : World.alloc wr _ = w2
        have q2 : Q wr w2 := by rw [← hw1]; exact (Q.refl wr).alloc _
        have I2 := hid (show In w2 ⟨some ⟨wr.heap.size, 0, none⟩, 1, 1⟩ [1] from by rw [← hw1]; exact in_byte wr 1 (by omega) (by omega))
        have HT2 := hid (HT.out.step q2)
        clear hw1 q2 HT
        generalize wr.heap.size = b1 at *
        refine (rtext_any ⟨ka, kn, kc⟩ ks w2 (HK.out.q HT2.out.q) (by show kn ≤ _; omega)).mono ?_
        rintro e w3 ⟨⟨ta, tn, tc⟩, rfl, q3, i3⟩
        have HT3 := hid (HT2.out.step q3)
        have I3 := hid (I2.out.q q3)
        have J3 := hid i3
        clear q3 i3 HT2 I2
        go_wp2_with fail
        refine (rtext_any ⟨na, nn, nc⟩ ns w3 (HN.out.q HT3.out.q) (by show nn ≤ _; omega)).mono ?_
        rintro e w4 ⟨⟨ua, un, uc⟩, rfl, q4, i4⟩
        have HT4 := hid (HT3.out.step q4)
        have I4 := hid (I3.out.q q4)
        have J4 := hid (J3.out.q q4)
        have U4 := hid i4
        clear q4 i4 HT3 I3 J3
        go_wp2_with fail
        refine (rword_any dd w4 (by omega) (by have := KD.out; omega)).mono ?_
        rintro e w5 ⟨⟨va, vn, vc⟩, rfl, q5, i5⟩
        have HT5 := hid (HT4.out.step q5)
        have I5 := hid (I4.out.q q5)
        have J5 := hid (J4.out.q q5)
        have U5 := hid (U4.out.q q5)
        have V5 := hid i5
        clear q5 i5 HT4 I4 J4 U4
        go_wp2_with fail
        refine (join_lit w5 [⟨some ⟨b1, 0, none⟩, 1, 1⟩, ⟨ta, tn, tc⟩, ⟨ua, un, uc⟩, ⟨va, vn, vc⟩] [[1], tx ks, tx ns, wrd dd] rfl (in4 I5.out J5.out U5.out V5.out) (by show 4 ≤ 100; omega) (HLN.out dd)).mono ?_
        rintro e w6 ⟨⟨ja, jn, jc⟩, rfl, q6, i6, r6, n6⟩
        have HT6 := hid (HT5.out.step q6)
        have J6 := hid i6
        have HBL := hid (blkS_flat ks ns dd)
        clear q6 i6 r6 n6 HT5 I5 J5 U5 V5
        go_wp2_with fail
        refine (rdigest_any ja jn jc _ w6 J6.out.l (by have h1 := J6.out.l; have h2 := HLN.out dd; dsimp only at h1; omega) J6.out.z J6.out.s).mono ?_
        rintro e w7 ⟨gd, rfl, q7, r7, n7⟩
        rw [← HBL.out] at r7
        have HT7 := hid (HT6.out.step q7)
        have hgd : gd ≠ g := by have h1 := (HT6.out.r).lt g rfl; omega
        have R7 := hid r7
        clear q7 r7 n7 HT6 J6 HBL
        go_wp2
        generalize hws : wr = ws at *
        clear hws
        go_loopw [10] (fun ks_ wr => ∃ kk : Nat, kk ≤ 16 ∧ i + kk ≤ dn ∧ ks_ = .int .i64 kk ∧ TI w wr g dn (ovT ks ns ds (i + kk)) ∧ Row wr ⟨some ⟨gd, 0, none⟩, 16, 16⟩ (blkS ks ns dd)) (fun ks_ _ => ((16 : Int) - intOf ks_).toNat)
        case atStart => exact ⟨0, by omega, by omega, rfl, HT7.out, R7.out⟩
        case round =>
          clear HT7 R7
          obtain ⟨kk, hk16, hkd, rfl, hT, hR⟩ := hrel
          have HT := hid hT
          have HR := hid hR
          clear hT hR
          by_cases h16 : kk < 16
          · have h16' : (kk : Int) < 16 := by omega
            obtain ⟨j, hj, KJ⟩ : ∃ j : Nat, (i : Int) + (kk : Int) = (j : Int) ∧ Hid (j = i + kk) := ⟨i + kk, by omega, hid rfl⟩
            by_cases hjn : j < dn
            · have hjn' : (j : Int) < (dn : Int) := by omega
              rw [← KJ.out] at HT
              have hx := row_cell HT.out.r (ovT_get ks ns ds j (by rw [Ld.out]; exact hjn))
              obtain ⟨hx1, hx2⟩ := hx
              have hy := row_cell HR.out (j := kk) (x := (blkS ks ns dd).getD kk 0) (by rw [List.getD_eq_getElem?_getD, List.getElem?_eq_getElem (by rw [blkS_len]; exact h16)]; rfl)
              obtain ⟨hy1, hy2⟩ := hy
              have HST := hid (show (blkS ks ns dd).getD kk 0 = strm ks ns j from by
                unfold strm; rw [KJ.out, show (i + kk) / 16 = dd by have := KD.out; omega, show (i + kk) % 16 = kk by omega])
              rw [HST.out] at hy1
              have HSE := hid (ovT_set ks ns ds j (by rw [Ld.out]; exact hjn))
              clear hy2
              generalize ds.getD j 0 = xx at *
              generalize strm ks ns j = yy at *
              have hj0 : (0 : Int) ≤ (j : Int) := by omega
              go_wp2
              go_region
              all_goals (
                go_wp2
                go_roundw
                case rel =>
                  refine ⟨kk + 1, by omega, by have := KJ.out; omega, by go_num, ?_, ?_⟩
                  · rw [show i + (kk + 1) = j + 1 by have := KJ.out; omega, ← HSE.out]
                    first
                      | exact (HT.out.set hjn _).drewN _
                      | exact (HT.out.drewN _).set hjn _
                      | exact HT.out.set hjn _
                  · have kp : Keep (fun b => b = g) wr (wr.setCell ⟨g, j, none⟩ (.int .u8 (bits .xor .u8 xx yy))) := (Keep.refl (fun b => b = g) wr).setCell _ _ _ (.inl rfl)
                    exact Sub.keep (F := fun b => b = g) HR.out kp.drew (fun b e f => by simp [blk] at e; omega)
                case measure => simp [intOf]; omega)
            · have hjn' : ¬ (j : Int) < (dn : Int) := by omega
              have HFF := hid (show i + kk = far dn (i + 1) from by have := KJ.out; unfold far; omega)
              rw [HFF.out] at HT
              go_wp2
              go_roundw
              case rel => exact ⟨i + 1, by omega, by go_num, HT.out⟩
              case measure => simp [intOf]; omega
          · obtain rfl : kk = 16 := by omega
            have HFF := hid (show i + 16 = far dn (i + 1) from by unfold far; omega)
            rw [HFF.out] at HT
            go_wp2
            go_roundw
            case rel => exact ⟨i + 1, by omega, by go_num, HT.out⟩
            case measure => simp [intOf]; omega
      · have hr0 : ((i : Int) % 16 == 0) = false := by simp; omega
        have hr0' : ((i : Int) % 16 = 0) = False := by simp; omega
        have HF := hid (show far dn i = far dn (i + 1) from by unfold far; omega)
        rw [HF.out] at HT
        go_wp2
        go_roundw
        case rel => exact ⟨i + 1, by omega, by go_num, HT.out⟩
        case measure => simp [intOf]; omega
    · obtain rfl : i = dn := by omega
      have hin' : ¬ (i : Int) < (i : Int) := by omega
      have HR := hid (show Row wr ⟨some ⟨g, 0, none⟩, i, i⟩ (ovl ks ns ds) from by
        have h := HT.out.r
        rw [show far i i = ds.length from by rw [Ld.out]; unfold far; omega, ovT_all] at h
        exact h)
      go_wp2
      go_ret
      exact ⟨g, rfl, HT.out.q, HR.out⟩
end Go.Proofs.Ytihmlfpfpadfpaa
