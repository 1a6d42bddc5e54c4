/-
  What route's and the document's digest, within, numberOf and slices.Clone do: contracts that the statements' walks use.
-/
import Derived.Test.YtnnjogfpapndaaaJoin
import Derived.Test.YtnnjogfpapndaaaRDig
import Derived.Test.YtnnjogfpapndaaaLaid
import Derived.Test.YtnnjogfpapndaaaMathTwo
import Derived.Lib.SlBytesConst
namespace Go.Proofs.Ytnnjogfpapndaaa
open Go.RowKit
set_option linter.unusedVariables false
set_option maxRecDepth 20000

def By (zs : List Int) : Prop := ∀ y ∈ zs, 0 ≤ y ∧ y < 256
theorem By.app {xs ys : List Int} (h : By xs) (k : By ys) : By (xs ++ ys) := by
  intro y hy
  rcases List.mem_append.1 hy with hy | hy
  · exact h y hy
  · exact k y hy
theorem by_nil : By [] := fun y h => by cases h
theorem By.cat {Z : Nat → List Int} : ∀ {m : Nat}, (∀ j, j < m → By (Z j)) → By (cat Z m)
  | 0, _ => by_nil
  | m + 1, h => (By.cat (fun j hj => h j (by omega))).app (h m (by omega))
theorem By.take {zs : List Int} (h : By zs) (k : Nat) : By (zs.take k) := fun y hy => h y (List.mem_of_mem_take hy)
theorem By.drop {zs : List Int} (h : By zs) (k : Nat) : By (zs.drop k) := fun y hy => h y (List.mem_of_mem_drop hy)
theorem row_in {w : World} {x : Sv} {zs : List Int} (h : Row w x zs) (hz : By zs) : In w x zs := ⟨h.seg, Row.len h, hz⟩
theorem In.cutTo {w : World} {x : Sv} {zs : List Int} (h : In w x zs) (k c : Nat) (hk : k ≤ x.n) : In w ⟨x.a, k, c⟩ (zs.take k) :=
  ⟨seg_take h.s k, by have := h.l; simp; omega, fun y hy => h.z y (List.mem_of_mem_take hy)⟩
theorem set_u8s (zs : List Int) (j : Nat) (v : Int) : (u8s zs).set j (.int .u8 v) = u8s (zs.set j v) := by
  simp [List.map_set]
theorem row_setc {w : World} {d : Sv} {zs : List Int} (h : Row w d zs) {g off j : Nat} (ha : d.a = some ⟨g, off, none⟩) (hj : j < d.n) (v : Int) : Row (w.setCell ⟨g, off + j, none⟩ (.int .u8 v)) d (zs.set j v) := by
  have := Sub.set h (g := g) (off := off) (j := j) ha (by show j < d.n * 1; omega) (.int .u8 v)
  rw [set_u8s] at this
  exact this
theorem row_cellc {w : World} {d : Sv} {zs : List Int} (h : Row w d zs) {g off j : Nat} (ha : d.a = some ⟨g, off, none⟩) {x : Int} (hx : zs[j]? = some x) : w.cell? ⟨g, off + j, none⟩ = some (.int .u8 x) ∧ w.frozen? ⟨g, off + j, none⟩ = false := by
  have hn : 0 < d.n := by
    have h1 : zs.length = d.n := Row.len h
    have h2 : j < zs.length := by
      rcases Nat.lt_or_ge j zs.length with hh | hh
      · exact hh
      · rw [List.getElem?_eq_none hh] at hx; cases hx
    omega
  obtain ⟨g', off', e, hf, hc⟩ := Sub.some_ h hn
  rw [ha] at e
  cases e
  exact ⟨hc j (.int .u8 x) (by rw [List.getElem?_map, hx]; rfl), hf (off + j)⟩
theorem row_addr {w : World} {d : Sv} {zs : List Int} (h : Row w d zs) (hn : 0 < d.n) : ∃ g off, d.a = some ⟨g, off, none⟩ := by
  obtain ⟨g, off, e, _, _⟩ := Sub.some_ h hn
  exact ⟨g, off, e⟩
theorem seg_none {w : World} {zs : List Int} (h : Seg w none zs) : zs = [] := by
  by_cases hz : zs = []
  · exact hz
  · obtain ⟨b, o, e, _⟩ := h hz
    cases e
theorem eq_nil (n c : Nat) (w : World) : (binOp .eql 22 (.slice none n c) (.slice none 0 0)).run Try.prog w = .ok (.bool true) w := by kernel_rfl
theorem eq_some (ad : Addr) (n c : Nat) (w : World) : (binOp .eql 22 (.slice (some ad) n c) (.slice none 0 0)).run Try.prog w = .ok (.bool false) w := by kernel_rfl
attribute [local go_sem] eq_nil eq_some
set_option maxHeartbeats 4000000 in
theorem clone_any (x : Sv) (zs : List Int) (w : World) (hx : In w x zs) (bx : x.n ≤ 900000) :
    Calls Try.prog 43 #[.slice x.a x.n x.c] w fun e w' => ∃ y : Sv, e = .returned (.slice y.a y.n y.c) ∧ Q w w' ∧ Row w' y zs ∧ New w.heap.size y := by
  obtain ⟨xa, xn, xc⟩ := x
  have HX := hid hx
  have HL := hid (show zs.length = xn from hx.l)
  dsimp only at *
  clear hx
  cases xa with
  | none =>
    have hz := seg_none HX.out.s
    subst hz
    go_enter Try.func43, Try.ntmps43
    go_wp2
    go_ret
    exact ⟨nilS, rfl, Q.refl _, sub_nil _ _ _, new_nil _⟩
  | some ad =>
    go_enter Try.func43, Try.ntmps43
    obtain ⟨⟨ya, yn, yc⟩, w2, hrun, hrow, hkp, hb⟩ := row_append (ty := 22) (x := .slice (some ad) xn xc) (m := xn) (ys := zs) (row_empty w) (src_seg (HX.out.s.q ((Q.refl w).alloc _)) HL.out) (by show 0 + xn ≤ 1000000; omega)
    have HK := hid hkp
    have HB := hid hb
    have HR := hid hrow
    clear hkp hb hrow
    dsimp only at hrun
    go_wp2_with (at_builtin; refine Lib.wpList_append_run _ rfl _ _ _ _ rfl _ _ rfl rfl _ _ hrun ?_)
    go_ret
    refine ⟨⟨ya, yn, yc⟩, rfl, ?_, HR.out, ?_⟩
    · exact HK.out.below ((Q.refl w).alloc _) (by simp) (fun i e => by simp [blk] at e; omega)
    · intro b e
      rcases HB.out with h | h
      · rw [h] at e; simp [blk] at e; omega
      · rw [h] at e; simp at e; omega
/-- The program's digest of pieces. -/
theorem dgst_any (pb m c : Nat) (P : Nat → Sv) (Z : Nat → List Int) (w : World) (hp : ∀ j, j < m → w.cell? ⟨pb, j, none⟩ = some (.slice (P j).a (P j).n (P j).c)) (hz : ∀ j, j < m → In w (P j) (Z j)) (hm : m ≤ 100) (ht : (cat Z m).length ≤ 1000000) :
    Calls Try.prog 33 #[.slice (some ⟨pb, 0, none⟩) m c] w fun e w' => ∃ g, e = .returned (.slice (some ⟨g, 0, none⟩) 16 16) ∧ Q w w' ∧ In w' ⟨some ⟨g, 0, none⟩, 16, 16⟩ (dg (cat Z m)) ∧ w.heap.size ≤ g := by
  have HP := hid hp
  have HZ := hid hz
  have HT := hid ht
  have HB := hid (By.cat (Z := Z) (m := m) (fun j hj => (hz j hj).z))
  clear hp hz ht
  go_enter Try.func33, Try.ntmps33
  go_wp2_with fail
  refine (concat_any pb m c P Z w HP.out (fun j hj => ⟨(HZ.out j hj).s, (HZ.out j hj).l⟩) hm HT.out).mono ?_
  rintro e w2 ⟨⟨xa, xn, xc⟩, rfl, q2, r2, n2⟩
  have Q2 := hid q2
  have R2 := hid r2
  have hxl : (cat Z m).length = xn := Row.len r2
  have hxn : xn ≤ 1000000 := by rw [← hxl]; exact HT.out
  have HXL := hid hxl
  clear q2 r2 n2 hxl
  go_wp2_with fail
  refine (digest_any xa xn xc (cat Z m) w2 HXL.out (by omega) HB.out R2.out.seg).mono ?_
  rintro e w3 ⟨rfl, q3⟩
  have Q3 := hid (Q2.out.trans q3)
  have HDL := hid (dg_len (cat Z m))
  have HS := hid Q3.out.size
  clear q3 R2 Q2
  have HDZ := hid (dg_lt (cat Z m))
  have HTS := hid (Eq.refl (dg (cat Z m)))
  generalize hts : dg (cat Z m) = ts at *
  have HE := hid hts
  clear hts HTS
  go_wp2_with (refine wpList_store_row rfl 90 _ _ rfl w3.heap.size (u8s ts).toArray rfl rfl 90 _ (heap_alloc_new w3 _) (arr_info _ HDL.out) (arr_sizes (List.replicate 16 0) _ rfl HDL.out) (arr_one _) ?_; refine Hid.out ?_)
  refine hid ?_
  generalize hw4 : World.setRow _ _ _ = w4
  have Q4 := hid (show Q w3 w4 from by
    have k4 : Keep (fun i => i = w3.heap.size) w3 w4 := by rw [← hw4]; exact ((Keep.refl (fun i => i = w3.heap.size) w3).alloc _).setRow _ _ (.inl rfl)
    exact k4.below (Q.refl _) (Nat.le_refl _) (fun i e => by omega))
  have T4 := hid (show w4.heap[w3.heap.size]? = some (.cells (u8s ts).toArray 90 (0, 0)) from by rw [← hw4]; exact setRow_heap _ _ _ _ 90 _ (heap_alloc_new w3 _))
  clear hw4
  generalize w3.heap.size = tg at *
  go_wp2
  go_ret
  exact ⟨tg, rfl, Q3.out.trans Q4.out, by rw [HE.out]; exact ⟨seg_arr T4.out, HDL.out, HDZ.out⟩, HS.out⟩
set_option maxHeartbeats 4000000 in
/-- The document's digest of pieces. -/
theorem rdgst_any (pb m c : Nat) (P : Nat → Sv) (Z : Nat → List Int) (w : World) (hp : ∀ j, j < m → w.cell? ⟨pb, j, none⟩ = some (.slice (P j).a (P j).n (P j).c)) (hz : ∀ j, j < m → In w (P j) (Z j)) (hm : m ≤ 100) (ht : (cat Z m).length ≤ 1000000) :
    Calls Try.prog 34 #[.slice (some ⟨pb, 0, none⟩) m c] w fun e w' => ∃ g, e = .returned (.slice (some ⟨g, 0, none⟩) 16 16) ∧ Q w w' ∧ In w' ⟨some ⟨g, 0, none⟩, 16, 16⟩ (dg (cat Z m)) ∧ w.heap.size ≤ g := by
  have HP := hid hp
  have HZ := hid hz
  have HT := hid ht
  have HB := hid (By.cat (Z := Z) (m := m) (fun j hj => (hz j hj).z))
  clear hp hz ht
  go_enter Try.func34, Try.ntmps34
  go_wp2_with fail
  refine (join_any pb m c P Z w HP.out (fun j hj => ⟨(HZ.out j hj).s, (HZ.out j hj).l⟩) hm HT.out).mono ?_
  rintro e w2 ⟨⟨xa, xn, xc⟩, rfl, q2, r2, n2⟩
  have Q2 := hid q2
  have R2 := hid r2
  have hxl : (cat Z m).length = xn := Row.len r2
  have hxn : xn ≤ 1000000 := by rw [← hxl]; exact HT.out
  have HXL := hid hxl
  clear q2 r2 n2 hxl
  go_wp2_with fail
  refine (rdigest_any xa xn xc (cat Z m) w2 HXL.out (by omega) HB.out R2.out.seg).mono ?_
  rintro e w3 ⟨g, rfl, q3, r3, l3⟩
  have HX := hid (show Q w w3 ∧ In w3 ⟨some ⟨g, 0, none⟩, 16, 16⟩ (dg (cat Z m)) ∧ w.heap.size ≤ g from ⟨Q2.out.trans q3, row_in r3 (dg_lt _), Nat.le_trans Q2.out.size l3⟩)
  clear q3 r3 l3
  go_wp2
  go_ret
  exact ⟨g, rfl, HX.out⟩

/-- Whether a number lies from 0 to most. -/
def wiB (n m : Int) : Bool := decide (0 ≤ n) && decide (n ≤ m)
theorem within_any (n m : Int) (w : World) : Calls Try.prog 25 #[.int .i64 n, .int .i64 m] w fun e w' => e = .returned (.bool (wiB n m)) ∧ w' = w := by
  by_cases h0 : 0 ≤ n
  · have h1 : wiB n m = decide (n ≤ m) := by unfold wiB; simp [h0]
    rw [h1]
    clear h1
    go_enter Try.func25, Try.ntmps25
    go_wp2
    all_goals go_ret
    all_goals (refine ⟨?_, rfl⟩; simp [*])
  · have h1 : wiB n m = false := by unfold wiB; simp [h0]
    rw [h1]
    clear h1
    go_enter Try.func25, Try.ntmps25
    go_wp2
    all_goals go_ret
    all_goals exact ⟨rfl, rfl⟩
theorem pow7 (k : Nat) (hk : k ≤ 7) : (256 : Int) ^ k ≤ 72057594037927936 := by
  rcases (show k = 0 ∨ k = 1 ∨ k = 2 ∨ k = 3 ∨ k = 4 ∨ k = 5 ∨ k = 6 ∨ k = 7 by omega) with rfl | rfl | rfl | rfl | rfl | rfl | rfl | rfl <;> decide
set_option maxHeartbeats 4000000 in
theorem numberOf_any (s : Sv) (zs : List Int) (w : World) (h : In w s zs) (hn : s.n ≤ 8) : Calls Try.prog 31 #[.slice s.a s.n s.c] w fun e w' => e = .returned (.int .u64 (val 0 zs)) ∧ w' = w := by
  obtain ⟨a, n, c⟩ := s
  dsimp only at *
  have HI := hid h
  have HL := hid h.l
  clear h
  go_enter Try.func31, Try.ntmps31
  go_wp2
  go_loop [3, 5, 8] (fun r _ i => ∃ j : Nat, j ≤ n ∧ i = .int .i64 j ∧ r = .int .u64 (val 0 (zs.take j))) (fun _ _ i => ((n : Int) - intOf i).toNat)
  case atStart => exact ⟨0, Nat.zero_le _, rfl, rfl⟩
  case round =>
    obtain ⟨j, hj, rfl, rfl⟩ := hrel
    by_cases hjn : j < n
    · have hne : zs ≠ [] := by intro e; have h1 := HL.out; rw [e] at h1; simp at h1; omega
      obtain ⟨b, off, rfl, hc⟩ := HI.out.s hne
      have hcj := hc j (by rw [HL.out]; exact hjn)
      have hy := HI.out.z (zs.getD j 0) (by rw [List.getD_eq_getElem?_getD, List.getElem?_eq_getElem (by rw [HL.out]; exact hjn)]; exact List.getElem_mem _)
      have HE := hid (show val 0 (zs.take (j + 1)) = val 0 (zs.take j) * 256 + zs.getD j 0 from by
        rw [List.take_add_one, List.getElem?_eq_getElem (by rw [HL.out]; exact hjn), Option.toList_some, val_snoc, List.getD_eq_getElem?_getD, List.getElem?_eq_getElem (by rw [HL.out]; exact hjn)]; rfl)
      have hv := val_bound (zs.take j) 0 (by omega) (fun x hx => HI.out.z x (List.mem_of_mem_take hx))
      have hv0 := hv.1
      have hv1 : val 0 (zs.take j) < 72057594037927936 := by
        have h2 := hv.2
        rw [List.length_take, HL.out] at h2
        have h3 := pow7 (min j n) (by omega)
        omega
      clear hc hv hne
      generalize zs.getD j 0 = y at *
      generalize val 0 (zs.take j) = V at *
      have hy0 := hy.1
      have hy1 := hy.2
      clear hy
      have hor : bits .or .u64 (V * 256) y = V * 256 + y := by
        obtain ⟨v, rfl⟩ := Int.eq_ofNat_of_zero_le hv0
        obtain ⟨y, rfl⟩ := Int.eq_ofNat_of_zero_le hy0
        have := u64_or_nat (v * 256) y (by omega) (by omega)
        rw [nat_join 8 (v * 256) y (by omega) (by omega)] at this
        simpa using this
      have hji : (j : Int) < (n : Int) := by omega
      have hj0 : (0 : Int) ≤ (j : Int) := by omega
      go_wp2
      go_round
      case rel => exact ⟨j + 1, by omega, by go_num, by rw [HE.out]⟩
      case measure => simp [intOf]; omega
    · obtain rfl : j = n := by omega
      have HT := hid (show zs.take j = zs from List.take_of_length_le (by rw [HL.out]; exact Nat.le_refl _))
      have hji : ¬ (j : Int) < (j : Int) := by omega
      go_wp2
      go_ret
      rw [HT.out]
      exact ⟨rfl, rfl⟩

/-- A literal piece ahead of others: the cells of the row that holds them. -/
def cidL : List Int := [99, 105, 100]
theorem cidL_by : By cidL := by intro y hy; simp [cidL] at hy; omega
/-- What lies over the ids of a secret: its bytes, its number. -/
def veL (ks : List Int) : List Int := (dg (cidL ++ ks)).take 8
def veN (ks : List Int) : Int := val 0 (veL ks)
theorem veL_len (ks : List Int) : (veL ks).length = 8 := rfl
theorem veL_by (ks : List Int) : By (veL ks) := By.take (dg_lt _) 8
theorem seg_litm (w : World) (zs : List Int) (m : Nat × Nat) : Seg (w.alloc (.cells (u8s zs).toArray 5 m)) (some ⟨w.heap.size, 0, none⟩) zs := by
  intro _
  refine ⟨w.heap.size, 0, rfl, fun i hi => ?_⟩
  rw [cell_of_row _ w.heap.size (0 + i) _ 5 m (heap_alloc_new w _), Nat.zero_add]
  simp [List.getD_eq_getElem?_getD, hi]
def thr {α : Type} (x y z : α) : Nat → α
  | 0 => x
  | 1 => y
  | _ => z
theorem dlit2 (L : List Int) (m : Nat × Nat) (s : Sv) (ks : List Int) (w : World) (hL : By L) (hk : In w s ks) (hb : L.length + s.n ≤ 1000000) :
    Calls Try.prog 33 #[.slice (some ⟨w.heap.size + 1, 0, none⟩) 2 2] ((w.alloc (.cells (u8s L).toArray 5 m)).alloc (.cells #[.slice (some ⟨w.heap.size, 0, none⟩) L.length L.length, .slice s.a s.n s.c] 22)) fun e w' => ∃ g, e = .returned (.slice (some ⟨g, 0, none⟩) 16 16) ∧ Q w w' ∧ In w' ⟨some ⟨g, 0, none⟩, 16, 16⟩ (dg (L ++ ks)) ∧ w.heap.size ≤ g := by
  have q1 : Q w ((w.alloc (.cells (u8s L).toArray 5 m)).alloc (.cells #[.slice (some ⟨w.heap.size, 0, none⟩) L.length L.length, .slice s.a s.n s.c] 22)) := ((Q.refl w).alloc _).alloc _
  refine (dgst_any (w.heap.size + 1) 2 2 (two ⟨some ⟨w.heap.size, 0, none⟩, L.length, L.length⟩ s) (two L ks) _ ?_ ?_ (by omega) ?_).mono ?_
  · intro j hj
    have hs : (w.alloc (.cells (u8s L).toArray 5 m)).heap.size = w.heap.size + 1 := by simp
    have := cell_lit (w.alloc (.cells (u8s L).toArray 5 m)) #[.slice (some ⟨w.heap.size, 0, none⟩) L.length L.length, .slice s.a s.n s.c] 22 j
    rw [hs] at this
    refine this.trans ?_
    rcases (show j = 0 ∨ j = 1 by omega) with rfl | rfl <;> rfl
  · intro j hj
    rcases (show j = 0 ∨ j = 1 by omega) with rfl | rfl
    · exact ⟨(seg_litm w L m).q ((Q.refl _).alloc _), rfl, hL⟩
    · exact hk.q q1
  · show ([] ++ L ++ ks).length ≤ 1000000
    have := hk.l
    rw [List.nil_append, List.length_append]; omega
  · rintro e w' ⟨g, rfl, q, h, l⟩
    refine ⟨g, rfl, q1.trans q, h, by simp at l; omega⟩
theorem dlit3 (L : List Int) (m : Nat × Nat) (s t : Sv) (ks ts : List Int) (w : World) (hL : By L) (hk : In w s ks) (ht : In w t ts) (hb : L.length + s.n + t.n ≤ 1000000) :
    Calls Try.prog 33 #[.slice (some ⟨w.heap.size + 1, 0, none⟩) 3 3] ((w.alloc (.cells (u8s L).toArray 5 m)).alloc (.cells #[.slice (some ⟨w.heap.size, 0, none⟩) L.length L.length, .slice s.a s.n s.c, .slice t.a t.n t.c] 22)) fun e w' => ∃ g, e = .returned (.slice (some ⟨g, 0, none⟩) 16 16) ∧ Q w w' ∧ In w' ⟨some ⟨g, 0, none⟩, 16, 16⟩ (dg (L ++ ks ++ ts)) ∧ w.heap.size ≤ g := by
  have q1 : Q w ((w.alloc (.cells (u8s L).toArray 5 m)).alloc (.cells #[.slice (some ⟨w.heap.size, 0, none⟩) L.length L.length, .slice s.a s.n s.c, .slice t.a t.n t.c] 22)) := ((Q.refl w).alloc _).alloc _
  refine (dgst_any (w.heap.size + 1) 3 3 (thr ⟨some ⟨w.heap.size, 0, none⟩, L.length, L.length⟩ s t) (thr L ks ts) _ ?_ ?_ (by omega) ?_).mono ?_
  · intro j hj
    have hs : (w.alloc (.cells (u8s L).toArray 5 m)).heap.size = w.heap.size + 1 := by simp
    have := cell_lit (w.alloc (.cells (u8s L).toArray 5 m)) #[.slice (some ⟨w.heap.size, 0, none⟩) L.length L.length, .slice s.a s.n s.c, .slice t.a t.n t.c] 22 j
    rw [hs] at this
    refine this.trans ?_
    rcases (show j = 0 ∨ j = 1 ∨ j = 2 by omega) with rfl | rfl | rfl <;> rfl
  · intro j hj
    rcases (show j = 0 ∨ j = 1 ∨ j = 2 by omega) with rfl | rfl | rfl
    · exact ⟨(seg_litm w L m).q ((Q.refl _).alloc _), rfl, hL⟩
    · exact hk.q q1
    · exact ht.q q1
  · show ([] ++ L ++ ks ++ ts).length ≤ 1000000
    have := hk.l
    have := ht.l
    rw [List.nil_append, List.length_append, List.length_append]; omega
  · rintro e w' ⟨g, rfl, q, h, l⟩
    refine ⟨g, rfl, q1.trans q, h, by simp at l; omega⟩
theorem rdlit2 (L : List Int) (m : Nat × Nat) (s : Sv) (ks : List Int) (w : World) (hL : By L) (hk : In w s ks) (hb : L.length + s.n ≤ 1000000) :
    Calls Try.prog 34 #[.slice (some ⟨w.heap.size + 1, 0, none⟩) 2 2] ((w.alloc (.cells (u8s L).toArray 5 m)).alloc (.cells #[.slice (some ⟨w.heap.size, 0, none⟩) L.length L.length, .slice s.a s.n s.c] 22)) fun e w' => ∃ g, e = .returned (.slice (some ⟨g, 0, none⟩) 16 16) ∧ Q w w' ∧ In w' ⟨some ⟨g, 0, none⟩, 16, 16⟩ (dg (L ++ ks)) ∧ w.heap.size ≤ g := by
  have q1 : Q w ((w.alloc (.cells (u8s L).toArray 5 m)).alloc (.cells #[.slice (some ⟨w.heap.size, 0, none⟩) L.length L.length, .slice s.a s.n s.c] 22)) := ((Q.refl w).alloc _).alloc _
  refine (rdgst_any (w.heap.size + 1) 2 2 (two ⟨some ⟨w.heap.size, 0, none⟩, L.length, L.length⟩ s) (two L ks) _ ?_ ?_ (by omega) ?_).mono ?_
  · intro j hj
    have hs : (w.alloc (.cells (u8s L).toArray 5 m)).heap.size = w.heap.size + 1 := by simp
    have := cell_lit (w.alloc (.cells (u8s L).toArray 5 m)) #[.slice (some ⟨w.heap.size, 0, none⟩) L.length L.length, .slice s.a s.n s.c] 22 j
    rw [hs] at this
    refine this.trans ?_
    rcases (show j = 0 ∨ j = 1 by omega) with rfl | rfl <;> rfl
  · intro j hj
    rcases (show j = 0 ∨ j = 1 by omega) with rfl | rfl
    · exact ⟨(seg_litm w L m).q ((Q.refl _).alloc _), rfl, hL⟩
    · exact hk.q q1
  · show ([] ++ L ++ ks).length ≤ 1000000
    have := hk.l
    rw [List.nil_append, List.length_append]; omega
  · rintro e w' ⟨g, rfl, q, h, l⟩
    refine ⟨g, rfl, q1.trans q, h, by simp at l; omega⟩
theorem rdlit3 (L : List Int) (m : Nat × Nat) (s t : Sv) (ks ts : List Int) (w : World) (hL : By L) (hk : In w s ks) (ht : In w t ts) (hb : L.length + s.n + t.n ≤ 1000000) :
    Calls Try.prog 34 #[.slice (some ⟨w.heap.size + 1, 0, none⟩) 3 3] ((w.alloc (.cells (u8s L).toArray 5 m)).alloc (.cells #[.slice (some ⟨w.heap.size, 0, none⟩) L.length L.length, .slice s.a s.n s.c, .slice t.a t.n t.c] 22)) fun e w' => ∃ g, e = .returned (.slice (some ⟨g, 0, none⟩) 16 16) ∧ Q w w' ∧ In w' ⟨some ⟨g, 0, none⟩, 16, 16⟩ (dg (L ++ ks ++ ts)) ∧ w.heap.size ≤ g := by
  have q1 : Q w ((w.alloc (.cells (u8s L).toArray 5 m)).alloc (.cells #[.slice (some ⟨w.heap.size, 0, none⟩) L.length L.length, .slice s.a s.n s.c, .slice t.a t.n t.c] 22)) := ((Q.refl w).alloc _).alloc _
  refine (rdgst_any (w.heap.size + 1) 3 3 (thr ⟨some ⟨w.heap.size, 0, none⟩, L.length, L.length⟩ s t) (thr L ks ts) _ ?_ ?_ (by omega) ?_).mono ?_
  · intro j hj
    have hs : (w.alloc (.cells (u8s L).toArray 5 m)).heap.size = w.heap.size + 1 := by simp
    have := cell_lit (w.alloc (.cells (u8s L).toArray 5 m)) #[.slice (some ⟨w.heap.size, 0, none⟩) L.length L.length, .slice s.a s.n s.c, .slice t.a t.n t.c] 22 j
    rw [hs] at this
    refine this.trans ?_
    rcases (show j = 0 ∨ j = 1 ∨ j = 2 by omega) with rfl | rfl | rfl <;> rfl
  · intro j hj
    rcases (show j = 0 ∨ j = 1 ∨ j = 2 by omega) with rfl | rfl | rfl
    · exact ⟨(seg_litm w L m).q ((Q.refl _).alloc _), rfl, hL⟩
    · exact hk.q q1
    · exact ht.q q1
  · show ([] ++ L ++ ks ++ ts).length ≤ 1000000
    have := hk.l
    have := ht.l
    rw [List.nil_append, List.length_append, List.length_append]; omega
  · rintro e w' ⟨g, rfl, q, h, l⟩
    refine ⟨g, rfl, q1.trans q, h, by simp at l; omega⟩
theorem slice_to (b o n c k : Nat) (u : World) (hk : k ≤ c) (hk' : k < 9223372036854775808) : (Instr.slice 22 (.slice (some ⟨b, o, none⟩) n c) none (some (.int .i64 (k : Int))) none).run Try.prog u = .ok (.slice (some ⟨b, o, none⟩) k c) u := by
  have h := run_slice_h (P := Try.prog) u 22 (some ⟨b, o, none⟩) n c Try.underlying22 .i64 (k : Int) (by omega) (by omega)
  rw [h]
  obtain ⟨i0, hi, hz0, hz1, hz2⟩ := info_parts info5
  have e : Try.prog.elem 22 = 5 := by kernel_rfl
  simp [sizeOf, typeInfo, e, hi, hz1, sliced, Result.andThen, Addr.add]
set_option maxHeartbeats 4000000 in
theorem veil_any (s : Sv) (ks : List Int) (w : World) (hk : In w s ks) (hn : s.n = 16) : Calls Try.prog 27 #[.slice s.a s.n s.c] w fun e w' => e = .returned (.int .u64 (veN ks)) ∧ Q w w' := by
  obtain ⟨ka, kn, kc⟩ := s
  dsimp only at hn
  subst hn
  have HK := hid hk
  clear hk
  dsimp only at *
  have kcv := Lib.run_convert_bytes_const (P := Try.prog) w 22 5 (u8s cidL).toArray 3 3 Try.underlying22 Try.underlying5
  rw [show (u8s cidL).toArray = #[.int .u8 99, .int .u8 105, .int .u8 100] from rfl] at kcv
  go_enter Try.func27, Try.ntmps27
  go_wp2_with fail
  refine (dlit2 cidL (3, 4) ⟨ka, 16, kc⟩ ks w cidL_by HK.out (by show 3 + 16 ≤ _; omega)).mono ?_
  rintro e w1 ⟨g, rfl, q1, i1, l1⟩
  have Q1 := hid q1
  have I1 := hid (i1.cutTo 8 16 (by show 8 ≤ 16; omega))
  clear q1 i1 l1
  go_wp2_with fail
  refine (numberOf_any ⟨some ⟨g, 0, none⟩, 8, 16⟩ _ w1 I1.out (by show 8 ≤ 8; omega)).mono ?_
  rintro e w2 ⟨rfl, rfl⟩
  go_wp2
  go_ret
  exact ⟨rfl, Q1.out⟩
end Go.Proofs.Ytnnjogfpapndaaa
