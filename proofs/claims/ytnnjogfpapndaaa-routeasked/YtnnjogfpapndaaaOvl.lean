/-
  What prim.check, tagOf and overlay do: contracts that the statements' walks use.
-/
import Derived.Test.YtnnjogfpapndaaaSlM
namespace Go.Proofs.Ytnnjogfpapndaaa
open Go.RowKit
set_option linter.unusedVariables false
set_option maxRecDepth 20000

theorem app_one {w : World} {t e : TypeId} {z v : Value} {a : Option Addr} {n cap by_ : Nat} {vs : List Value} {i0 : TypeInfo} (ht : Try.prog.underlying t = some (.slice e)) (hi : Try.prog.info? e = some i0) (hz0 : i0.zero = some z) (hz1 : i0.size = 1) (hz2 : i0.bytes = by_) (hby : by_ ≤ 8) (hzs : z.cells.size = 1) (hv : v.oneCell' = true)
    (hs : Sub w e 1 a n cap vs) (hn : n ≤ 1099511627776) :
    ∃ a' cap' w', (Builtin.append_ #[t, t] t #[.slice a n cap, .slice (some ⟨w.heap.size, 0, none⟩) 1 1]).run Try.prog (w.alloc (.cells #[v] e)) = .ok (.slice a' (n + 1) cap') w' ∧ Sub w' e 1 a' (n + 1) cap' (vs ++ [v]) ∧ Keep (fun b => blk a = some b) w w' ∧ (∀ b, blk a' = some b → blk a = some b ∨ w.heap.size ≤ b) := by
  have hq : Q w (w.alloc (.cells #[v] e)) := (Q.refl w).alloc _
  have hg : (w.alloc (.cells #[v] e)).heap[w.heap.size]? = some (.cells #[v] e (0, 0)) := heap_alloc_new w _
  have hsrc : ∀ j u, [v][j]? = some u → (w.alloc (.cells #[v] e)).cell? ((⟨w.heap.size, 0, none⟩ : Addr).add j) = some u := by
    intro j u hj
    rw [addr_add, cell_of_row _ _ _ _ e (0, 0) hg, Nat.zero_add]
    simpa using hj
  have hmul : (n + 1 + (n + 1) / 4 + 192) * by_ ≤ 281474976710656 := Nat.le_trans (Nat.mul_le_mul_left _ hby) (by omega)
  obtain ⟨a', cap', w', hr, h1, h2, h3⟩ := sub_append (P := Try.prog) (ty := t) ht hi hz0 hz1 hz2 hzs (hs.q hq) (Src.ofSlice _ ht ⟨w.heap.size, 0, none⟩ 1 1 [v] (by simp) hsrc (by intro u hu; rw [List.mem_singleton.1 hu]; exact hv)) (by unfold maxLen; omega) hmul
  refine ⟨a', cap', w', hr, h1, (Keep.ofQ hq).trans h2, fun b hb => ?_⟩
  rcases h3 with h | h
  · exact .inl (by rw [← h]; exact hb)
  · rw [h] at hb
    simp at hb
    right
    have := hq.size
    omega
theorem row_one {w : World} {d : Sv} {zs : List Int} (v : Int) (h : Row w d zs) (hn : d.n ≤ 1099511627776) :
    ∃ d' w', (Builtin.append_ #[22, 22] 22 #[.slice d.a d.n d.c, .slice (some ⟨w.heap.size, 0, none⟩) 1 1]).run Try.prog (w.alloc (.cells #[.int .u8 v] 5)) = .ok (.slice d'.a d'.n d'.c) w' ∧ Row w' d' (zs ++ [v]) ∧ Keep (fun b => blk d.a = some b) w w' ∧ (∀ b, blk d'.a = some b → blk d.a = some b ∨ w.heap.size ≤ b) := by
  obtain ⟨i0, hi, hz0, hz1, hz2⟩ := info_parts info5
  obtain ⟨a', c', w', h1, h2, h3, h4⟩ := app_one (v := .int .u8 v) Try.underlying22 hi hz0 hz1 hz2 (by omega) rfl rfl h hn
  exact ⟨⟨a', d.n + 1, c'⟩, w', h1, by show Sub _ _ _ _ _ _ (u8s _); rw [show u8s (zs ++ [v]) = u8s zs ++ [.int .u8 v] from List.map_append]; exact h2, h3, h4⟩

set_option maxHeartbeats 1000000 in
theorem check_any (k n ad : Sv) (size : Int) (w : World) :
    Calls Try.prog 52 #[.slice k.a k.n k.c, .slice n.a n.n n.c, .slice ad.a ad.n ad.c, .int .i64 size] w fun e w' => e = .returned (.int .i64 (chkE k.n n.n ad.n size)) ∧ w' = w := by
  obtain ⟨ka, kn, kc⟩ := k
  obtain ⟨na, nn, nc⟩ := n
  obtain ⟨aa, an, ac⟩ := ad
  dsimp only
  by_cases h1 : (255 : Int) < (kn : Int)
  · have HE := hid (show chkE kn nn an size = 70 from by unfold chkE; rw [if_pos (by omega)])
    go_enter Try.func52, Try.ntmps52
    go_wp2
    go_ret
    exact ⟨ret_int HE.out.symm, rfl⟩
  by_cases h2 : (255 : Int) < (nn : Int)
  · have HE := hid (show chkE kn nn an size = 70 from by unfold chkE; rw [if_pos (by omega)])
    go_enter Try.func52, Try.ntmps52
    go_wp2
    go_ret
    exact ⟨ret_int HE.out.symm, rfl⟩
  by_cases h3 : (16384 : Int) < (an : Int)
  · have HE := hid (show chkE kn nn an size = 52 from by unfold chkE; rw [if_neg (by omega), if_pos (by omega)])
    go_enter Try.func52, Try.ntmps52
    go_wp2
    go_ret
    exact ⟨ret_int HE.out.symm, rfl⟩
  by_cases h4 : (16384 : Int) < size
  · have HE := hid (show chkE kn nn an size = 52 from by unfold chkE; rw [if_neg (by omega), if_pos (by omega)])
    go_enter Try.func52, Try.ntmps52
    go_wp2
    go_ret
    exact ⟨ret_int HE.out.symm, rfl⟩
  have HE := hid (show chkE kn nn an size = 0 from by unfold chkE; rw [if_neg (by omega), if_neg (by omega)])
  go_enter Try.func52, Try.ntmps52
  go_wp2
  go_ret
  exact ⟨ret_int HE.out.symm, rfl⟩

/-- The bytes that a slice brings. -/
structure In (w : World) (x : Sv) (zs : List Int) : Prop where
  s : Seg w x.a zs
  l : zs.length = x.n
  z : ∀ y ∈ zs, 0 ≤ y ∧ y < 256
theorem In.q {w w' : World} {x : Sv} {zs : List Int} (h : In w x zs) (k : Q w w') : In w' x zs := ⟨h.s.q k, h.l, h.z⟩
theorem one_byte (c : Int) (h0 : 0 ≤ c) (h1 : c < 256) : ∀ y ∈ [c], 0 ≤ y ∧ y < 256 := by
  intro y hy
  simp only [List.mem_cons, List.not_mem_nil, or_false] at hy
  omega
/-- with, of one byte that the call lays. -/
theorem with_one (m : Mx) (x : Int) (w : World) (h0 : 0 ≤ x) (h1 : x < 256) :
    Calls Try.prog 68 #[mv m, .slice (some ⟨w.heap.size, 0, none⟩) 1 1] (w.alloc (.cells #[.int .u8 x] 5)) fun e w' => e = .returned (mv (mix m [x])) ∧ Q w w' := by
  refine (with_any m (some ⟨w.heap.size, 0, none⟩) 1 1 [x] _ rfl (by omega) (one_byte x h0 h1) (seg_lit1 w x)).mono ?_
  rintro e w1 ⟨rfl, q⟩
  exact ⟨rfl, ((Q.refl w).alloc _).trans q⟩

set_option maxHeartbeats 4000000 in
theorem tagOf_any (k n ad c : Sv) (ks ns az cs : List Int) (w : World) (hk : In w k ks) (hn : In w n ns) (ha : In w ad az) (hc : In w c cs) (bk : k.n ≤ 255) (bn : n.n ≤ 255) (ba : ad.n ≤ 16384) (bc : c.n ≤ 16384) :
    Calls Try.prog 54 #[.slice k.a k.n k.c, .slice n.a n.n n.c, .slice ad.a ad.n ad.c, .slice c.a c.n c.c] w fun e w' => e = .returned (arr (tagL ks ns az cs)) ∧ Q w w' := by
  obtain ⟨ka, kn, kc⟩ := k
  obtain ⟨na, nn, nc⟩ := n
  obtain ⟨aa, an, ac⟩ := ad
  obtain ⟨ca, cn, cc⟩ := c
  dsimp only at *
  have HK := hid hk
  have HN := hid hn
  have HA := hid ha
  have HC := hid hc
  have HT := hid (show tagL ks ns az cs = sumL (mix (mix (mix (mix (mix (mix st0 [2]) (tx ks)) (tx ns)) (wrd an)) az) cs) from by
    simp only [mix_append, tagL, dg, pre]; rw [show az.length = an from ha.l]; simp)
  have HTL := hid (tagL_len ks ns az cs)
  generalize tagL ks ns az cs = ts at *
  clear hk hn ha hc
  go_enter Try.func54, Try.ntmps54
  go_wp2_with fail
  generalize hw1 : World.alloc w _ = w1
  have q1 : Q w w1 := by rw [← hw1]; exact (Q.refl w).alloc _
  have Z1 := hid (show w1.heap[w.heap.size]? = some (.cells z16 90 (0, 0)) from by rw [← hw1]; exact heap_alloc_new w _)
  have Q1 := hid q1
  clear hw1 q1
  refine (start_any w1).mono ?_
  rintro e w2 ⟨rfl, q2⟩
  have Q2 := hid (Q1.out.trans q2)
  have Z2 := hid (show w2.heap[w.heap.size]? = some (.cells z16 90 (0, 0)) from (Below.block q2 _ (lt_of_block Z1.out)).trans Z1.out)
  clear Q1 Z1 q2
  generalize st0 = m0 at *
  go_wp2_with fail
  refine (with_one m0 2 w2 (by omega) (by omega)).mono ?_
  rintro e w3 ⟨rfl, q3⟩
  have Q3 := hid (Q2.out.trans q3)
  have Z3 := hid (show w3.heap[w.heap.size]? = some (.cells z16 90 (0, 0)) from (Below.block q3 _ (lt_of_block Z2.out)).trans Z2.out)
  clear Q2 Z2 q3
  generalize mix m0 [2] = m1 at *
  go_wp2_with fail
  refine (sized_any m1 ka kn kc ks w3 HK.out.l (by omega) HK.out.z (HK.out.s.q Q3.out)).mono ?_
  rintro e w4 ⟨rfl, q4⟩
  have Q4 := hid (Q3.out.trans q4)
  have Z4 := hid (show w4.heap[w.heap.size]? = some (.cells z16 90 (0, 0)) from (Below.block q4 _ (lt_of_block Z3.out)).trans Z3.out)
  clear Q3 Z3 q4
  generalize mix m1 (tx ks) = m2 at *
  go_wp2_with fail
  refine (sized_any m2 na nn nc ns w4 HN.out.l (by omega) HN.out.z (HN.out.s.q Q4.out)).mono ?_
  rintro e w5 ⟨rfl, q5⟩
  have Q5 := hid (Q4.out.trans q5)
  have Z5 := hid (show w5.heap[w.heap.size]? = some (.cells z16 90 (0, 0)) from (Below.block q5 _ (lt_of_block Z4.out)).trans Z4.out)
  clear Q4 Z4 q5
  generalize mix m2 (tx ns) = m3 at *
  go_wp2_with fail
  generalize hw6 : World.alloc w5 _ = w6
  have q6 : Q w5 w6 := by rw [← hw6]; exact (Q.refl w5).alloc _
  have Q6 := hid (Q5.out.trans q6)
  have Z6 := hid (show w6.heap[w.heap.size]? = some (.cells z16 90 (0, 0)) from (Below.block q6 _ (lt_of_block Z5.out)).trans Z5.out)
  clear Q5 Z5 q6 hw6
  refine (number_any m3 an w6).mono ?_
  rintro e w7 ⟨rfl, q7⟩
  have Q7 := hid (Q6.out.trans q7)
  have Z7 := hid (show w7.heap[w.heap.size]? = some (.cells z16 90 (0, 0)) from (Below.block q7 _ (lt_of_block Z6.out)).trans Z6.out)
  clear Q6 Z6 q7
  generalize mix m3 (wrd an) = m4 at *
  go_wp2_with fail
  refine (with_any m4 aa an ac az w7 HA.out.l (by omega) HA.out.z (HA.out.s.q Q7.out)).mono ?_
  rintro e w8 ⟨rfl, q8⟩
  have Q8 := hid (Q7.out.trans q8)
  have Z8 := hid (show w8.heap[w.heap.size]? = some (.cells z16 90 (0, 0)) from (Below.block q8 _ (lt_of_block Z7.out)).trans Z7.out)
  clear Q7 Z7 q8
  generalize mix m4 az = m5 at *
  go_wp2_with fail
  refine (with_any m5 ca cn cc cs w8 HC.out.l (by omega) HC.out.z (HC.out.s.q Q8.out)).mono ?_
  rintro e w9 ⟨rfl, q9⟩
  have Q9 := hid (Q8.out.trans q9)
  have Z9 := hid (show w9.heap[w.heap.size]? = some (.cells z16 90 (0, 0)) from (Below.block q9 _ (lt_of_block Z8.out)).trans Z8.out)
  clear Q8 Z8 q9
  generalize mix m5 cs = m6 at *
  go_wp2_with fail
  refine (sum_any m6 w9).mono ?_
  rintro e w4 ⟨rfl, q4⟩
  have Q4 := hid (Q9.out.trans q4)
  have Z4 := hid (show w4.heap[w.heap.size]? = some (.cells z16 90 (0, 0)) from (Below.block q4 _ (lt_of_block Z9.out)).trans Z9.out)
  rw [← HT.out]
  clear q4 Q9 Z9 HT
  go_wp2_with (refine wpList_store_row rfl 90 _ _ rfl w.heap.size (u8s ts).toArray rfl rfl 90 z16 Z4.out (arr_info _ HTL.out) (arr_sizes _ _ rfl HTL.out) (arr_one _) ?_; refine Hid.out ?_)
  refine hid ?_
  go_wp2
  refine ret_arr rfl rfl w.heap.size ts rfl HTL.out (setRow_heap w4 _ _ _ 90 _ Z4.out) ⟨rfl, ?_⟩
  have k4 : Keep (fun i => i = w.heap.size) w4 (w4.setRow w.heap.size (u8s ts).toArray) := (Keep.refl _ w4).setRow _ _ (.inl rfl)
  exact k4.below Q4.out Q4.out.size (fun i e => by omega)
end Go.Proofs.Ytnnjogfpapndaaa
