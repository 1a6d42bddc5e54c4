/-
  What the program's inner send answers and does, and then Next: contracts that the statements' walks use.
-/
import Derived.Test.YtppemfdoogmeeaaIx
import Derived.Test.YtppemfdoogmeeaaEnd
import Derived.Test.YtppemfdoogmeeaaStep
import Derived.BigRegion
namespace Go.Proofs.Ytppemfdoogmeeaa
open Go.RowKit
set_option linter.unusedVariables false

theorem made_zero (s : Nat) : (madeCells (Value.int IntKind.u8 0).cells (s * 1)).toList = (List.replicate s 0).map (Value.int .u8) := by
  simp [Value.cells, toList_madeCells_one]

theorem made_block {w : World} {base g n : Nat} {vs : List Value} (h : w.ownsRow base 5 1 (.slice (some ⟨g, 0, none⟩) n n) n vs) : w.heap[g]? = some (.cells vs.toArray 5 (0, 0)) := by
  rcases h.2 with ⟨h2, h3⟩ | ⟨g', cap', cur, hv, hb, hg, h1, h2, h3, h4⟩
  · simp at h2
  · simp only [Value.slice.injEq, Option.some.injEq, Addr.mk.injEq, and_true, true_and] at hv
    obtain ⟨rfl, rfl⟩ := hv
    rw [hg, ← h4, List.take_of_length_le (by simp; omega)]

/-- The cells of a row from a place on. -/
theorem row_from {w : World} {g o n c : Nat} {zs : List Int} (h : Row w ⟨some ⟨g, o, none⟩, n, c⟩ zs) (f k : Nat) (hf : f + k ≤ n) : ∀ j v, (u8s ((zs.drop f).take k))[j]? = some v → w.cell? ((⟨g, o + f, none⟩ : Addr).add j) = some v := by
  intro j v hj
  have hl := h.len
  simp only at hl
  have hj' : j < k ∧ j < zs.length - f := by
    have : j < ((zs.drop f).take k).length := by
      rcases Nat.lt_or_ge j ((zs.drop f).take k).length with hh | hh
      · exact hh
      · rw [List.getElem?_eq_none (by simpa using hh)] at hj; cases hj
    simp at this; omega
  obtain ⟨g', o', e, _, hc⟩ := row_cells h (show 0 < n by omega)
  cases e
  rw [addr_add, Nat.add_assoc, hc (f + j) (by simp; omega)]
  rw [List.getElem?_map, List.getElem?_take, if_pos hj'.1, List.getElem?_drop, at_get (by omega)] at hj
  simpa using hj

set_option maxHeartbeats 4000000 in
theorem send_any (rb : Nat) (d m : Sv) (room : Int) (s : S) (a k t : Nat) (w : World) (ht : t = a + k) (hB : Bf w rb d m room s) (hO : Ok room s) (hL : s.ms.length ≤ 4611686018427387904) (ha : bas s ≤ a) (hk : 0 < k) (hin : a + k ≤ s.ms.length) (h3 : ∀ i, a ≤ i → i < a + k → at_ s.ms i ≠ 3) :
    Calls Try.prog 26 #[.pointer (some ⟨rb, 0, none⟩), .int .i64 a, .int .i64 t] w fun e w' => ∃ D, e = .returned (.slice (some ⟨D, 0, none⟩) k k) ∧ Bf w' rb d m room (goS s a k) ∧ Row w' ⟨some ⟨D, 0, none⟩, k, k⟩ ((s.bs.drop a).take k) ∧ w.heap.size ≤ D ∧ Keep (Fp rb d m) w w' := by
  obtain ⟨i0, hi, hz0, hz1, hz2⟩ := info_parts info5
  have hbas : bas (goS s a k) = bas s := ld3_rg (fun i h1 h2 _ => by have := h3 i h1 h2; omega)
  have hdn := hB.dn
  have hmn := hB.mn
  have hlen := hO.len
  have hroom := hO.room
  have hr1 := hO.r1
  have hdc := hB.rs.sd.cap
  obtain ⟨da, dn, dc⟩ := d
  obtain ⟨ma, mn, mc⟩ := m
  simp only at hdn hmn hdc
  obtain ⟨g, o, e1, _, _⟩ := row_cells hB.rs.sd (show 0 < dn by omega)
  obtain ⟨g2, o2, e2, _, _⟩ := row_cells hB.rs.sm (show 0 < mn by omega)
  simp only at e1 e2
  subst e1
  subst e2
  generalize hbs : bas s = b at *
  obtain ⟨f, hfa⟩ : ∃ f, a = b + f := ⟨a - b, by omega⟩
  obtain ⟨u, hu⟩ : ∃ u, u = f + k := ⟨_, rfl⟩
  have hudn : u ≤ dn := by omega
  have humn : u ≤ mn := by omega
  have hfu : f < u := by omega
  have hdrop : (s.bs.drop b).drop f = s.bs.drop a := by rw [List.drop_drop, hfa]
  have hrg : (goS s a k).ms.drop b = rg (fun _ => 1) (s.ms.drop b) f u := by
    show (rg _ _ _ _).drop b = _
    rw [rg_drop]; congr 1 <;> omega
  have hld : (s.ms.drop b).length = mn := by rw [List.length_drop]; omega
  have hlb : ((s.bs.drop a).take k).length = k := by simp; omega
  have HB := hid hB
  have HBA := hid hbas
  have HBS := hid hbs
  have HDR := hid hdrop
  have HRG := hid hrg
  have HLD := hid hld
  have HLB := hid hlb
  have HFK := hid (show f + k ≤ dn by omega)
  have HST := hid (show (goS s a k).sent = max s.sent t by rw [ht]; rfl)
  have hw1 : IntKind.i64.wrap ((t : Int) - (a : Int)) = k := by rw [IntKind.wrap_i64]; omega
  have hw2 : IntKind.i64.wrap ((a : Int) - (b : Int)) = f := by rw [IntKind.wrap_i64]; omega
  have hw3 : IntKind.i64.wrap ((t : Int) - (b : Int)) = u := by rw [IntKind.wrap_i64]; omega
  have hne : ¬ dc = f := by omega
  have hle1 : f ≤ dn := by omega
  have hk6 : k ≤ 65536 := by omega
  have HKS := hid (show k ≤ dn - f by omega)
  have hu6 : u ≤ 65536 := by omega
  have hmx : max (s.sent : Int) (t : Int) = ((max s.sent t : Nat) : Int) := by omega
  clear hB hO hbas hbs hdrop hrg hld hlb h3 hlen hroom hr1 hu hfa ht hdn hmn hin hL hz2
  go_enter Try.func26, Try.ntmps26
  go_wp2_with (at_make; refine wpList_make_full _ rfl _ _ 27 rfl w.heap.size 5 i0 (.int .u8 0) 1 Try.underlying27 hi hz0 hz1 .i64 .i64 _ _ k rfl rfl rfl rfl (by have := info_parts info5; obtain ⟨j0, q1, q2, q3, q4⟩ := this; rw [hi] at q1; cases q1; rw [q4]; omega) (by unfold maxLen; omega) (Nat.le_refl _) ?_; intro w1 hown hgr)
  rw [made_zero] at hown
  have hblk := made_block hown
  have HQ1 := hid ((Q.refl w).grown hgr)
  have hB1 := HB.out.q HQ1.out
  have c1 := hB1.hd.c1
  have c3 := hB1.hd.c3
  simp only at c3
  rw [HBS.out] at c1
  have HB1 := hid hB1
  have HBK := hid hblk
  clear hown hgr hblk hB1 hi hz0 hz1
  obtain ⟨w2, hr, hk2, hr2⟩ := row_copy w1.drew 3 w.heap.size k ⟨g, o + f, none⟩ (dn - f) (dc - f) HBK.out ((s.bs.drop a).take k) HLB.out HKS.out (by unfold maxLen; omega) (by rw [← HDR.out]; have := row_from (HB1.out.q ((Q.refl w1).drew)).rs.sd f k HFK.out; rw [HBS.out] at this; exact this)
  have HR := hid hr
  have HK2 := hid hk2
  have HR2 := hid hr2
  clear hr hk2 hr2
  go_wp2
  go_region_law (refine step_copy rfl _ _ _ _ rfl (by simp [Act.eval, Act.put]) (by simp [Act.eval, Act.put]) HR.out ?_)
  all_goals
    have hD : ¬ Fp rb ⟨some ⟨g, o, none⟩, dn, dc⟩ ⟨some ⟨g2, o2, none⟩, mn, mc⟩ w.heap.size := fun e => by have := HB.out.lt _ e; omega
    have HKW := hid (show Keep (Fp rb ⟨some ⟨g, o, none⟩, dn, dc⟩ ⟨some ⟨g2, o2, none⟩, mn, mc⟩) w w2 from (Keep.ofQ HQ1.out).trans' (Keep.ofDrew HK2.out) (fun i hi e => by omega))
    have HB2 := hid (HB.out.keep (F := fun k => k = w.heap.size) (((Keep.ofQ HQ1.out).trans (Keep.ofDrew HK2.out))) (fun i hi e => hD (by rw [← e]; exact hi)))
    have HN2 := hid (show g2 ≠ rb ∧ g2 ≠ g ∧ g2 < w.heap.size from ⟨fun e => HB.out.rs.e2 (by rw [e]; rfl), fun e => HB.out.rs.e3 g rfl (by rw [e]; rfl), HB.out.lt g2 (.inr (.inr rfl))⟩)
    clear hD HB1 HK2 c1 c3
    have c1 := HB2.out.hd.c1
    rw [HBS.out] at c1
    go_wp2
    go_loopw [8] (fun i wr => ∃ j : Nat, f ≤ j ∧ j ≤ u ∧ i = .int .i64 j ∧ Hd wr rb room b s.sent ⟨some ⟨g, o, none⟩, dn, dc⟩ ⟨some ⟨g2, o2, none⟩, mn, mc⟩ s.fin s.en ∧ Rs wr rb ⟨some ⟨g, o, none⟩, dn, dc⟩ ⟨some ⟨g2, o2, none⟩, mn, mc⟩ (s.bs.drop b) (rg (fun _ => 1) (s.ms.drop b) f j) ∧ Keep (fun k => k = g2) w2 wr) (fun i _ => u - (intOf i).toNat)
    case atStart => exact ⟨f, Nat.le_refl _, by omega, rfl, by have := HB2.out.hd; rw [HBS.out] at this; exact this, by have := HB2.out.rs; rw [HBS.out] at this; rw [rg_none _ _ _ _ (Nat.le_refl _)]; exact this, Keep.refl _ _⟩
    case round =>
      obtain ⟨j, hfj, hj, rfl, hhj, hrj, hkj⟩ := hrel
      have c1 := hhj.c1
      have c4 := hhj.c4
      simp only at c4
      by_cases hlt : j < u
      · have hlt' : (j : Int) < (u : Int) := by omega
        have hm' : (j : Int) < (mn : Int) := by omega
        have hm : j < mn := by omega
        have hwi : IntKind.i64.wrap ((j : Int) + 1) = ((j + 1 : Nat) : Int) := by rw [IntKind.wrap_i64]; omega
        obtain ⟨g', o', e', hfz', hc'⟩ := row_cells hrj.sm (show 0 < mn by omega)
        cases e'
        have hcj := hc' j hm
        have fj := hfz' (o2 + j)
        have HS := hid (show Rs (wr.setCell ⟨g2, o2 + j, none⟩ (.int .u8 1)) rb ⟨some ⟨g, o, none⟩, dn, dc⟩ ⟨some ⟨g2, o2, none⟩, mn, mc⟩ (s.bs.drop b) (rg (fun _ => 1) (s.ms.drop b) f (j + 1)) from by
          have := hrj.mark rfl hm 1
          rw [← rg_set (f := fun _ => 1) hfj (by rw [HLD.out]; exact hm)]
          exact this)
        have HH := hid (hhj.keep ((Keep.refl (fun k => k = g2) wr).setCell g2 (o2 + j) (.int .u8 1) (.inl rfl)) (fun e => HN2.out.1 e.symm))
        have HK := hid (hkj.setCell g2 (o2 + j) (.int .u8 1) (.inl rfl))
        clear hhj hrj hkj hfz' hc' hj hlt
        generalize at_ (rg (fun _ => 1) (s.ms.drop b) f j) j = y at *
        go_wp2
        go_roundw
        case rel => exact ⟨j + 1, by omega, by omega, by go_num, HH.out, HS.out, HK.out⟩
        case measure => simp [intOf]; omega
      · have c2 := hhj.c2
        have f2 := hhj.free 2
        have hju : j = u := by omega
        have hge : decide ((j : Int) < (u : Int)) = false := by simp; omega
        have HH := hid (hhj.sent_ (max s.sent t))
        have HS := hid (hrj.hd 2 (.int .i64 ((max s.sent t : Nat) : Int)))
        have HKK := hid (show Keep (Fp rb ⟨some ⟨g, o, none⟩, dn, dc⟩ ⟨some ⟨g2, o2, none⟩, mn, mc⟩) w (wr.setCell ⟨rb, 2, none⟩ (.int .i64 ((max s.sent t : Nat) : Int))) from ((HKW.out.trans' hkj (fun i hi e => .inr (.inr (by rw [e]; rfl)))).setCell rb 2 _ (.inl (.inl rfl))))
        have HRW := hid (show Row (wr.setCell ⟨rb, 2, none⟩ (.int .i64 ((max s.sent t : Nat) : Int))) ⟨some ⟨w.heap.size, 0, none⟩, k, k⟩ ((s.bs.drop a).take k) from by
          refine (Sub.keep (Sub.keep HR2.out hkj ?_) ((Keep.refl (fun k => k = rb) wr).setCell rb 2 _ (.inl rfl)) ?_)
          · intro b' hb e
            have e' : w.heap.size = b' := by simpa [blk] using hb
            have := HN2.out.2.2; omega
          · intro b' hb e
            have e' : w.heap.size = b' := by simpa [blk] using hb
            have := HB.out.lt rb (.inl rfl); omega)
        rw [hju] at HS
        clear hhj hrj hkj hj hlt
        go_wp2
        go_ret
        refine ⟨w.heap.size, rfl, ⟨?_, ?_⟩, HRW.out, Nat.le_refl _, HKK.out⟩
        · rw [HBA.out, HST.out]; exact HH.out
        · rw [HBA.out, HRG.out]; exact HS.out
end Go.Proofs.Ytppemfdoogmeeaa
