/-
  What the law's own copied does: a contract that the statements' walks use.
-/
import Derived.Test.YtekpepnonhbkcaaShJ
import Derived.Laws.Tables
namespace Go.Proofs.Ytekpepnonhbkcaa
open Go.RowKit
set_option linter.unusedVariables false
set_option maxRecDepth 20000

theorem rowT_appendW {w : World} {d : Sv} {zs ys : List ByteArray} {x : Value} {m : Nat} {ty : TypeId} (h : RowT w d zs) (hs : Src Try.prog 1 23 x m (tvs ys) w) (hn : d.n + m ≤ 8796093022208) :
    ∃ d' w', (Builtin.append_ #[23, 23] ty #[.slice d.a d.n d.c, x]).run Try.prog w = .ok (.slice d'.a d'.n d'.c) w' ∧ RowT w' d' (zs ++ ys) ∧ Keep (fun b => blk d.a = some b) w w' ∧ (blk d'.a = blk d.a ∨ blk d'.a = some w.heap.size) := by
  obtain ⟨i0, hi, hz0, hz1, hz2⟩ := info_parts info9
  obtain ⟨a', c', w', h1, h2, h3, h4⟩ := sub_append (P := Try.prog) (ty := ty) Try.underlying23 hi hz0 hz1 hz2 rfl h hs (by unfold maxLen; omega) (by omega)
  exact ⟨⟨a', d.n + m, c'⟩, w', h1, by show Sub _ _ _ _ _ _ (tvs _); rw [show tvs (zs ++ ys) = tvs zs ++ tvs ys from List.map_append]; exact h2, h3, h4⟩
theorem row_of_own {w : World} {base g n : Nat} {zs : List Int} (h : Own w base (some ⟨g, 0, none⟩) n n zs) (hm : n ≤ maxLen) : Row w ⟨some ⟨g, 0, none⟩, n, n⟩ zs := by
  have hl := h.len
  refine ⟨by simp [hl], .inr ⟨g, 0, _, rfl, own_block h, Nat.le_refl _, hm, by simp [hl], fun j hj => by simp⟩⟩
theorem ccells_set34 (sv : Bool) (rs : List Int) (pv : Int) (t p y : Sv) (hl : rs.length = 32) : (ccells sv rs pv t p).set 34 (.slice y.a y.n y.c) = ccells sv rs pv y p := by
  unfold ccells
  rw [show 34 = 33 + 1 from rfl, List.set_cons_succ, List.set_append_right _ _ (by simp [hl])]
  simp [hl]
theorem ccells_set35 (sv : Bool) (rs : List Int) (pv : Int) (t p z : Sv) (hl : rs.length = 32) : (ccells sv rs pv t p).set 35 (.slice z.a z.n z.c) = ccells sv rs pv t z := by
  unfold ccells
  rw [show 35 = 34 + 1 from rfl, List.set_cons_succ, List.set_append_right _ _ (by simp [hl])]
  simp [hl]
theorem CB.set34 {w : World} {cb : Nat} {sv : Bool} {rs : List Int} {pv : Int} {t p : Sv} (h : CB w cb sv rs pv t p) (hl : rs.length = 32) (y : Sv) : CB (w.setCell ⟨cb, 34, none⟩ (.slice y.a y.n y.c)) cb sv rs pv y p := by
  have h1 := heap_setCell_same w cb 34 _ 26 (.slice y.a y.n y.c) h
  unfold CB
  rw [h1, ← ccells_set34 sv rs pv t p y hl]
  simp
theorem CB.set35 {w : World} {cb : Nat} {sv : Bool} {rs : List Int} {pv : Int} {t p : Sv} (h : CB w cb sv rs pv t p) (hl : rs.length = 32) (z : Sv) : CB (w.setCell ⟨cb, 35, none⟩ (.slice z.a z.n z.c)) cb sv rs pv t z := by
  have h1 := heap_setCell_same w cb 35 _ 26 (.slice z.a z.n z.c) h
  unfold CB
  rw [h1, ← ccells_set35 sv rs pv t p z hl]
  simp
theorem ccells_one (sv : Bool) (rs : List Int) (pv : Int) (t p : Sv) : (ccells sv rs pv t p).toArray.all (·.oneCell') = true := by
  rw [List.all_toArray, List.all_eq_true]
  intro v hv
  unfold ccells at hv
  simp only [List.mem_cons, List.mem_append, List.not_mem_nil, or_false] at hv
  rcases hv with rfl | hv | rfl | rfl | rfl
  · rfl
  · exact ints_oneCell _ _ v hv
  · rfl
  · rfl
  · rfl
theorem ccells_info {sv : Bool} {rs : List Int} {pv : Int} {t p : Sv} (hl : rs.length = 32) : (Try.prog.info? 26).map (·.size) = some (ccells sv rs pv t p).toArray.size := by
  rw [show (ccells sv rs pv t p).toArray.size = 36 from by rw [List.size_toArray]; exact ccells_len hl]
  kernel_rfl
theorem ret_cfg {fn : Func} {p : Tmp} {a : Act} {w : World} {R : Ending → World → Prop} (hr : fn.results = #[.cell p 26]) (hd : a.defers = [])
    (g : Nat) (cs : Array Value) (hi : (Try.prog.info? 26).map (·.size) = some cs.size) (hp : a.tmps.getD p undef = .pointer (some ⟨g, 0, none⟩)) (hb : w.heap[g]? = some (.cells cs 26 (0, 0))) (hR : R (.returned (.agg cs)) w) : bodyPost Try.prog fn R .ret a w :=
  ⟨hd, _, results_cell_row hr _ w g 26 _ (0, 0) _ hp hb Try.underlying26 rfl hi, hR⟩
set_option maxHeartbeats 8000000 in
theorem copied_any (sv : Bool) (rs : List Int) (pv : Int) (t p : Sv) (ss : List ByteArray) (ps : List Int) (w : World) (hl : rs.length = 32) (ht : SegT w t.a ss) (htl : ss.length = t.n) (hp : Seg w p.a ps) (hpl : ps.length = p.n) (hpn : p.n ≤ 140737488355328) (htn : t.n ≤ 8796093022208) :
    Calls Try.prog 7 #[.agg (ccells sv rs pv t p).toArray] w fun e w' => ∃ t' p' : Sv, e = .returned (.agg (ccells sv rs pv t' p').toArray) ∧ Q w w' ∧ RowT w' t' ss ∧ Row w' p' ps ∧ New w.heap.size t' ∧ New w.heap.size p' := by
  obtain ⟨ta, tn, tc⟩ := t
  obtain ⟨pa, pn, pc⟩ := p
  dsimp only at htl hpl ht hp hpn htn
  have HL := hid hl
  have HT := hid ht
  have HP := hid hp
  have LT := hid htl
  have LP := hid hpl
  have HPN := hid hpn
  have HTN := hid htn
  clear hl ht htl hp hpl hpn htn
  go_enter Try.func7, Try.ntmps7
  go_upto_region 1 with fail
  generalize hw1 : World.alloc (World.alloc w _) _ = w1
  have B1 := hid (show CB w1 w.heap.size sv rs pv ⟨ta, tn, tc⟩ ⟨pa, pn, pc⟩ from by rw [← hw1]; exact CB.q (heap_alloc_new w _) ((Q.refl _).alloc _))
  obtain ⟨old, T1, hos⟩ : ∃ old : Array Value, w1.heap[w.heap.size + 1]? = some (.cells old 26 (0, 0)) ∧ old.size = 36 := ⟨_, by
    rw [← hw1]
    have e : (w.alloc (.cells (ccells sv rs pv ⟨ta, tn, tc⟩ ⟨pa, pn, pc⟩).toArray 26)).heap.size = w.heap.size + 1 := by simp
    rw [← e]; exact heap_alloc_new _ _, by kernel_rfl⟩
  have Q1 := hid (show Q w w1 from by rw [← hw1]; exact ((Q.refl w).alloc _).alloc _)
  have HT1 := hid T1
  have HOS := hid hos
  clear hw1 T1 hos
  generalize hcb : w.heap.size = cb at *
  have HCB := hid hcb
  clear hcb
  have c35 := B1.out.c35 HL.out
  dsimp only at c35
  have CP := hid (rcopy_any pa pn pc ps w1 LP.out HPN.out (HP.out.q Q1.out))
  go_wp2_with fail
  refine CP.out.mono ?_
  rintro e w2 ⟨g, rfl, q2, o2, hg⟩
  have B2 := B1.out.q q2
  have d35 := B2.c35 HL.out
  have f35 := frozen_of_row w2 cb 35 _ 26 B2
  dsimp only at d35
  have B3 := hid (B2.set35 HL.out ⟨some ⟨g, 0, none⟩, pn, pn⟩)
  have k3 : Keep (fun b => b = cb) w2 (w2.setCell ⟨cb, 35, none⟩ (.slice (some ⟨g, 0, none⟩) pn pn)) := (Keep.refl (fun b => b = cb) w2).setCell cb 35 _ (.inl rfl)
  have hcl : cb + 1 < w1.heap.size := lt_of_block HT1.out
  have R3 := hid (Sub.keep (row_of_own o2 (by have := HPN.out; unfold maxLen; omega)) k3 (fun b e e2 => by simp only [blk, Option.map_some, Option.some.injEq] at e; omega))
  have Q3 := hid (show Q w (w2.setCell ⟨cb, 35, none⟩ (.slice (some ⟨g, 0, none⟩) pn pn)) from k3.below (Q1.out.trans q2) (Q1.out.trans q2).size (fun i e => by rw [e, ← HCB.out]; exact Nat.le_refl _))
  have T3 := hid (show (w2.setCell ⟨cb, 35, none⟩ (.slice (some ⟨g, 0, none⟩) pn pn)).heap[cb + 1]? = some (.cells old 26 (0, 0)) from (k3.block _ (Nat.lt_of_lt_of_le hcl q2.size) (by omega)).trans ((Below.block q2 _ hcl).trans HT1.out))
  have HG := hid (show cb + 1 < g by omega)
  clear q2 o2 hg B2 k3 hcl CP c35
  go_upto_region 2 with fail
  generalize w2.setCell ⟨cb, 35, none⟩ (.slice (some ⟨g, 0, none⟩) pn pn) = w3 at *
  clear d35 f35
  have q3a : Q w3 (w3.alloc (.cells #[] 9)) := (Q.refl w3).alloc _
  have B4 := B3.out.q q3a
  have c34 := B4.c34 HL.out
  dsimp only at c34
  obtain ⟨⟨ya, yn, yc⟩, w4, hrun, hrow, hkp, hb⟩ := rowT_appendW (ty := 23) (x := .slice ta tn tc) (m := tn) (ys := ss) (rowT_empty w3) (src_segT (HT.out.q (Q3.out.trans q3a)) LT.out) (by show 0 + tn ≤ _; have := HTN.out; omega)
  dsimp only at hrun hb
  have hcl : cb + 1 < w3.heap.size := lt_of_block T3.out
  have hg3 : g < w3.heap.size := Sub.lt R3.out g rfl
  have hyb : ∀ b, blk ya = some b → w3.heap.size ≤ b := by
    intro b e
    rcases hb with h | h
    · rw [h] at e; simp only [blk, Option.map_some, Option.some.injEq] at e; omega
    · rw [h] at e; simp at e; omega
  have hko : ∀ b, b < w3.heap.size → ¬ blk (some (⟨w3.heap.size, 0, none⟩ : Addr)) = some b := by
    intro b h e
    simp only [blk, Option.map_some, Option.some.injEq] at e
    omega
  have B5 : CB w4 cb sv rs pv ⟨ta, tn, tc⟩ ⟨some ⟨g, 0, none⟩, pn, pn⟩ := (hkp.block cb (lt_of_block B4) (hko cb (by omega))).trans B4
  have d34 := B5.c34 HL.out
  have f34 := frozen_of_row w4 cb 34 _ 26 B5
  dsimp only at d34
  have B6 := hid (B5.set34 HL.out ⟨ya, yn, yc⟩)
  have k6 : Keep (fun b => b = cb) w4 (w4.setCell ⟨cb, 34, none⟩ (.slice ya yn yc)) := (Keep.refl (fun b => b = cb) w4).setCell cb 34 _ (.inl rfl)
  have RP6 := hid (Sub.keep (Sub.keep (Sub.q R3.out q3a) hkp (fun b e => hko b (by simp only [blk, Option.map_some, Option.some.injEq] at e; omega))) k6 (fun b e e2 => by simp only [blk, Option.map_some, Option.some.injEq] at e; have := HG.out; omega))
  have RT6 := hid (show RowT (w4.setCell ⟨cb, 34, none⟩ (.slice ya yn yc)) ⟨ya, yn, yc⟩ ss from Sub.keep hrow k6 (fun b e e2 => by have := hyb b e; omega))
  have q4 : Q w w4 := hkp.below (Q3.out.trans q3a) (Q3.out.trans q3a).size (fun i e => by simp only [blk, Option.map_some, Option.some.injEq] at e; have := HCB.out; omega)
  have Q6 := hid (show Q w (w4.setCell ⟨cb, 34, none⟩ (.slice ya yn yc)) from k6.below q4 q4.size (fun i e => by rw [e, ← HCB.out]; exact Nat.le_refl _))
  have T6 := hid (show (w4.setCell ⟨cb, 34, none⟩ (.slice ya yn yc)).heap[cb + 1]? = some (.cells old 26 (0, 0)) from (k6.block _ (Nat.lt_of_lt_of_le (Nat.lt_of_lt_of_le hcl q3a.size) hkp.size) (by omega)).trans ((hkp.block _ (Nat.lt_of_lt_of_le hcl q3a.size) (hko _ hcl)).trans ((Below.block q3a _ hcl).trans T3.out)))
  have NY := hid (show New w.heap.size ⟨ya, yn, yc⟩ from fun b e => by have := hyb b e; have := HCB.out; omega)
  have NP := hid (show New w.heap.size ⟨some ⟨g, 0, none⟩, pn, pn⟩ from fun b e => by simp only [blk, Option.map_some, Option.some.injEq] at e; have := HG.out; have := HCB.out; omega)
  have HYB := hid (show ∀ b, blk ya = some b → b ≠ cb + 1 from fun b e => by have := hyb b e; omega)
  clear B4 B5 k6 hyb hko hcl hg3 hb hkp hrow q3a q4
  go_upto_region 3 with (at_builtin; refine Lib.wpList_append_run _ rfl _ _ _ _ rfl _ _ rfl rfl _ _ hrun ?_)
  generalize w4.setCell ⟨cb, 34, none⟩ (.slice ya yn yc) = w6 at *
  clear hrun d34 f34 c34
  have HIN := hid (ccells_info (sv := sv) (pv := pv) (t := ⟨ya, yn, yc⟩) (p := ⟨some ⟨g, 0, none⟩, pn, pn⟩) HL.out)
  have HON := hid (ccells_one sv rs pv ⟨ya, yn, yc⟩ ⟨some ⟨g, 0, none⟩, pn, pn⟩)
  have HBX := hid (show w6.heap[cb]? = some (.cells (ccells sv rs pv ⟨ya, yn, yc⟩ ⟨some ⟨g, 0, none⟩, pn, pn⟩).toArray 26 (0, 0)) from B6.out)
  have HSZ := hid (show old.size = (ccells sv rs pv ⟨ya, yn, yc⟩ ⟨some ⟨g, 0, none⟩, pn, pn⟩).toArray.size by rw [HOS.out, List.size_toArray, ccells_len HL.out])
  go_wp2_with (first
    | (refine wpList_load_row rfl 26 _ rfl cb rfl 26 _ (0, 0) _ HBX.out Try.underlying26 rfl HIN.out ?_)
    | (refine wpList_store_row rfl 26 _ _ rfl (cb + 1) _ rfl rfl 26 _ T6.out HIN.out HSZ.out HON.out ?_; refine Hid.out ?_))
  refine hid ?_
  generalize hw7 : World.setRow _ _ _ = w7
  have k7 : Keep (fun i => i = cb + 1) w6 w7 := by rw [← hw7]; exact (Keep.refl _ w6).setRow _ _ (.inl rfl)
  have b7 : w7.heap[cb + 1]? = some (.cells (ccells sv rs pv ⟨ya, yn, yc⟩ ⟨some ⟨g, 0, none⟩, pn, pn⟩).toArray 26 (0, 0)) := by rw [← hw7]; exact setRow_heap _ _ _ _ 26 _ T6.out
  clear hw7
  have q7 : Q w w7 := k7.below Q6.out Q6.out.size (fun i e => by have := HCB.out; omega)
  go_wp2
  refine ret_cfg rfl rfl (cb + 1) _ HIN.out rfl b7 ⟨⟨ya, yn, yc⟩, ⟨some ⟨g, 0, none⟩, pn, pn⟩, rfl, q7, ?_, ?_, NY.out, NP.out⟩
  · exact Sub.keep RT6.out k7 (fun b e e2 => HYB.out b e e2)
  · exact Sub.keep RP6.out k7 (fun b e e2 => by simp only [blk, Option.map_some, Option.some.injEq] at e; have := HG.out; omega)
end Go.Proofs.Ytekpepnonhbkcaa
