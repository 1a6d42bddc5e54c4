/-
  What the document's own Copy of spans and of a frame, and the law's copied do: contracts that the statements' walks use.
-/
import Derived.Test.YtdoodbaogmdloaaAwake
import Derived.Test.YtdoodbaogmdloaaCopy
namespace Go.Proofs.Ytdoodbaogmdloaa
open Go.RowKit
set_option linter.unusedVariables false
set_option maxRecDepth 20000

theorem flatS_one (l : List (Int × Int)) : ∀ v ∈ flatS l, v.oneCell' = true := by
  intro v hv
  simp only [flatS, List.mem_flatMap] at hv
  obtain ⟨x, _, hx⟩ := hv
  simp at hx
  rcases hx with rfl | rfl <;> rfl
theorem flatS_cell {w : World} {b off : Nat} : ∀ {l : List (Int × Int)}, (∀ i, i < l.length → w.cell? ⟨b, off + i * 2, none⟩ = some (.int .i64 (l.getD i (0, 0)).1) ∧ w.cell? ⟨b, off + i * 2 + 1, none⟩ = some (.int .i64 (l.getD i (0, 0)).2)) → ∀ j v, (flatS l)[j]? = some v → w.cell? ⟨b, off + j, none⟩ = some v := by
  intro l h j v hj
  have hlt : j < l.length * 2 := by
    rcases Nat.lt_or_ge j (l.length * 2) with hh | hh
    · exact hh
    · rw [List.getElem?_eq_none (by rw [flatS_len]; exact hh)] at hj; cases hj
  have hg := flatS_get (l := l) (i := j / 2) (by omega)
  have hc := h (j / 2) (by omega)
  have h2 : j = j / 2 * 2 ∨ j = j / 2 * 2 + 1 := by omega
  rcases h2 with h2 | h2
  · rw [← h2] at hg hc
    rw [hg.1] at hj; cases hj; exact hc.1
  · have e : off + j = off + j / 2 * 2 + 1 := by omega
    rw [e, hc.2]
    have := hg.2
    rw [← h2] at this
    rw [this] at hj; exact hj

theorem copyS_run {w w1 : World} {a : Option Addr} {g n c : Nat} {l : List (Int × Int)} (h : SegS w1 a l) (hl : l.length = n) (hm : n ≤ maxLen) (hb : w1.heap[g]? = some (.cells (flatS (List.replicate n (0, 0))).toArray 77 (0, 0))) :
    ∃ w2, (Builtin.copy_ #[23, 23] 3 #[.slice (some ⟨g, 0, none⟩) n n, .slice a n c]).run Try.prog w1 = .ok (goInt n) w2 ∧ Keep (fun i => i = g) w1 w2 ∧ RowS w2 ⟨some ⟨g, 0, none⟩, n, n⟩ l := by
  obtain ⟨i0, hi, hz0, hz1, hz2⟩ := info_parts info77
  by_cases h0 : n = 0
  · subst h0
    obtain rfl : l = [] := List.eq_nil_of_length_eq_zero hl
    refine ⟨w1, ?_, Keep.refl _ _, rfl, .inr ⟨g, 0, _, rfl, hb, Nat.le_refl _, by show 0 ≤ maxLen; omega, by simp, fun j hj => by simp at hj⟩⟩
    cases a <;> simp [Builtin.copy_, run_underlying Try.underlying23, Builtin.lenOf, sizeOf, typeInfo, hi, storeCells, Builtin.firstCells, loadCells, loadCellsFrom]
  · obtain ⟨b, off, rfl, hc⟩ := h (by intro e; rw [e] at hl; simp at hl; omega)
    have hsrc : ∀ j v, (flatS l)[j]? = some v → w1.cell? ((⟨b, off, none⟩ : Addr).add j) = some v := fun j v hj => by
      rw [addr_add]; exact flatS_cell hc j v hj
    have hf := run_firstCells_some (P := Try.prog) w1 2 n ⟨b, off, none⟩ n c (flatS l) (by rw [flatS_len, hl]) hsrc
    have hst := run_storeCells_at Try.prog g 0 77 (flatS l) 0 _ w1 hb (by rw [List.size_toArray, flatS_len, flatS_len, List.length_replicate]; omega) (flatS_one l)
    have e2 : List.drop (flatS l).length (flatS (List.replicate n (0, 0))) = [] := List.drop_of_length_le (by rw [flatS_len, flatS_len]; simp [hl])
    simp only [Nat.add_zero, Nat.zero_add, List.take_zero, List.nil_append, e2, List.append_nil] at hst
    have hk := keep_row hb (flatS l)
    refine ⟨_, ?_, hk.1, ?_⟩
    · simp [Builtin.copy_, run_underlying Try.underlying23, Builtin.lenOf, sizeOf, typeInfo, hi, hz1, hf, hst]
    · exact ⟨by rw [flatS_len, hl], .inr ⟨g, 0, _, rfl, hk.2, Nat.le_refl _, hm, by rw [List.size_toArray, flatS_len]; show 0 + n * 2 ≤ _; omega, fun j hj => by simp⟩⟩

theorem own_block77 {w u : World} {m : Nat} {vs : List (Int × Int)} (h : u.ownsRow w.heap.size 77 2 (.slice (some ⟨w.heap.size, 0, none⟩) m m) m (flatS vs)) : u.heap[w.heap.size]? = some (.cells (flatS vs).toArray 77 (0, 0)) := by
  rcases h.2 with ⟨h2, h3⟩ | ⟨g, cap', cur, hv, hb, hg, h1, h2, h3, h4⟩
  · cases h2
  · simp only [Value.slice.injEq, Option.some.injEq, Addr.mk.injEq, and_true, true_and] at hv
    obtain ⟨rfl, rfl⟩ := hv
    rw [hg, ← h4, List.take_of_length_le (by simp; omega)]

set_option maxHeartbeats 1000000 in
theorem scopy_any (s : Sv) (l : List (Int × Int)) (w : World) (hl : l.length = s.n) (hn : s.n ≤ 8796093022208) (hseg : SegS w s.a l) :
    Calls Try.prog 44 #[.slice s.a s.n s.c] w fun e w' => ∃ x : Sv, e = .returned (.slice x.a x.n x.c) ∧ Q w w' ∧ RowS w' x l ∧ New w.heap.size x := by
  obtain ⟨i0, hi, hz0, hz1, hz2⟩ := info_parts info77
  obtain ⟨a, n, c⟩ := s
  dsimp only at *
  have HL := hid hl
  have HSG := hid hseg
  clear hl hseg
  go_enter Try.func44, Try.ntmps44
  go_wp2_with (at_make; refine wpList_make_full _ rfl _ _ 23 rfl w.heap.size 77 i0 (.agg #[.int .i64 0, .int .i64 0]) 2 Try.underlying23 hi hz0 hz1 .i64 .i64 _ _ n rfl rfl rfl rfl (by rw [hz2]; omega) (by unfold maxLen; omega) (Nat.le_refl _) ?_; intro w1 hown hgr)
  have hq : Q w w1 := (Q.refl w).grown hgr
  rw [made_spans] at hown
  obtain ⟨w2, hrun, hk2, hr2⟩ := copyS_run (w := w) (c := c) (HSG.out.q hq) HL.out (by unfold maxLen; omega) (own_block77 hown)
  have H2 := hid (show Q w w2 from hk2.below hq hq.size (fun i e => by omega))
  have O2 := hid hr2
  clear hown hgr hq hk2 hr2
  rw [hrun]
  clear hrun
  go_wp2
  go_ret
  exact ⟨⟨some ⟨w.heap.size, 0, none⟩, n, n⟩, rfl, H2.out, O2.out, by intro x hx; cases hx; exact Nat.le_refl _⟩

/-- A frame's words hold it, and are not too long. -/
structure Fit (w : World) (f : Fr) (d c s : Sv) : Prop where
  h : Holds w f d c s
  nd : d.n ≤ 140737488355328
  nc : c.n ≤ 140737488355328
  ns : s.n ≤ 8796093022208
theorem Fit.q {w w' : World} {f : Fr} {d c s : Sv} (h : Fit w f d c s) (q : Q w w') : Fit w' f d c s := ⟨h.h.q q, h.nd, h.nc, h.ns⟩

theorem Own.new {w : World} {base g n cap : Nat} {zs : List Int} (h : Own w base (some ⟨g, 0, none⟩) n cap zs) : New base ⟨some ⟨g, 0, none⟩, n, cap⟩ := by
  intro x hx; cases hx; exact (h.lt g rfl).1
theorem fcells_info34 (f : Fr) (d c s : Sv) : (Try.prog.info? 34).map (·.size) = some (fcells f d c s).size := by
  show _ = some 13
  kernel_rfl

set_option maxHeartbeats 16000000 in
theorem rcopyF_any (f : Fr) (d c s : Sv) (w : World) (h : Fit w f d c s) :
    Calls Try.prog 25 #[fv f d c s] w fun e w' => ∃ d' c' s' : Sv, e = .returned (fv f d' c' s') ∧ Q w w' ∧ HoldsR w.heap.size w' f d' c' s' := by
  have HH := hid h
  clear h
  go_enter Try.func25, Try.ntmps25
  go_wp2
  generalize hw1 : World.alloc (World.alloc w _) _ = w1
  have q1 : Q w w1 := by rw [← hw1]; exact ((Q.refl w).alloc _).alloc _
  have b1 : Box w1 34 w.heap.size f d c s := by rw [← hw1]; exact heap_alloc2_old w _ _
  have r1 : Box w1 34 (w.heap.size + 1) zf nilS nilS nilS := by rw [← hw1]; exact heap_alloc2_new w _ _
  have hsz : w1.heap.size = w.heap.size + 2 := by rw [← hw1]; simp
  clear hw1
  have CD := hid (show ∀ u, Q w1 u → Calls Try.prog 18 #[.slice d.a d.n d.c] u fun e w' => ∃ x : Sv, e = .returned (.slice x.a x.n x.c) ∧ Q u w' ∧ Q w1 w' ∧ Row w' x f.data ∧ New w1.heap.size x from fun u hu =>
    (rcopy_any d.a d.n d.c f.data u HH.out.h.dl HH.out.nd (HH.out.h.ds.q (q1.trans hu))).mono (by
      rintro e w' ⟨g, rfl, hq, ho, hg⟩
      exact ⟨⟨some ⟨g, 0, none⟩, d.n, d.n⟩, rfl, hq, hu.trans hq, ho.row (by simp), ho.new.mono hu.size⟩))
  have CC := hid (show ∀ u, Q w1 u → Calls Try.prog 18 #[.slice c.a c.n c.c] u fun e w' => ∃ x : Sv, e = .returned (.slice x.a x.n x.c) ∧ Q u w' ∧ Q w1 w' ∧ Row w' x f.cid ∧ New w1.heap.size x from fun u hu =>
    (rcopy_any c.a c.n c.c f.cid u HH.out.h.cl HH.out.nc (HH.out.h.cs.q (q1.trans hu))).mono (by
      rintro e w' ⟨g, rfl, hq, ho, hg⟩
      exact ⟨⟨some ⟨g, 0, none⟩, c.n, c.n⟩, rfl, hq, hu.trans hq, ho.row (by simp), ho.new.mono hu.size⟩))
  have CS := hid (show ∀ u, Q w1 u → Calls Try.prog 44 #[.slice s.a s.n s.c] u fun e w' => ∃ x : Sv, e = .returned (.slice x.a x.n x.c) ∧ Q u w' ∧ Q w1 w' ∧ RowS w' x f.sp ∧ New w1.heap.size x from fun u hu =>
    (scopy_any s f.sp u HH.out.h.sl HH.out.ns (HH.out.h.ss.q (q1.trans hu))).mono (by
      rintro e w' ⟨x, rfl, hq, ho, hg⟩
      exact ⟨x, rfl, hq, hu.trans hq, ho, hg.mono hu.size⟩))
  have B1 := hid b1
  have c6 := b1.c6
  have c7 := b1.c7
  have c8 := b1.c8
  have FIN := hid (show ∀ (wA wB wC : World) (x y z : Sv), Q w1 wA → Q wA wB → Q wB wC → Row wA x f.data → New w1.heap.size x → Row wB y f.cid → New w1.heap.size y → RowS wC z f.sp → New w1.heap.size z →
      Box (((wC.setCell ⟨w.heap.size, 6, none⟩ (.slice x.a x.n x.c)).setCell ⟨w.heap.size, 7, none⟩ (.slice y.a y.n y.c)).setCell ⟨w.heap.size, 8, none⟩ (.slice z.a z.n z.c)) 34 w.heap.size f x y z ∧
      Box (((wC.setCell ⟨w.heap.size, 6, none⟩ (.slice x.a x.n x.c)).setCell ⟨w.heap.size, 7, none⟩ (.slice y.a y.n y.c)).setCell ⟨w.heap.size, 8, none⟩ (.slice z.a z.n z.c)) 34 (w.heap.size + 1) zf nilS nilS nilS ∧
      ∀ u', Keep (fun i => i = w.heap.size + 1) (((wC.setCell ⟨w.heap.size, 6, none⟩ (.slice x.a x.n x.c)).setCell ⟨w.heap.size, 7, none⟩ (.slice y.a y.n y.c)).setCell ⟨w.heap.size, 8, none⟩ (.slice z.a z.n z.c)) u' → Q w u' ∧ HoldsR w.heap.size u' f x y z from by
    intro wA wB wC x y z qA qB qC rx nx ry ny rz nz
    have qAC := qB.trans qC
    have q1C := qA.trans qAC
    have bC := b1.q q1C
    have ks : Keep (fun i => i = w.heap.size) wC (((wC.setCell ⟨w.heap.size, 6, none⟩ (.slice x.a x.n x.c)).setCell ⟨w.heap.size, 7, none⟩ (.slice y.a y.n y.c)).setCell ⟨w.heap.size, 8, none⟩ (.slice z.a z.n z.c)) := (((Keep.refl (fun i => i = w.heap.size) wC).setCell _ _ _ (.inl rfl)).setCell _ _ _ (.inl rfl)).setCell _ _ _ (.inl rfl)
    refine ⟨((bC.data_ x f.data).cid_ y f.cid).sp_ z f.sp, (r1.q q1C).keep ks (by omega), fun u' ku => ?_⟩
    have qw : Q w wC := q1.trans q1C
    have hh : HoldsR w1.heap.size wC f x y z := ⟨rx.q qAC, ry.q qC, rz, nx, ny, nz⟩
    have h2 := (hh.keep ks (fun i e => .inl (by omega))).keep ku (fun i e => .inl (by omega))
    refine ⟨ku.below (ks.below qw qw.size (fun i e => by omega)) ?_ (fun i e => by omega), h2.dr, h2.cr, h2.sr, h2.nd.mono (by omega), h2.nc.mono (by omega), h2.ns.mono (by omega)⟩
    have := ks.size; have := qw.size; omega)
  have hlt1 : w.heap.size < w1.heap.size := by omega
  clear q1 b1 r1
  go_region_with (first
    | (go_at_call_of 18 (Value.slice d.a d.n d.c); refine (CD.out _ (by first | assumption | (repeat (first | exact Q.refl _ | apply Q.drewN | apply Q.drew)))).mono ?_; rintro e wA ⟨x, rfl, qA', qA, rx, nx⟩; have y6 := (B1.out.q qA).c6; have y7 := (B1.out.q qA).c7; have y8 := (B1.out.q qA).c8)
    | (go_at_call_of 18 (Value.slice c.a c.n c.c); refine (CC.out _ (by first | assumption | (repeat (first | exact Q.refl _ | apply Q.drewN | apply Q.drew)))).mono ?_; rintro e wB ⟨y, rfl, qB', qB, ry, ny⟩; have y6 := (B1.out.q qB).c6; have y7 := (B1.out.q qB).c7; have y8 := (B1.out.q qB).c8)
    | (go_at_call 44; refine (CS.out _ (by first | assumption | (repeat (first | exact Q.refl _ | apply Q.drewN | apply Q.drew)))).mono ?_; rintro e wC ⟨z, rfl, qC', qC, rz, nz⟩; have y6 := (B1.out.q qC).c6; have y7 := (B1.out.q qC).c7; have y8 := (B1.out.q qC).c8; have g6 := (B1.out.q qC).free 6; have g7 := (B1.out.q qC).free 7; have g8 := (B1.out.q qC).free 8))
  all_goals
    obtain ⟨bF, bR, fin⟩ := FIN.out wA wB wC x y z qA qB' qC' rx nx ry ny rz nz
    obtain ⟨a0, a1, a2, a3, a4, a5, a6, a7, a8, a9, a10, a11, a12⟩ := bF.all
    have BR := hid bR
    have FN := hid fin
    clear bF bR fin qA qA' qB qB' qC qC' rx nx ry ny rz nz y6 y7 y8 g6 g7 g8 c6 c7 c8 CD CC CS FIN B1
    go_wp2_with (refine wpList_store_row rfl 34 _ _ rfl (w.heap.size + 1) (fcells f x y z) rfl rfl 34 _ BR.out (fcells_info34 _ _ _ _) rfl (fcells_one _ _ _ _) ?_)
    obtain ⟨f1, f2⟩ := FN.out _ ((Keep.refl _ _).setRow _ _ (.inl rfl))
    exact ret_frame34 rfl rfl (w.heap.size + 1) 34 f x y z rfl (BR.out.row_ _ _ _ _) ⟨x, y, z, rfl, f1, f2⟩

set_option maxHeartbeats 4000000 in
theorem copied_any (f : Fr) (d c s : Sv) (w : World) (h : Fit w f d c s) :
    Calls Try.prog 9 #[fv f d c s] w fun e w' => ∃ d' c' s' : Sv, e = .returned (fv f d' c' s') ∧ Q w w' ∧ HoldsR w.heap.size w' f d' c' s' := by
  have HH := hid h
  clear h
  go_enter Try.func9, Try.ntmps9
  go_wp2_with fail
  generalize hw1 : World.alloc (World.alloc w _) _ = w1
  have q1 : Q w w1 := by rw [← hw1]; exact ((Q.refl w).alloc _).alloc _
  have r1 : Box w1 26 (w.heap.size + 1) zf nilS nilS nilS := by rw [← hw1]; exact heap_alloc2_new w _ _
  clear hw1
  refine (of_any f d c s w1).mono ?_
  rintro e w2 ⟨rfl, q2⟩
  have Q2 := hid (q1.trans q2)
  have R2 := hid (r1.q q2)
  clear q1 r1 q2
  go_wp2_with fail
  refine (rcopyF_any f d c s w2 (HH.out.q Q2.out)).mono ?_
  rintro e w3 ⟨x, y, z, rfl, q3, hh⟩
  have Q3 := hid (Q2.out.trans q3)
  have R3 := hid (R2.out.q q3)
  have H3 := hid hh
  have hw2 : w.heap.size + 1 < w2.heap.size := R2.out.lt
  have hw3 : w.heap.size + 1 < w3.heap.size := R3.out.lt
  have R4 := hid (R3.out.q ((Q.refl w3).alloc (.cells (fcells f x y z) 34)))
  clear q3 hh Q2 R2
  go_wp2_with (refine wpList_store_row rfl 26 _ _ rfl (w.heap.size + 1) (fcells f x y z) rfl rfl 26 _ R4.out (fcells_info _ _ _ _) rfl (fcells_one _ _ _ _) ?_)
  have ks : Keep (fun i => i = w.heap.size + 1) (w3.alloc (.cells (fcells f x y z) 34)) ((w3.alloc (.cells (fcells f x y z) 34)).setRow (w.heap.size + 1) (fcells f x y z)) := (Keep.refl _ _).setRow _ _ (.inl rfl)
  have qw : Q w (w3.alloc (.cells (fcells f x y z) 34)) := Q3.out.alloc _
  have h4 := (H3.out.q ((Q.refl w3).alloc (.cells (fcells f x y z) 34))).keep ks (fun i e => .inl (by omega))
  exact ret_frame rfl rfl (w.heap.size + 1) 26 f x y z rfl (R4.out.row_ _ _ _ _) ⟨x, y, z, rfl, ks.below qw qw.size (fun i e => by omega), h4.dr, h4.cr, h4.sr, h4.nd.mono (by omega), h4.nc.mono (by omega), h4.ns.mono (by omega)⟩
end Go.Proofs.Ytdoodbaogmdloaa
