/-
  What a reading's items does, at every type: a contract that the statements' walks use.
-/
import Derived.Test.YtdoodbaogmdloabItm
namespace Go.Proofs.Ytdoodbaogmdloab
open Go.RowKit
set_option linter.unusedVariables false
set_option maxRecDepth 20000

theorem lead_drop {k : Int} {j : Nat} (hj : j < (lead k).length) : (lead k).drop j = (lead k).getD j 0 :: (lead k).drop (j + 1) := by
  rw [List.drop_eq_getElem_cons hj, List.getD_eq_getElem?_getD, List.getElem?_eq_getElem hj]; rfl

/-- The loop's state. -/
structure ItI (w wr : World) (rk rb g : Nat) (b : Sv) (zs : List Int) (pl p k : Int) (F B : Nat) (a : Option Addr) (j : Nat) (f : Fr) (q : Int) : Prop where
  fb : Fbk w wr rk rb g b zs pl q w.heap.size F f nilS nilS nilS
  pt : Ptrs B wr F a (lead k)
  out : genO zs k p = (leadsO zs ((lead k).drop j) f q).bind fun f q => lastO zs k f q

section
variable (rk rb g : Nat) (b : Sv) (zs : List Int) (pl : Int) (p : Int) (w : World)
set_option maxHeartbeats 8000000 in
theorem items_g (k : Int) (h0 : 0 ≤ k) (h30 : k ≤ 30) (hn0 : k ≠ 0) (hn2 : ¬ (k = 2 ∨ k = 3)) (hn8 : ¬ (8 ≤ k ∧ k ≤ 15)) (h : Rg w rk rb g b zs pl p) : Calls Try.prog 35 #[.pointer (some ⟨rk, 0, none⟩), .int .i64 k] w fun e w' => Ans w rk rb g b zs pl (FrV w.heap.size) (genO zs k p) e w' := by
  have HH := hid h
  have hy := andNot_no h0 h30 hn8
  have b0 : (k == 0) = false := by simp; omega
  have b2 : (k == 2) = false := by simp; omega
  have b3 : (k == 3) = false := by simp; omega
  obtain ⟨M, hM⟩ : ∃ M, (lead k).length = M := ⟨_, rfl⟩
  have hMle : M ≤ 3 := by rw [← hM]; exact lead_len k
  have HM := hid hM
  clear h hn8 hn2 hn0 hM h0 h30
  go_enter Try.func35, Try.ntmps35
  go_wp2_with fail
  generalize hw1 : World.alloc w _ = w1
  have q1 : Q w w1 := by rw [← hw1]; exact (Q.refl w).alloc _
  have b1 : Box w1 34 w.heap.size zf nilS nilS nilS := by rw [← hw1]; exact heap_alloc_new w _
  have hz : w.heap.size + 1 = w1.heap.size := by rw [← hw1]; simp
  rw [hz]
  generalize hw2 : World.alloc w1 _ = u
  have HF := hid (Fbk.start (f := { zf with kind := k }) HH.out q1 b1 (Keep.refl _ w1) (HH.out.q q1) (u := u) (by rw [← hw2]; exact (Q.refl w1).alloc _) (by rw [← hw2]; exact heap_alloc_new w1 _) rfl rfl rfl)
  clear hw1 hw2 hz q1 b1
  refine (leading_any w1.heap.size k u HF.out.box.c0).mono ?_
  rintro e u2 ⟨a, rfl, hq, hp⟩
  rw [HM.out]
  have ST := hid (show ItI w u2 rk rb g b zs pl p k w1.heap.size u.heap.size a 0 { zf with kind := k } p from ⟨HF.out.q hq, hp, by rw [List.drop_zero]; rfl⟩)
  have hF1 := HF.out.f0
  have hFu : w1.heap.size < u.heap.size := HF.out.box.lt
  clear hq hp HF
  go_wp2
  go_loopw [35] (fun i wr => ∃ (j : Nat) (f : Fr) (q : Int), j ≤ M ∧ i = .int .i64 j ∧ ItI w wr rk rb g b zs pl p k w1.heap.size u.heap.size a j f q) (fun i _ => ((M : Int) - intOf i).toNat)
  case atStart => exact ⟨0, _, _, Nat.zero_le _, rfl, ST.out⟩
  case round =>
    clear ST
    obtain ⟨j, f, q, hj, rfl, hI⟩ := hrel
    have HI := hid hI
    clear hI
    by_cases hjm : j < M
    · obtain ⟨g', rfl, hg', hc⟩ := ptr_cell HI.out.pt (j := j) (by rw [HM.out]; exact hjm)
      have hmem : (lead k).getD j 0 ∈ lead k := by
        rw [List.getD_eq_getElem?_getD, List.getElem?_eq_getElem (by rw [HM.out]; exact hjm)]; exact List.getElem_mem _
      have HO1 := hid (show genO zs k p = (numO zs q).bind fun x q => (leadsO zs ((lead k).drop (j + 1)) (fset f ((lead k).getD j 0) x) q).bind fun f q => lastO zs k f q from by
        rw [HI.out.out, lead_drop (by rw [HM.out]; exact hjm), leadsO]
        cases numO zs q <;> rfl)
      have HMEM := hid (lead_mem hmem)
      generalize (lead k).getD j 0 = o at *
      have hji : (j : Int) < (M : Int) := by omega
      clear hmem
      go_wp2_with fail
      refine (number_at rk rb g b zs pl q wr HI.out.fb.rg).mono ?_
      rintro e w3 ⟨hk, ⟨x, q3, v, ho, rfl, rfl, hr⟩ | ⟨hs, rfl⟩⟩
      rotate_left
      · exact ⟨rfl, Ans.stopped _ (HI.out.fb.keep.trans hk) hs HO1.out⟩
      have F3 := HI.out.fb.call HH.out hk hr
      obtain ⟨vv, co⟩ := F3.box.at_ HMEM.out
      have go := F3.box.free o
      have hfd := fset_data f o x
      have ks : Keep (fun k => k = w1.heap.size) w3 (w3.setCell ⟨w1.heap.size, o, none⟩ (.int .i64 x)) := (Keep.refl (fun k => k = w1.heap.size) w3).setCell _ o (.int .i64 x) (.inl rfl)
      have NEW := hid (show ItI w (w3.setCell ⟨w1.heap.size, o, none⟩ (.int .i64 x)) rk rb g b zs pl p k w1.heap.size u.heap.size (some ⟨g', 0, none⟩) (j + 1) (fset f o x) q3 from
        ⟨F3.set HH.out ks (F3.box.fset_ HMEM.out x) ⟨by rw [hfd.1]; exact F3.hr.dr, by rw [hfd.2.1]; exact F3.hr.cr, by rw [hfd.2.2]; exact F3.hr.sr, F3.hr.nd, F3.hr.nc, F3.hr.ns⟩ F3.nrd F3.nrc F3.nrs F3.mrd F3.mrc F3.mrs,
         (HI.out.pt.keep hk (fun i hi e => by have := HH.out.rdr.lt; omega)).keep ks (fun i hi e => by omega), by rw [HO1.out, ho]; rfl⟩)
      clear F3 hfd ks hk ho hr hc HI HO1
      go_wp2
      go_roundw
      case rel => exact ⟨j + 1, _, q3, by omega, by go_num, NEW.out⟩
      case measure => simp [intOf]; omega
    · have hji : ¬ (j : Int) < (M : Int) := by omega
      have HO1 := hid (show genO zs k p = lastO zs k f q from by rw [HI.out.out, List.drop_of_length_le (by rw [HM.out]; omega)]; rfl)
      have HF := hid HI.out.fb
      clear HI
      by_cases k6 : k = 6 ∨ k = 7 ∨ k = 28 ∨ k = 29
      · have HO2 := hid (show genO zs k p = (numO zs q).bind fun n q => (someO zs q n).bind fun d q => .ok { f with data := d } q from by rw [HO1.out]; unfold lastO; rw [if_pos k6])
        clear HO1
        rcases k6 with rfl | rfl | rfl | rfl
        all_goals
          go_wp2_with fail
          refine (number_at rk rb g b zs pl q wr HF.out.rg).mono ?_
          rintro e w4 ⟨hk, ⟨n, q4, v, ho, rfl, rfl, hr⟩ | ⟨hs, rfl⟩⟩
          rotate_left
          · exact ⟨rfl, Ans.stopped _ (HF.out.keep.trans hk) hs HO2.out⟩
          have HO4 := hid (HO2.out.trans (show _ = (someO zs q4 n).bind fun d q => .ok { f with data := d } q from by rw [ho]; rfl))
          have F4 := hid (HF.out.call HH.out hk hr)
          clear hk ho hr HF HO2
          go_wp2_with fail
          refine (some_at rk rb g b zs pl q4 w4 n F4.out.rg).mono ?_
          rintro e w5 ⟨hk, ⟨data, q5, v, ho, rfl, ⟨x, rfl, hrow, hnew⟩, hr⟩ | ⟨hs, rfl⟩⟩
          rotate_left
          · exact ⟨rfl, Ans.stopped _ (F4.out.keep.trans hk) hs HO4.out⟩
          have HO9 := hid (HO4.out.trans (show _ = .ok { f with data := data } q5 from by rw [ho]; rfl))
          have hfr := F4.out.fresh hnew
          have hnw : New w.heap.size x := hnew.mono F4.out.keep.size
          have F5 := F4.out.call HH.out hk hr
          have c6 := F5.box.c6
          have g6 := F5.box.free 6
          have F9 := F5.set HH.out ((Keep.refl (fun k => k = w1.heap.size) w5).setCell _ 6 (.slice x.a x.n x.c) (.inl rfl)) (F5.box.data_ x data) ⟨hrow, F5.hr.cr, F5.hr.sr, hnw, F5.hr.nc, F5.hr.ns⟩ hfr.1 F5.nrc F5.nrs hfr.2 F5.mrc F5.mrs
          clear hk ho hr hrow hnew hfr hnw F5 F4 HO4
          obtain ⟨f0, d0, c0, s0, hres⟩ := F9.res
          obtain ⟨a0, a1, a2, a3, a4, a5, a6, a7, a8, a9, a10, a11, a12⟩ := F9.box.all
          have D6 := hid (fun (u' : World) (k : Keep (fun k => k = w.heap.size) _ u') => F9.done HH.out k HO9.out)
          have BR := hid hres
          clear hres F9
          go_wp2_with (refine wpList_store_row rfl 34 _ _ rfl w.heap.size (fcells { f with data := data } x nilS nilS) rfl rfl 34 _ BR.out (fcells_info _ _ _ _) rfl (fcells_one _ _ _ _) ?_)
          refine ret_frame rfl rfl w.heap.size 34 { f with data := data } x nilS nilS rfl (BR.out.row_ _ _ _ _) (D6.out _ ((Keep.refl _ _).setRow _ _ (.inl rfl)))
      by_cases k24 : k = 24
      · have HO2 := hid (show genO zs k p = (oneO zs q).bind fun n q => (someO zs q n).bind fun c q => (someO zs q 16).bind fun d q => .ok { f with cid := c, data := d } q from by rw [HO1.out]; unfold lastO; rw [if_neg k6, if_pos k24])
        clear HO1
        subst k24
        go_wp2_with fail
        refine (one_at rk rb g b zs pl q wr HF.out.rg).mono ?_
        rintro e w4 ⟨hk, ⟨n, q4, v, ho, rfl, rfl, hr⟩ | ⟨hs, rfl⟩⟩
        rotate_left
        · exact ⟨rfl, Ans.stopped _ (HF.out.keep.trans hk) hs HO2.out⟩
        have HO4 := hid (HO2.out.trans (show _ = (someO zs q4 n).bind fun c q => (someO zs q 16).bind fun d q => .ok { f with cid := c, data := d } q from by rw [ho]; rfl))
        have F4 := hid (HF.out.call HH.out hk hr)
        clear hk ho hr HF HO2
        go_wp2_with fail
        refine (some_at rk rb g b zs pl q4 w4 n F4.out.rg).mono ?_
        rintro e w5 ⟨hk, ⟨cid, q5, v, ho, rfl, ⟨y, rfl, hrow, hnew⟩, hr⟩ | ⟨hs, rfl⟩⟩
        rotate_left
        · exact ⟨rfl, Ans.stopped _ (F4.out.keep.trans hk) hs HO4.out⟩
        have HO5 := hid (HO4.out.trans (show _ = (someO zs q5 16).bind fun d q => .ok { f with cid := cid, data := d } q from by rw [ho]; rfl))
        have hfr := F4.out.fresh hnew
        have hnw : New w.heap.size y := hnew.mono F4.out.keep.size
        have F5 := F4.out.call HH.out hk hr
        have c7 := F5.box.c7
        have g7 := F5.box.free 7
        have F6 := hid (F5.set HH.out ((Keep.refl (fun k => k = w1.heap.size) w5).setCell _ 7 (.slice y.a y.n y.c) (.inl rfl)) (F5.box.cid_ y cid) ⟨F5.hr.dr, hrow, F5.hr.sr, F5.hr.nd, hnw, F5.hr.ns⟩ F5.nrd hfr.1 F5.nrs F5.mrd hfr.2 F5.mrs)
        clear hk ho hr hrow hnew hfr hnw F5 F4 HO4
        go_wp2_with fail
        generalize World.setCell w5 _ _ = w6 at *
        refine (some_at rk rb g b zs pl q5 w6 16 F6.out.rg).mono ?_
        rintro e w7 ⟨hk, ⟨data, q7, v, ho, rfl, ⟨x, rfl, hrow, hnew⟩, hr⟩ | ⟨hs, rfl⟩⟩
        rotate_left
        · exact ⟨rfl, Ans.stopped _ (F6.out.keep.trans hk) hs HO5.out⟩
        have HO9 := hid (HO5.out.trans (show _ = .ok { f with cid := cid, data := data } q7 from by rw [ho]; rfl))
        have hfr := F6.out.fresh hnew
        have hnw : New w.heap.size x := hnew.mono F6.out.keep.size
        have F7 := F6.out.call HH.out hk hr
        have c6 := F7.box.c6
        have g6 := F7.box.free 6
        have F9 := F7.set HH.out ((Keep.refl (fun k => k = w1.heap.size) w7).setCell _ 6 (.slice x.a x.n x.c) (.inl rfl)) (F7.box.data_ x data) ⟨hrow, F7.hr.cr, F7.hr.sr, hnw, F7.hr.nc, F7.hr.ns⟩ hfr.1 F7.nrc F7.nrs hfr.2 F7.mrc F7.mrs
        clear hk ho hr hrow hnew hfr hnw F7 F6 HO5
        obtain ⟨f0, d0, c0, s0, hres⟩ := F9.res
        obtain ⟨a0, a1, a2, a3, a4, a5, a6, a7, a8, a9, a10, a11, a12⟩ := F9.box.all
        have D6 := hid (fun (u' : World) (k : Keep (fun k => k = w.heap.size) _ u') => F9.done HH.out k HO9.out)
        have BR := hid hres
        clear hres F9
        go_wp2_with (refine wpList_store_row rfl 34 _ _ rfl w.heap.size (fcells { f with cid := cid, data := data } x y nilS) rfl rfl 34 _ BR.out (fcells_info _ _ _ _) rfl (fcells_one _ _ _ _) ?_)
        refine ret_frame rfl rfl w.heap.size 34 { f with cid := cid, data := data } x y nilS rfl (BR.out.row_ _ _ _ _) (D6.out _ ((Keep.refl _ _).setRow _ _ (.inl rfl)))
      by_cases k26 : k = 26 ∨ k = 27
      · have HO4 := hid (show genO zs k p = (someO zs q 8).bind fun d q => .ok { f with data := d } q from by rw [HO1.out]; unfold lastO; rw [if_neg k6, if_neg k24, if_pos k26])
        clear HO1
        rcases k26 with rfl | rfl
        all_goals
          go_wp2_with fail
          refine (some_at rk rb g b zs pl q wr 8 HF.out.rg).mono ?_
          rintro e w5 ⟨hk, ⟨data, q5, v, ho, rfl, ⟨x, rfl, hrow, hnew⟩, hr⟩ | ⟨hs, rfl⟩⟩
          rotate_left
          · exact ⟨rfl, Ans.stopped _ (HF.out.keep.trans hk) hs HO4.out⟩
          have HO9 := hid (HO4.out.trans (show _ = .ok { f with data := data } q5 from by rw [ho]; rfl))
          have hfr := HF.out.fresh hnew
          have hnw : New w.heap.size x := hnew.mono HF.out.keep.size
          have F5 := HF.out.call HH.out hk hr
          have c6 := F5.box.c6
          have g6 := F5.box.free 6
          have F9 := F5.set HH.out ((Keep.refl (fun k => k = w1.heap.size) w5).setCell _ 6 (.slice x.a x.n x.c) (.inl rfl)) (F5.box.data_ x data) ⟨hrow, F5.hr.cr, F5.hr.sr, hnw, F5.hr.nc, F5.hr.ns⟩ hfr.1 F5.nrc F5.nrs hfr.2 F5.mrc F5.mrs
          clear hk ho hr hrow hnew hfr hnw F5 HF HO4
          obtain ⟨f0, d0, c0, s0, hres⟩ := F9.res
          obtain ⟨a0, a1, a2, a3, a4, a5, a6, a7, a8, a9, a10, a11, a12⟩ := F9.box.all
          have D6 := hid (fun (u' : World) (k : Keep (fun k => k = w.heap.size) _ u') => F9.done HH.out k HO9.out)
          have BR := hid hres
          clear hres F9
          go_wp2_with (refine wpList_store_row rfl 34 _ _ rfl w.heap.size (fcells { f with data := data } x nilS nilS) rfl rfl 34 _ BR.out (fcells_info _ _ _ _) rfl (fcells_one _ _ _ _) ?_)
          refine ret_frame rfl rfl w.heap.size 34 { f with data := data } x nilS nilS rfl (BR.out.row_ _ _ _ _) (D6.out _ ((Keep.refl _ _).setRow _ _ (.inl rfl)))
      · have HO9 := hid (show genO zs k p = .ok f q from by rw [HO1.out]; unfold lastO; rw [if_neg k6, if_neg k24, if_neg k26])
        have b6 : (k == 6) = false := by simp; omega
        have b7 : (k == 7) = false := by simp; omega
        have b28 : (k == 28) = false := by simp; omega
        have b29 : (k == 29) = false := by simp; omega
        have b24 : (k == 24) = false := by simp; omega
        have b26 : (k == 26) = false := by simp; omega
        have b27 : (k == 27) = false := by simp; omega
        have F9 := HF.out
        clear HF HO1 k6 k24 k26
        obtain ⟨f0, d0, c0, s0, hres⟩ := F9.res
        obtain ⟨a0, a1, a2, a3, a4, a5, a6, a7, a8, a9, a10, a11, a12⟩ := F9.box.all
        have D6 := hid (fun (u' : World) (k : Keep (fun k => k = w.heap.size) _ u') => F9.done HH.out k HO9.out)
        have BR := hid hres
        clear hres F9
        go_wp2_with (refine wpList_store_row rfl 34 _ _ rfl w.heap.size (fcells f nilS nilS nilS) rfl rfl 34 _ BR.out (fcells_info _ _ _ _) rfl (fcells_one _ _ _ _) ?_)
        refine ret_frame rfl rfl w.heap.size 34 f nilS nilS nilS rfl (BR.out.row_ _ _ _ _) (D6.out _ ((Keep.refl _ _).setRow _ _ (.inl rfl)))

theorem items_at (P : Nat) (k : Int) (h0 : 0 ≤ k) (h30 : k ≤ 30) (hp : k = 0 → p = P + 1) (h : Rg w rk rb g b zs P p) : Calls Try.prog 35 #[.pointer (some ⟨rk, 0, none⟩), .int .i64 k] w fun e w' => Ans w rk rb g b zs P (FrV w.heap.size) (itemsO zs P p k) e w' := by
  unfold itemsO
  by_cases hk0 : k = 0
  · rw [if_pos hk0]; subst hk0; exact items_0 rk rb g b zs P p w (hp rfl) h
  rw [if_neg hk0]
  by_cases hk2 : k = 2 ∨ k = 3
  · rw [if_pos hk2]; exact items_2 rk rb g b zs P p w k hk2 h
  rw [if_neg hk2]
  by_cases hk8 : 8 ≤ k ∧ k ≤ 15
  · rw [if_pos hk8]; exact items_8 rk rb g b zs P p w k hk8 h
  · rw [if_neg hk8]; exact items_g rk rb g b zs P p w k h0 h30 hk0 hk2 hk8 h
end
end Go.Proofs.Ytdoodbaogmdloab
