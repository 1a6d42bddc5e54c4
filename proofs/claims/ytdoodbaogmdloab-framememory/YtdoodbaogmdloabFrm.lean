/-
  What a reading's frame does: a contract that the statements' walks use.
-/
import Derived.Test.YtdoodbaogmdloabDm
namespace Go.Proofs.Ytdoodbaogmdloab
open Go.RowKit
set_option linter.unusedVariables false
set_option maxRecDepth 20000

/-- The reading, where its place is set. -/
theorem Rg.place {w : World} {rk rb g : Nat} {b : Sv} {zs : List Int} {pl p : Int} (h : Rg w rk rb g b zs pl p) (x : Int) : Rg (w.setCell ⟨rk, 2, none⟩ (.int .i64 x)) rk rb g b zs x p := by
  have k : Keep (fun i => i = rk) w (w.setCell ⟨rk, 2, none⟩ (.int .i64 x)) := (Keep.refl (fun i => i = rk) w).setCell _ _ _ (.inl rfl)
  refine ⟨?_, (k.block rb h.rdr.lt (fun e => h.d1 e.symm)).trans h.rdr, (k.block g (lt_of_block h.row) h.d3).trans h.row, h.seg.keep k (fun y e => (h.d4 y e).2), h.len, h.by_, h.small, h.d1, h.d2, h.d3, h.d4, fun y e => Nat.lt_of_lt_of_le (h.d5 y e) k.size, h.p0, h.p1⟩
  have := heap_setCell_same w rk 2 _ 55 (.int .i64 x) h.hd
  simpa using this

/-- What frame tells. -/
def AnsF (w : World) (rk rb g : Nat) (b : Sv) (zs : List Int) (P : Nat) (e : Ending) (w' : World) : Prop :=
  Keep (fun k => k = rb ∨ k = rk) w w' ∧ ((∃ f q v, frameO zs P = .ok f q ∧ e = .returned v ∧ FrV w.heap.size f w' v ∧ Rg w' rk rb g b zs P q) ∨
    ((frameO zs P).stop ∧ e = .panicked (frameO zs P).ends ∧ w'.heap[rk]? = some (.cells #[.slice b.a b.n b.c, .pointer (some ⟨rb, 0, none⟩), .int .i64 P] 55 (0, 0))))

section
variable (rk rb g : Nat) (b : Sv) (zs : List Int) (pl : Int) (P : Nat) (w : World)
set_option maxHeartbeats 4000000 in
theorem frame_at (h : Rg w rk rb g b zs pl P) : Calls Try.prog 18 #[.pointer (some ⟨rk, 0, none⟩)] w fun e w' => AnsF w rk rb g b zs P e w' := by
  have HH := hid h
  have c1 := h.c1
  have c2 := h.c2
  have g2 := h.free 2
  have hlt := h.lt
  clear h
  go_enter Try.func18, Try.ntmps18
  go_wp2_with fail
  generalize hw1 : World.alloc w _ = w1
  have q1 : Q w w1 := by rw [← hw1]; exact (Q.refl w).alloc _
  have b1 : Box w1 34 w.heap.size zf nilS nilS nilS := by rw [← hw1]; exact heap_alloc_new w _
  clear hw1
  have r1 := HH.out.q q1
  refine (at_any rb _ _ _ P 0 w1 r1.rdr).mono ?_
  rintro e w1' ⟨rfl, rfl⟩
  have e1 := r1.c1
  have e2 := r1.c2
  have f2 := r1.free 2
  have r2 := r1.place P
  have k2 : Keep (fun i => i = rk) w1 (w1.setCell ⟨rk, 2, none⟩ (.int .i64 P)) := (Keep.refl (fun i => i = rk) w1).setCell _ _ _ (.inl rfl)
  have b2 := b1.keep k2 (by omega)
  have K2 := hid (show Keep (fun k => k = rb ∨ k = rk) w (w1.setCell ⟨rk, 2, none⟩ (.int .i64 P)) from (Keep.ofQ q1).trans (k2.mono (fun i _ e => .inr e)))
  have R2 := hid r2
  have B2 := hid b2
  clear q1 b1 r1 r2 k2 b2
  go_wp2_with fail
  generalize World.setCell w1 _ _ = w2 at *
  refine (kind_at rk rb g b zs P w2 R2.out).mono ?_
  rintro e w3 ⟨hk, ⟨k, q3, v, ho, rfl, rfl, hr⟩ | ⟨hs, rfl⟩⟩
  rotate_left
  · have this : (frameO zs P).stop ∧ (frameO zs P).ends = (kindO zs P).ends := Out.bind_stop hs _
    exact ⟨rfl, K2.out.trans (hk.mono (fun i _ e => .inl e)), .inr ⟨this.1, by rw [this.2], (hk.block rk R2.out.lt R2.out.d1).trans R2.out.hd⟩⟩
  have hkp := kindO_pl R2.out.pl_ ho
  have HO3 := hid (show frameO zs P = (itemsO zs P q3 k).bind fun f q => if chk f ≠ 0 then .bad 51 else .ok f q from by unfold frameO; rw [ho]; rfl)
  have HKP := hid hkp
  have K3 := hid (K2.out.trans (hk.mono (fun i _ e => .inl e)))
  have R3 := hid hr
  have B3 := hid (B2.out.keep hk (by have := HH.out.rdr.lt; omega))
  clear hk ho hr hkp K2 R2 B2
  go_wp2_with fail
  refine (items_at rk rb g b zs q3 w3 P k HKP.out.2.2.1 HKP.out.2.2.2.1 (fun _ => HKP.out.2.2.2.2) R3.out).mono ?_
  rintro e w4 ⟨hk, ⟨f, q4, v, ho, rfl, ⟨d, c, s, rfl, hh⟩, hr⟩ | ⟨hs, rfl⟩⟩
  rotate_left
  · have := Out.bind_stop hs (fun f q => if chk f ≠ 0 then Out.bad 51 else .ok f q)
    rw [← HO3.out] at this
    exact ⟨rfl, K3.out.trans (hk.mono (fun i _ e => .inl e)), .inr ⟨this.1, by rw [this.2], (hk.block rk R3.out.lt R3.out.d1).trans R3.out.hd⟩⟩
  have hsm := itemsO_pl R3.out.pl_ (fun _ => HKP.out.2.2.2.2) ho
  have hbn := HH.out.small
  rw [HH.out.len] at hsm
  have HO4 := hid (show frameO zs P = if chk f ≠ 0 then .bad 51 else .ok f q4 from by rw [HO3.out, ho]; rfl)
  have HSD := hid (show d.n ≤ 140737488355328 ∧ c.n ≤ 140737488355328 from by have h1 := hh.dr.len; have h2 := hh.cr.len; omega)
  have K4 := hid (K3.out.trans (hk.mono (fun i _ e => .inl e)))
  have R4 := hid hr
  have B4 := hid (B3.out.keep hk (by have := HH.out.rdr.lt; omega))
  have HB := hid hh
  have hw03 : w.heap.size < w3.heap.size := B3.out.lt
  clear hk ho hr hsm hh HO3 K3 R3 B3
  go_wp2_with fail
  generalize hw5 : World.alloc w4 _ = w5
  have q5 : Q w4 w5 := by rw [← hw5]; exact (Q.refl w4).alloc _
  have b5 : Box w5 34 w4.heap.size f d c s := by rw [← hw5]; exact heap_alloc_new w4 _
  clear hw5
  refine (check_any f d c s w5 (HB.out.holds.q q5) HSD.out.1 HSD.out.2).mono ?_
  rintro e w6 ⟨rfl, hq6⟩
  have q6 : Q w4 w6 := q5.trans hq6
  have b6 := b5.q hq6
  have K6 := hid (show Keep (fun k => k = rb ∨ k = rk) w w6 from K4.out.trans (Keep.ofQ q6))
  have R6 := hid (R4.out.q q6)
  by_cases hc : chk f = 0
  · rw [hc]
    have HO9 := hid (show frameO zs P = .ok f q4 from by rw [HO4.out, if_neg (by omega)])
    have BR := hid (B4.out.q q6)
    have HB6 := hid (HB.out.q q6)
    obtain ⟨a0, a1, a2, a3, a4, a5, a6, a7, a8, a9, a10, a11, a12⟩ := b6.all
    have hw46 : w.heap.size < w4.heap.size := B4.out.lt
    clear q5 b5 hq6 q6 b6 hc HO4 K4 R4 B4 HB
    go_wp2_with (refine wpList_store_row rfl 34 _ _ rfl w.heap.size (fcells f d c s) rfl rfl 34 _ BR.out (fcells_info _ _ _ _) rfl (fcells_one _ _ _ _) ?_)
    refine ret_frame rfl rfl w.heap.size 34 f d c s rfl (BR.out.row_ _ _ _ _) ?_
    have ks : Keep (fun k => k = w.heap.size) w6 (w6.setRow w.heap.size (fcells f d c s)) := (Keep.refl _ _).setRow _ _ (.inl rfl)
    refine ⟨K6.out.trans' ks (fun i hi e => by omega), .inl ⟨f, q4, _, HO9.out, rfl, ⟨d, c, s, rfl, ?_⟩, R6.out.keep ks (by have := HH.out.lt; omega) (by have := HH.out.rdr.lt; omega) (by have := lt_of_block HH.out.row; omega) (fun x e e2 => by have := HH.out.d5 x e; omega)⟩⟩
    have h9 := HB6.out.keep ks (fun i e => .inl (by omega))
    exact ⟨h9.dr, h9.cr, h9.sr, h9.nd.mono (by omega), h9.nc.mono (by omega), h9.ns.mono (by omega)⟩
  · have hcb : (chk f != 0) = true := by simp [hc]
    have HX := hid (show AnsF w rk rb g b zs P (.panicked [refP 51]) w6 from ⟨K6.out, .inr (by
      have e : frameO zs P = .bad 51 := by rw [HO4.out, if_pos hc]
      rw [e]; exact ⟨stop_bad _, rfl, R6.out.hd⟩)⟩)
    clear q5 b5 hq6 q6 b6 hc HO4 K4 R4 B4 HB
    go_wp2
    exact ⟨rfl, HX.out⟩
end
end Go.Proofs.Ytdoodbaogmdloab
