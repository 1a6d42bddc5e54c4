/-
  What the document's own Bare does: a contract that the statements' walks use.
-/
import Derived.Test.YtdoodbaogmdloaaCopied
import Derived.Test.YtdoodbaogmdloaaRHas
import Derived.Test.YtdoodbaogmdloaaRt
namespace Go.Proofs.Ytdoodbaogmdloaa
open Go.RowKit
set_option linter.unusedVariables false
set_option maxRecDepth 20000

theorem Box.fin0_ {w : World} {t fb : Nat} {f : Fr} {d c s : Sv} (h : Box w t fb f d c s) : Box (w.setCell ⟨fb, 5, none⟩ (.bool false)) t fb { f with fin := false } d c s := by
  have := heap_setCell_same w fb 5 _ t (.bool false) h
  simpa [Box] using this
theorem Box.dataN_ {w : World} {t fb : Nat} {f : Fr} {d c s : Sv} (h : Box w t fb f d c s) : Box (w.setCell ⟨fb, 6, none⟩ (.slice none 0 0)) t fb { f with data := [] } nilS c s := h.data_ nilS []
theorem Box.cidN_ {w : World} {t fb : Nat} {f : Fr} {d c s : Sv} (h : Box w t fb f d c s) : Box (w.setCell ⟨fb, 7, none⟩ (.slice none 0 0)) t fb { f with cid := [] } d nilS s := h.cid_ nilS []
theorem Box.spN_ {w : World} {t fb : Nat} {f : Fr} {d c s : Sv} (h : Box w t fb f d c s) : Box (w.setCell ⟨fb, 8, none⟩ (.slice none 0 0)) t fb { f with sp := [] } d c nilS := h.sp_ nilS []
/-- What Bare tells. -/
def BareA (w : World) (F : Fr) (e : Ending) (w' : World) : Prop := ∃ d' c' s' : Sv, e = .returned (fv F d' c' s') ∧ Q w w' ∧ HoldsR w.heap.size w' F d' c' s'
theorem has_call {k : Int} {m : UInt8} {b : Bool} (hl : (itL k).length ≤ 1000) (h : hasB (itL k) m = b) (u : World) : Calls Try.prog 38 #[.string ⟨(itL k).toArray⟩, .int .u8 m.toNat] u fun e w' => e = .returned (.bool b) ∧ u = w' := by
  rw [← h]; exact rhas_any (itL k) m u hl
set_option maxHeartbeats 8000000 in
theorem bare_s (f : Fr) (d c s : Sv) (w : World) (h : Fit w f d c s) (hI : itL f.kind = [115]) (h0 : (f.kind != 0) = true) (h8 : (f.kind != 8) = true) :
    Calls Try.prog 22 #[fv f d c s] w (BareA w { f with id := 0, pl := 0, num := 0, code := 0, fin := false, data := [], cid := [], e0 := 0, e1 := 0, e2 := 0 }) := by
  have A105 := hid (has_call (m := 105) (show (itL f.kind).length ≤ 1000 from by rw [hI]; decide) (show hasB (itL f.kind) 105 = false from by rw [hI]; decide))
  have A97 := hid (has_call (m := 97) (show (itL f.kind).length ≤ 1000 from by rw [hI]; decide) (show hasB (itL f.kind) 97 = false from by rw [hI]; decide))
  have A110 := hid (has_call (m := 110) (show (itL f.kind).length ≤ 1000 from by rw [hI]; decide) (show hasB (itL f.kind) 110 = false from by rw [hI]; decide))
  have A99 := hid (has_call (m := 99) (show (itL f.kind).length ≤ 1000 from by rw [hI]; decide) (show hasB (itL f.kind) 99 = false from by rw [hI]; decide))
  have A100 := hid (has_call (m := 100) (show (itL f.kind).length ≤ 1000 from by rw [hI]; decide) (show hasB (itL f.kind) 100 = false from by rw [hI]; decide))
  have A116 := hid (has_call (m := 116) (show (itL f.kind).length ≤ 1000 from by rw [hI]; decide) (show hasB (itL f.kind) 116 = false from by rw [hI]; decide))
  have A112 := hid (has_call (m := 112) (show (itL f.kind).length ≤ 1000 from by rw [hI]; decide) (show hasB (itL f.kind) 112 = false from by rw [hI]; decide))
  have A107 := hid (has_call (m := 107) (show (itL f.kind).length ≤ 1000 from by rw [hI]; decide) (show hasB (itL f.kind) 107 = false from by rw [hI]; decide))
  have A115 := hid (has_call (m := 115) (show (itL f.kind).length ≤ 1000 from by rw [hI]; decide) (show hasB (itL f.kind) 115 = true from by rw [hI]; decide))
  have A101 := hid (has_call (m := 101) (show (itL f.kind).length ≤ 1000 from by rw [hI]; decide) (show hasB (itL f.kind) 101 = false from by rw [hI]; decide))
  have HH := hid h
  clear h hI
  go_enter Try.func22, Try.ntmps22
  go_wp2_with fail
  generalize hw1 : World.alloc (World.alloc w _) _ = w1
  have q1 : Q w w1 := by rw [← hw1]; exact ((Q.refl w).alloc _).alloc _
  have b1 : Box w1 34 w.heap.size f d c s := by rw [← hw1]; exact heap_alloc2_old w _ _
  have r1 : Box w1 34 (w.heap.size + 1) zf nilS nilS nilS := by rw [← hw1]; exact heap_alloc2_new w _ _
  have hsz : w1.heap.size = w.heap.size + 2 := by rw [← hw1]; simp
  clear hw1
  refine (ritems_any f.kind w1).mono ?_
  rintro e u ⟨rfl, rfl⟩
  obtain ⟨a0, a1, a2, a3, a4, a5, a6, a7, a8, a9, a10, a11, a12⟩ := b1.all
  have B1 := hid b1
  have R1 := hid r1
  have Q1 := hid q1
  clear b1 r1 q1
  go_wp2_with fail
  clear a0 a1 a2 a3 a4 a5 a6 a7 a8 a9 a10 a11 a12
  refine (rcopyF_any f d c s w1 (HH.out.q Q1.out)).mono ?_
  rintro e w3 ⟨x, y, z, rfl, q3, hh⟩
  have B3 := hid (B1.out.q q3)
  have R3 := hid (R1.out.q q3)
  have Q3 := hid (Q1.out.trans q3)
  have H3 := hid hh
  have hw3 := q3.size
  clear q3 hh B1 R1 Q1
  have G3 := hid (show Box (w3.alloc (.cells (fcells zf nilS nilS nilS) 34)) 34 w3.heap.size zf nilS nilS nilS from heap_alloc_new w3 _)
  go_wp2_with (refine wpList_store_row rfl 34 _ _ rfl w3.heap.size (fcells f x y z) rfl rfl 34 _ G3.out (fcells_info34 _ _ _ _) rfl (fcells_one _ _ _ _) ?_)
  generalize hw4 : World.setRow _ _ _ = w4
  have K4 := hid (show Keep (fun i => i = w3.heap.size) w3 w4 from by rw [← hw4]; exact ((Keep.ofQ ((Q.refl w3).alloc _))).setRow _ _ (.inl rfl))
  have X4 := hid (show Box w4 34 w3.heap.size f x y z from by rw [← hw4]; exact G3.out.row_ _ _ _ _)
  clear hw4 G3
  refine (A105.out w4).mono ?_
  rintro e u ⟨rfl, rfl⟩
  clear A105
  obtain ⟨a0, a1, a2, a3, a4, a5, a6, a7, a8, a9, a10, a11, a12⟩ := X4.out.all
  have fr := X4.out.free
  have k0 := (B3.out.keep K4.out (by omega)).c0
  go_wp2_with fail
  clear a0 a1 a2 a3 a4 a5 a6 a7 a8 a9 a10 a11 a12 fr k0
  generalize hw5 : World.setCell _ _ _ = w5
  have K5 := hid (show Keep (fun i => i = w3.heap.size) w3 w5 from by rw [← hw5]; exact (K4.out.setCell _ 1 (.int .i64 0) (.inl rfl)))
  have X5 := hid (X4.out.id_ 0)
  rw [hw5] at X5
  clear hw5 K4 X4
  refine (A97.out w5).mono ?_
  rintro e u ⟨rfl, rfl⟩
  clear A97
  obtain ⟨a0, a1, a2, a3, a4, a5, a6, a7, a8, a9, a10, a11, a12⟩ := X5.out.all
  have fr := X5.out.free
  have k0 := (B3.out.keep K5.out (by omega)).c0
  go_wp2_with fail
  clear a0 a1 a2 a3 a4 a5 a6 a7 a8 a9 a10 a11 a12 fr k0
  generalize hw6 : World.setCell _ _ _ = w6
  have K6 := hid (show Keep (fun i => i = w3.heap.size) w3 w6 from by rw [← hw6]; exact (K5.out.setCell _ 2 (.int .i64 0) (.inl rfl)))
  have X6 := hid (X5.out.pl_ 0)
  rw [hw6] at X6
  clear hw6 K5 X5
  refine (A110.out w6).mono ?_
  rintro e u ⟨rfl, rfl⟩
  clear A110
  obtain ⟨a0, a1, a2, a3, a4, a5, a6, a7, a8, a9, a10, a11, a12⟩ := X6.out.all
  have fr := X6.out.free
  have k0 := (B3.out.keep K6.out (by omega)).c0
  go_wp2_with fail
  clear a0 a1 a2 a3 a4 a5 a6 a7 a8 a9 a10 a11 a12 fr k0
  generalize hw7 : World.setCell _ _ _ = w7
  have K7 := hid (show Keep (fun i => i = w3.heap.size) w3 w7 from by rw [← hw7]; exact (K6.out.setCell _ 3 (.int .i64 0) (.inl rfl)))
  have X7 := hid (X6.out.num_ 0)
  rw [hw7] at X7
  clear hw7 K6 X6
  refine (A99.out w7).mono ?_
  rintro e u ⟨rfl, rfl⟩
  clear A99
  obtain ⟨a0, a1, a2, a3, a4, a5, a6, a7, a8, a9, a10, a11, a12⟩ := X7.out.all
  have fr := X7.out.free
  have k0 := (B3.out.keep K7.out (by omega)).c0
  go_wp2_with fail
  clear a0 a1 a2 a3 a4 a5 a6 a7 a8 a9 a10 a11 a12 fr k0
  generalize hw8 : World.setCell _ _ _ = w8
  have K8 := hid (show Keep (fun i => i = w3.heap.size) w3 w8 from by rw [← hw8]; exact ((K7.out.setCell _ 4 (.int .i64 0) (.inl rfl)).setCell _ 5 (.bool false) (.inl rfl)))
  have X8 := hid ((X7.out.code_ 0).fin0_)
  rw [hw8] at X8
  clear hw8 K7 X7
  refine (A100.out w8).mono ?_
  rintro e u ⟨rfl, rfl⟩
  clear A100
  obtain ⟨a0, a1, a2, a3, a4, a5, a6, a7, a8, a9, a10, a11, a12⟩ := X8.out.all
  have fr := X8.out.free
  have k0 := (B3.out.keep K8.out (by omega)).c0
  go_wp2_with fail
  clear a0 a1 a2 a3 a4 a5 a6 a7 a8 a9 a10 a11 a12 fr k0
  refine (A116.out w8).mono ?_
  rintro e u ⟨rfl, rfl⟩
  clear A116
  obtain ⟨a0, a1, a2, a3, a4, a5, a6, a7, a8, a9, a10, a11, a12⟩ := X8.out.all
  have fr := X8.out.free
  have k0 := (B3.out.keep K8.out (by omega)).c0
  go_wp2_with fail
  clear a0 a1 a2 a3 a4 a5 a6 a7 a8 a9 a10 a11 a12 fr k0
  refine (A112.out w8).mono ?_
  rintro e u ⟨rfl, rfl⟩
  clear A112
  obtain ⟨a0, a1, a2, a3, a4, a5, a6, a7, a8, a9, a10, a11, a12⟩ := X8.out.all
  have fr := X8.out.free
  have k0 := (B3.out.keep K8.out (by omega)).c0
  go_wp2_with fail
  clear a0 a1 a2 a3 a4 a5 a6 a7 a8 a9 a10 a11 a12 fr k0
  generalize hw9 : World.setCell _ _ _ = w9
  have K9 := hid (show Keep (fun i => i = w3.heap.size) w3 w9 from by rw [← hw9]; exact (K8.out.setCell _ 6 (.slice none 0 0) (.inl rfl)))
  have X9 := hid (X8.out.dataN_)
  rw [hw9] at X9
  clear hw9 K8 X8
  refine (A107.out w9).mono ?_
  rintro e u ⟨rfl, rfl⟩
  clear A107
  obtain ⟨a0, a1, a2, a3, a4, a5, a6, a7, a8, a9, a10, a11, a12⟩ := X9.out.all
  have fr := X9.out.free
  have k0 := (B3.out.keep K9.out (by omega)).c0
  go_wp2_with fail
  clear a0 a1 a2 a3 a4 a5 a6 a7 a8 a9 a10 a11 a12 fr k0
  generalize hw10 : World.setCell _ _ _ = w10
  have K10 := hid (show Keep (fun i => i = w3.heap.size) w3 w10 from by rw [← hw10]; exact (K9.out.setCell _ 7 (.slice none 0 0) (.inl rfl)))
  have X10 := hid (X9.out.cidN_)
  rw [hw10] at X10
  clear hw10 K9 X9
  refine (A115.out w10).mono ?_
  rintro e u ⟨rfl, rfl⟩
  clear A115
  obtain ⟨a0, a1, a2, a3, a4, a5, a6, a7, a8, a9, a10, a11, a12⟩ := X10.out.all
  have fr := X10.out.free
  have k0 := (B3.out.keep K10.out (by omega)).c0
  go_wp2_with fail
  clear a0 a1 a2 a3 a4 a5 a6 a7 a8 a9 a10 a11 a12 fr k0
  refine (A101.out w10).mono ?_
  rintro e u ⟨rfl, rfl⟩
  clear A101
  obtain ⟨a0, a1, a2, a3, a4, a5, a6, a7, a8, a9, a10, a11, a12⟩ := X10.out.all
  have fr := X10.out.free
  have k0 := (B3.out.keep K10.out (by omega)).c0
  have RR := hid (R3.out.keep K10.out (by omega))
  have XE := (X10.out.ecn_ 0 0 0).all
  have KE := hid ((((K10.out.setCell _ 10 (.int .i64 0) (.inl rfl)).setCell _ 11 (.int .i64 0) (.inl rfl)).setCell _ 12 (.int .i64 0) (.inl rfl)))
  obtain ⟨e0, e1, e2, e3, e4, e5, e6, e7, e8, e9, e10, e11, e12⟩ := XE
  have RE := hid (R3.out.keep KE.out (by omega))
  go_wp2_with (refine wpList_store_row rfl 34 _ _ rfl (w.heap.size + 1) (fcells { f with id := 0, pl := 0, num := 0, code := 0, fin := false, data := [], cid := [], e0 := 0, e1 := 0, e2 := 0 } nilS nilS z) rfl rfl 34 _ RE.out (fcells_info34 _ _ _ _) rfl (fcells_one _ _ _ _) ?_)
  have KF := KE.out.mono (G := fun i => i = w3.heap.size ∨ i = w.heap.size + 1) (fun _ _ e => .inl e)
  have KG := KF.setRow (w.heap.size + 1) (fcells { f with id := 0, pl := 0, num := 0, code := 0, fin := false, data := [], cid := [], e0 := 0, e1 := 0, e2 := 0 } nilS nilS z) (.inl (.inr rfl))
  have hq := KG.below Q3.out Q3.out.size (fun i e => by omega)
  have hh : HoldsR w1.heap.size w3 { f with id := 0, pl := 0, num := 0, code := 0, fin := false, data := [], cid := [], e0 := 0, e1 := 0, e2 := 0 } nilS nilS z := ⟨(holdsR_nil 0 w3 zf rfl rfl rfl).dr, (holdsR_nil 0 w3 zf rfl rfl rfl).cr, H3.out.sr, (holdsR_nil w1.heap.size w3 zf rfl rfl rfl).nd, (holdsR_nil w1.heap.size w3 zf rfl rfl rfl).nc, H3.out.ns⟩
  have h4 := hh.keep KG (fun i e => by omega)
  exact ret_frame34 rfl rfl (w.heap.size + 1) 34 _ nilS nilS z rfl (RE.out.row_ _ _ _ _) ⟨_, _, _, rfl, hq, h4.dr, h4.cr, h4.sr, h4.nd.mono (by omega), h4.nc.mono (by omega), h4.ns.mono (by omega)⟩
set_option maxHeartbeats 8000000 in
theorem bare_se (f : Fr) (d c s : Sv) (w : World) (h : Fit w f d c s) (hI : itL f.kind = [115, 101]) (h0 : (f.kind != 0) = true) (h8 : (f.kind != 8) = true) :
    Calls Try.prog 22 #[fv f d c s] w (BareA w { f with id := 0, pl := 0, num := 0, code := 0, fin := false, data := [], cid := [] }) := by
  have A105 := hid (has_call (m := 105) (show (itL f.kind).length ≤ 1000 from by rw [hI]; decide) (show hasB (itL f.kind) 105 = false from by rw [hI]; decide))
  have A97 := hid (has_call (m := 97) (show (itL f.kind).length ≤ 1000 from by rw [hI]; decide) (show hasB (itL f.kind) 97 = false from by rw [hI]; decide))
  have A110 := hid (has_call (m := 110) (show (itL f.kind).length ≤ 1000 from by rw [hI]; decide) (show hasB (itL f.kind) 110 = false from by rw [hI]; decide))
  have A99 := hid (has_call (m := 99) (show (itL f.kind).length ≤ 1000 from by rw [hI]; decide) (show hasB (itL f.kind) 99 = false from by rw [hI]; decide))
  have A100 := hid (has_call (m := 100) (show (itL f.kind).length ≤ 1000 from by rw [hI]; decide) (show hasB (itL f.kind) 100 = false from by rw [hI]; decide))
  have A116 := hid (has_call (m := 116) (show (itL f.kind).length ≤ 1000 from by rw [hI]; decide) (show hasB (itL f.kind) 116 = false from by rw [hI]; decide))
  have A112 := hid (has_call (m := 112) (show (itL f.kind).length ≤ 1000 from by rw [hI]; decide) (show hasB (itL f.kind) 112 = false from by rw [hI]; decide))
  have A107 := hid (has_call (m := 107) (show (itL f.kind).length ≤ 1000 from by rw [hI]; decide) (show hasB (itL f.kind) 107 = false from by rw [hI]; decide))
  have A115 := hid (has_call (m := 115) (show (itL f.kind).length ≤ 1000 from by rw [hI]; decide) (show hasB (itL f.kind) 115 = true from by rw [hI]; decide))
  have A101 := hid (has_call (m := 101) (show (itL f.kind).length ≤ 1000 from by rw [hI]; decide) (show hasB (itL f.kind) 101 = true from by rw [hI]; decide))
  have HH := hid h
  clear h hI
  go_enter Try.func22, Try.ntmps22
  go_wp2_with fail
  generalize hw1 : World.alloc (World.alloc w _) _ = w1
  have q1 : Q w w1 := by rw [← hw1]; exact ((Q.refl w).alloc _).alloc _
  have b1 : Box w1 34 w.heap.size f d c s := by rw [← hw1]; exact heap_alloc2_old w _ _
  have r1 : Box w1 34 (w.heap.size + 1) zf nilS nilS nilS := by rw [← hw1]; exact heap_alloc2_new w _ _
  have hsz : w1.heap.size = w.heap.size + 2 := by rw [← hw1]; simp
  clear hw1
  refine (ritems_any f.kind w1).mono ?_
  rintro e u ⟨rfl, rfl⟩
  obtain ⟨a0, a1, a2, a3, a4, a5, a6, a7, a8, a9, a10, a11, a12⟩ := b1.all
  have B1 := hid b1
  have R1 := hid r1
  have Q1 := hid q1
  clear b1 r1 q1
  go_wp2_with fail
  clear a0 a1 a2 a3 a4 a5 a6 a7 a8 a9 a10 a11 a12
  refine (rcopyF_any f d c s w1 (HH.out.q Q1.out)).mono ?_
  rintro e w3 ⟨x, y, z, rfl, q3, hh⟩
  have B3 := hid (B1.out.q q3)
  have R3 := hid (R1.out.q q3)
  have Q3 := hid (Q1.out.trans q3)
  have H3 := hid hh
  have hw3 := q3.size
  clear q3 hh B1 R1 Q1
  have G3 := hid (show Box (w3.alloc (.cells (fcells zf nilS nilS nilS) 34)) 34 w3.heap.size zf nilS nilS nilS from heap_alloc_new w3 _)
  go_wp2_with (refine wpList_store_row rfl 34 _ _ rfl w3.heap.size (fcells f x y z) rfl rfl 34 _ G3.out (fcells_info34 _ _ _ _) rfl (fcells_one _ _ _ _) ?_)
  generalize hw4 : World.setRow _ _ _ = w4
  have K4 := hid (show Keep (fun i => i = w3.heap.size) w3 w4 from by rw [← hw4]; exact ((Keep.ofQ ((Q.refl w3).alloc _))).setRow _ _ (.inl rfl))
  have X4 := hid (show Box w4 34 w3.heap.size f x y z from by rw [← hw4]; exact G3.out.row_ _ _ _ _)
  clear hw4 G3
  refine (A105.out w4).mono ?_
  rintro e u ⟨rfl, rfl⟩
  clear A105
  obtain ⟨a0, a1, a2, a3, a4, a5, a6, a7, a8, a9, a10, a11, a12⟩ := X4.out.all
  have fr := X4.out.free
  have k0 := (B3.out.keep K4.out (by omega)).c0
  go_wp2_with fail
  clear a0 a1 a2 a3 a4 a5 a6 a7 a8 a9 a10 a11 a12 fr k0
  generalize hw5 : World.setCell _ _ _ = w5
  have K5 := hid (show Keep (fun i => i = w3.heap.size) w3 w5 from by rw [← hw5]; exact (K4.out.setCell _ 1 (.int .i64 0) (.inl rfl)))
  have X5 := hid (X4.out.id_ 0)
  rw [hw5] at X5
  clear hw5 K4 X4
  refine (A97.out w5).mono ?_
  rintro e u ⟨rfl, rfl⟩
  clear A97
  obtain ⟨a0, a1, a2, a3, a4, a5, a6, a7, a8, a9, a10, a11, a12⟩ := X5.out.all
  have fr := X5.out.free
  have k0 := (B3.out.keep K5.out (by omega)).c0
  go_wp2_with fail
  clear a0 a1 a2 a3 a4 a5 a6 a7 a8 a9 a10 a11 a12 fr k0
  generalize hw6 : World.setCell _ _ _ = w6
  have K6 := hid (show Keep (fun i => i = w3.heap.size) w3 w6 from by rw [← hw6]; exact (K5.out.setCell _ 2 (.int .i64 0) (.inl rfl)))
  have X6 := hid (X5.out.pl_ 0)
  rw [hw6] at X6
  clear hw6 K5 X5
  refine (A110.out w6).mono ?_
  rintro e u ⟨rfl, rfl⟩
  clear A110
  obtain ⟨a0, a1, a2, a3, a4, a5, a6, a7, a8, a9, a10, a11, a12⟩ := X6.out.all
  have fr := X6.out.free
  have k0 := (B3.out.keep K6.out (by omega)).c0
  go_wp2_with fail
  clear a0 a1 a2 a3 a4 a5 a6 a7 a8 a9 a10 a11 a12 fr k0
  generalize hw7 : World.setCell _ _ _ = w7
  have K7 := hid (show Keep (fun i => i = w3.heap.size) w3 w7 from by rw [← hw7]; exact (K6.out.setCell _ 3 (.int .i64 0) (.inl rfl)))
  have X7 := hid (X6.out.num_ 0)
  rw [hw7] at X7
  clear hw7 K6 X6
  refine (A99.out w7).mono ?_
  rintro e u ⟨rfl, rfl⟩
  clear A99
  obtain ⟨a0, a1, a2, a3, a4, a5, a6, a7, a8, a9, a10, a11, a12⟩ := X7.out.all
  have fr := X7.out.free
  have k0 := (B3.out.keep K7.out (by omega)).c0
  go_wp2_with fail
  clear a0 a1 a2 a3 a4 a5 a6 a7 a8 a9 a10 a11 a12 fr k0
  generalize hw8 : World.setCell _ _ _ = w8
  have K8 := hid (show Keep (fun i => i = w3.heap.size) w3 w8 from by rw [← hw8]; exact ((K7.out.setCell _ 4 (.int .i64 0) (.inl rfl)).setCell _ 5 (.bool false) (.inl rfl)))
  have X8 := hid ((X7.out.code_ 0).fin0_)
  rw [hw8] at X8
  clear hw8 K7 X7
  refine (A100.out w8).mono ?_
  rintro e u ⟨rfl, rfl⟩
  clear A100
  obtain ⟨a0, a1, a2, a3, a4, a5, a6, a7, a8, a9, a10, a11, a12⟩ := X8.out.all
  have fr := X8.out.free
  have k0 := (B3.out.keep K8.out (by omega)).c0
  go_wp2_with fail
  clear a0 a1 a2 a3 a4 a5 a6 a7 a8 a9 a10 a11 a12 fr k0
  refine (A116.out w8).mono ?_
  rintro e u ⟨rfl, rfl⟩
  clear A116
  obtain ⟨a0, a1, a2, a3, a4, a5, a6, a7, a8, a9, a10, a11, a12⟩ := X8.out.all
  have fr := X8.out.free
  have k0 := (B3.out.keep K8.out (by omega)).c0
  go_wp2_with fail
  clear a0 a1 a2 a3 a4 a5 a6 a7 a8 a9 a10 a11 a12 fr k0
  refine (A112.out w8).mono ?_
  rintro e u ⟨rfl, rfl⟩
  clear A112
  obtain ⟨a0, a1, a2, a3, a4, a5, a6, a7, a8, a9, a10, a11, a12⟩ := X8.out.all
  have fr := X8.out.free
  have k0 := (B3.out.keep K8.out (by omega)).c0
  go_wp2_with fail
  clear a0 a1 a2 a3 a4 a5 a6 a7 a8 a9 a10 a11 a12 fr k0
  generalize hw9 : World.setCell _ _ _ = w9
  have K9 := hid (show Keep (fun i => i = w3.heap.size) w3 w9 from by rw [← hw9]; exact (K8.out.setCell _ 6 (.slice none 0 0) (.inl rfl)))
  have X9 := hid (X8.out.dataN_)
  rw [hw9] at X9
  clear hw9 K8 X8
  refine (A107.out w9).mono ?_
  rintro e u ⟨rfl, rfl⟩
  clear A107
  obtain ⟨a0, a1, a2, a3, a4, a5, a6, a7, a8, a9, a10, a11, a12⟩ := X9.out.all
  have fr := X9.out.free
  have k0 := (B3.out.keep K9.out (by omega)).c0
  go_wp2_with fail
  clear a0 a1 a2 a3 a4 a5 a6 a7 a8 a9 a10 a11 a12 fr k0
  generalize hw10 : World.setCell _ _ _ = w10
  have K10 := hid (show Keep (fun i => i = w3.heap.size) w3 w10 from by rw [← hw10]; exact (K9.out.setCell _ 7 (.slice none 0 0) (.inl rfl)))
  have X10 := hid (X9.out.cidN_)
  rw [hw10] at X10
  clear hw10 K9 X9
  refine (A115.out w10).mono ?_
  rintro e u ⟨rfl, rfl⟩
  clear A115
  obtain ⟨a0, a1, a2, a3, a4, a5, a6, a7, a8, a9, a10, a11, a12⟩ := X10.out.all
  have fr := X10.out.free
  have k0 := (B3.out.keep K10.out (by omega)).c0
  go_wp2_with fail
  clear a0 a1 a2 a3 a4 a5 a6 a7 a8 a9 a10 a11 a12 fr k0
  refine (A101.out w10).mono ?_
  rintro e u ⟨rfl, rfl⟩
  clear A101
  obtain ⟨a0, a1, a2, a3, a4, a5, a6, a7, a8, a9, a10, a11, a12⟩ := X10.out.all
  have fr := X10.out.free
  have k0 := (B3.out.keep K10.out (by omega)).c0
  have RR := hid (R3.out.keep K10.out (by omega))
  have KE := K10
  have RE := hid (R3.out.keep KE.out (by omega))
  go_wp2_with (refine wpList_store_row rfl 34 _ _ rfl (w.heap.size + 1) (fcells { f with id := 0, pl := 0, num := 0, code := 0, fin := false, data := [], cid := [] } nilS nilS z) rfl rfl 34 _ RE.out (fcells_info34 _ _ _ _) rfl (fcells_one _ _ _ _) ?_)
  have KF := KE.out.mono (G := fun i => i = w3.heap.size ∨ i = w.heap.size + 1) (fun _ _ e => .inl e)
  have KG := KF.setRow (w.heap.size + 1) (fcells { f with id := 0, pl := 0, num := 0, code := 0, fin := false, data := [], cid := [] } nilS nilS z) (.inl (.inr rfl))
  have hq := KG.below Q3.out Q3.out.size (fun i e => by omega)
  have hh : HoldsR w1.heap.size w3 { f with id := 0, pl := 0, num := 0, code := 0, fin := false, data := [], cid := [] } nilS nilS z := ⟨(holdsR_nil 0 w3 zf rfl rfl rfl).dr, (holdsR_nil 0 w3 zf rfl rfl rfl).cr, H3.out.sr, (holdsR_nil w1.heap.size w3 zf rfl rfl rfl).nd, (holdsR_nil w1.heap.size w3 zf rfl rfl rfl).nc, H3.out.ns⟩
  have h4 := hh.keep KG (fun i e => by omega)
  exact ret_frame34 rfl rfl (w.heap.size + 1) 34 _ nilS nilS z rfl (RE.out.row_ _ _ _ _) ⟨_, _, _, rfl, hq, h4.dr, h4.cr, h4.sr, h4.nd.mono (by omega), h4.nc.mono (by omega), h4.ns.mono (by omega)⟩
set_option maxHeartbeats 8000000 in
theorem bare_icn (f : Fr) (d c s : Sv) (w : World) (h : Fit w f d c s) (hI : itL f.kind = [105, 99, 110]) (h0 : (f.kind != 0) = true) (h8 : (f.kind != 8) = true) :
    Calls Try.prog 22 #[fv f d c s] w (BareA w { f with pl := 0, fin := false, data := [], cid := [], sp := [], dl := 0, e0 := 0, e1 := 0, e2 := 0 }) := by
  have A105 := hid (has_call (m := 105) (show (itL f.kind).length ≤ 1000 from by rw [hI]; decide) (show hasB (itL f.kind) 105 = true from by rw [hI]; decide))
  have A97 := hid (has_call (m := 97) (show (itL f.kind).length ≤ 1000 from by rw [hI]; decide) (show hasB (itL f.kind) 97 = false from by rw [hI]; decide))
  have A110 := hid (has_call (m := 110) (show (itL f.kind).length ≤ 1000 from by rw [hI]; decide) (show hasB (itL f.kind) 110 = true from by rw [hI]; decide))
  have A99 := hid (has_call (m := 99) (show (itL f.kind).length ≤ 1000 from by rw [hI]; decide) (show hasB (itL f.kind) 99 = true from by rw [hI]; decide))
  have A100 := hid (has_call (m := 100) (show (itL f.kind).length ≤ 1000 from by rw [hI]; decide) (show hasB (itL f.kind) 100 = false from by rw [hI]; decide))
  have A116 := hid (has_call (m := 116) (show (itL f.kind).length ≤ 1000 from by rw [hI]; decide) (show hasB (itL f.kind) 116 = false from by rw [hI]; decide))
  have A112 := hid (has_call (m := 112) (show (itL f.kind).length ≤ 1000 from by rw [hI]; decide) (show hasB (itL f.kind) 112 = false from by rw [hI]; decide))
  have A107 := hid (has_call (m := 107) (show (itL f.kind).length ≤ 1000 from by rw [hI]; decide) (show hasB (itL f.kind) 107 = false from by rw [hI]; decide))
  have A115 := hid (has_call (m := 115) (show (itL f.kind).length ≤ 1000 from by rw [hI]; decide) (show hasB (itL f.kind) 115 = false from by rw [hI]; decide))
  have A101 := hid (has_call (m := 101) (show (itL f.kind).length ≤ 1000 from by rw [hI]; decide) (show hasB (itL f.kind) 101 = false from by rw [hI]; decide))
  have HH := hid h
  clear h hI
  go_enter Try.func22, Try.ntmps22
  go_wp2_with fail
  generalize hw1 : World.alloc (World.alloc w _) _ = w1
  have q1 : Q w w1 := by rw [← hw1]; exact ((Q.refl w).alloc _).alloc _
  have b1 : Box w1 34 w.heap.size f d c s := by rw [← hw1]; exact heap_alloc2_old w _ _
  have r1 : Box w1 34 (w.heap.size + 1) zf nilS nilS nilS := by rw [← hw1]; exact heap_alloc2_new w _ _
  have hsz : w1.heap.size = w.heap.size + 2 := by rw [← hw1]; simp
  clear hw1
  refine (ritems_any f.kind w1).mono ?_
  rintro e u ⟨rfl, rfl⟩
  obtain ⟨a0, a1, a2, a3, a4, a5, a6, a7, a8, a9, a10, a11, a12⟩ := b1.all
  have B1 := hid b1
  have R1 := hid r1
  have Q1 := hid q1
  clear b1 r1 q1
  go_wp2_with fail
  clear a0 a1 a2 a3 a4 a5 a6 a7 a8 a9 a10 a11 a12
  refine (rcopyF_any f d c s w1 (HH.out.q Q1.out)).mono ?_
  rintro e w3 ⟨x, y, z, rfl, q3, hh⟩
  have B3 := hid (B1.out.q q3)
  have R3 := hid (R1.out.q q3)
  have Q3 := hid (Q1.out.trans q3)
  have H3 := hid hh
  have hw3 := q3.size
  clear q3 hh B1 R1 Q1
  have G3 := hid (show Box (w3.alloc (.cells (fcells zf nilS nilS nilS) 34)) 34 w3.heap.size zf nilS nilS nilS from heap_alloc_new w3 _)
  go_wp2_with (refine wpList_store_row rfl 34 _ _ rfl w3.heap.size (fcells f x y z) rfl rfl 34 _ G3.out (fcells_info34 _ _ _ _) rfl (fcells_one _ _ _ _) ?_)
  generalize hw4 : World.setRow _ _ _ = w4
  have K4 := hid (show Keep (fun i => i = w3.heap.size) w3 w4 from by rw [← hw4]; exact ((Keep.ofQ ((Q.refl w3).alloc _))).setRow _ _ (.inl rfl))
  have X4 := hid (show Box w4 34 w3.heap.size f x y z from by rw [← hw4]; exact G3.out.row_ _ _ _ _)
  clear hw4 G3
  refine (A105.out w4).mono ?_
  rintro e u ⟨rfl, rfl⟩
  clear A105
  obtain ⟨a0, a1, a2, a3, a4, a5, a6, a7, a8, a9, a10, a11, a12⟩ := X4.out.all
  have fr := X4.out.free
  have k0 := (B3.out.keep K4.out (by omega)).c0
  go_wp2_with fail
  clear a0 a1 a2 a3 a4 a5 a6 a7 a8 a9 a10 a11 a12 fr k0
  refine (A97.out w4).mono ?_
  rintro e u ⟨rfl, rfl⟩
  clear A97
  obtain ⟨a0, a1, a2, a3, a4, a5, a6, a7, a8, a9, a10, a11, a12⟩ := X4.out.all
  have fr := X4.out.free
  have k0 := (B3.out.keep K4.out (by omega)).c0
  go_wp2_with fail
  clear a0 a1 a2 a3 a4 a5 a6 a7 a8 a9 a10 a11 a12 fr k0
  generalize hw5 : World.setCell _ _ _ = w5
  have K5 := hid (show Keep (fun i => i = w3.heap.size) w3 w5 from by rw [← hw5]; exact (K4.out.setCell _ 2 (.int .i64 0) (.inl rfl)))
  have X5 := hid (X4.out.pl_ 0)
  rw [hw5] at X5
  clear hw5 K4 X4
  refine (A110.out w5).mono ?_
  rintro e u ⟨rfl, rfl⟩
  clear A110
  obtain ⟨a0, a1, a2, a3, a4, a5, a6, a7, a8, a9, a10, a11, a12⟩ := X5.out.all
  have fr := X5.out.free
  have k0 := (B3.out.keep K5.out (by omega)).c0
  go_wp2_with fail
  clear a0 a1 a2 a3 a4 a5 a6 a7 a8 a9 a10 a11 a12 fr k0
  refine (A99.out w5).mono ?_
  rintro e u ⟨rfl, rfl⟩
  clear A99
  obtain ⟨a0, a1, a2, a3, a4, a5, a6, a7, a8, a9, a10, a11, a12⟩ := X5.out.all
  have fr := X5.out.free
  have k0 := (B3.out.keep K5.out (by omega)).c0
  go_wp2_with fail
  clear a0 a1 a2 a3 a4 a5 a6 a7 a8 a9 a10 a11 a12 fr k0
  generalize hw6 : World.setCell _ _ _ = w6
  have K6 := hid (show Keep (fun i => i = w3.heap.size) w3 w6 from by rw [← hw6]; exact (K5.out.setCell _ 5 (.bool false) (.inl rfl)))
  have X6 := hid (X5.out.fin0_)
  rw [hw6] at X6
  clear hw6 K5 X5
  refine (A100.out w6).mono ?_
  rintro e u ⟨rfl, rfl⟩
  clear A100
  obtain ⟨a0, a1, a2, a3, a4, a5, a6, a7, a8, a9, a10, a11, a12⟩ := X6.out.all
  have fr := X6.out.free
  have k0 := (B3.out.keep K6.out (by omega)).c0
  go_wp2_with fail
  clear a0 a1 a2 a3 a4 a5 a6 a7 a8 a9 a10 a11 a12 fr k0
  refine (A116.out w6).mono ?_
  rintro e u ⟨rfl, rfl⟩
  clear A116
  obtain ⟨a0, a1, a2, a3, a4, a5, a6, a7, a8, a9, a10, a11, a12⟩ := X6.out.all
  have fr := X6.out.free
  have k0 := (B3.out.keep K6.out (by omega)).c0
  go_wp2_with fail
  clear a0 a1 a2 a3 a4 a5 a6 a7 a8 a9 a10 a11 a12 fr k0
  refine (A112.out w6).mono ?_
  rintro e u ⟨rfl, rfl⟩
  clear A112
  obtain ⟨a0, a1, a2, a3, a4, a5, a6, a7, a8, a9, a10, a11, a12⟩ := X6.out.all
  have fr := X6.out.free
  have k0 := (B3.out.keep K6.out (by omega)).c0
  go_wp2_with fail
  clear a0 a1 a2 a3 a4 a5 a6 a7 a8 a9 a10 a11 a12 fr k0
  generalize hw7 : World.setCell _ _ _ = w7
  have K7 := hid (show Keep (fun i => i = w3.heap.size) w3 w7 from by rw [← hw7]; exact (K6.out.setCell _ 6 (.slice none 0 0) (.inl rfl)))
  have X7 := hid (X6.out.dataN_)
  rw [hw7] at X7
  clear hw7 K6 X6
  refine (A107.out w7).mono ?_
  rintro e u ⟨rfl, rfl⟩
  clear A107
  obtain ⟨a0, a1, a2, a3, a4, a5, a6, a7, a8, a9, a10, a11, a12⟩ := X7.out.all
  have fr := X7.out.free
  have k0 := (B3.out.keep K7.out (by omega)).c0
  go_wp2_with fail
  clear a0 a1 a2 a3 a4 a5 a6 a7 a8 a9 a10 a11 a12 fr k0
  generalize hw8 : World.setCell _ _ _ = w8
  have K8 := hid (show Keep (fun i => i = w3.heap.size) w3 w8 from by rw [← hw8]; exact (K7.out.setCell _ 7 (.slice none 0 0) (.inl rfl)))
  have X8 := hid (X7.out.cidN_)
  rw [hw8] at X8
  clear hw8 K7 X7
  refine (A115.out w8).mono ?_
  rintro e u ⟨rfl, rfl⟩
  clear A115
  obtain ⟨a0, a1, a2, a3, a4, a5, a6, a7, a8, a9, a10, a11, a12⟩ := X8.out.all
  have fr := X8.out.free
  have k0 := (B3.out.keep K8.out (by omega)).c0
  go_wp2_with fail
  clear a0 a1 a2 a3 a4 a5 a6 a7 a8 a9 a10 a11 a12 fr k0
  generalize hw9 : World.setCell _ _ _ = w9
  have K9 := hid (show Keep (fun i => i = w3.heap.size) w3 w9 from by rw [← hw9]; exact ((K8.out.setCell _ 8 (.slice none 0 0) (.inl rfl)).setCell _ 9 (.int .i64 0) (.inl rfl)))
  have X9 := hid (X8.out.spN_.dl_ 0)
  rw [hw9] at X9
  clear hw9 K8 X8
  refine (A101.out w9).mono ?_
  rintro e u ⟨rfl, rfl⟩
  clear A101
  obtain ⟨a0, a1, a2, a3, a4, a5, a6, a7, a8, a9, a10, a11, a12⟩ := X9.out.all
  have fr := X9.out.free
  have k0 := (B3.out.keep K9.out (by omega)).c0
  have RR := hid (R3.out.keep K9.out (by omega))
  have XE := (X9.out.ecn_ 0 0 0).all
  have KE := hid ((((K9.out.setCell _ 10 (.int .i64 0) (.inl rfl)).setCell _ 11 (.int .i64 0) (.inl rfl)).setCell _ 12 (.int .i64 0) (.inl rfl)))
  obtain ⟨e0, e1, e2, e3, e4, e5, e6, e7, e8, e9, e10, e11, e12⟩ := XE
  have RE := hid (R3.out.keep KE.out (by omega))
  go_wp2_with (refine wpList_store_row rfl 34 _ _ rfl (w.heap.size + 1) (fcells { f with pl := 0, fin := false, data := [], cid := [], sp := [], dl := 0, e0 := 0, e1 := 0, e2 := 0 } nilS nilS nilS) rfl rfl 34 _ RE.out (fcells_info34 _ _ _ _) rfl (fcells_one _ _ _ _) ?_)
  have KF := KE.out.mono (G := fun i => i = w3.heap.size ∨ i = w.heap.size + 1) (fun _ _ e => .inl e)
  have KG := KF.setRow (w.heap.size + 1) (fcells { f with pl := 0, fin := false, data := [], cid := [], sp := [], dl := 0, e0 := 0, e1 := 0, e2 := 0 } nilS nilS nilS) (.inl (.inr rfl))
  have hq := KG.below Q3.out Q3.out.size (fun i e => by omega)
  have hh : HoldsR w1.heap.size w3 { f with pl := 0, fin := false, data := [], cid := [], sp := [], dl := 0, e0 := 0, e1 := 0, e2 := 0 } nilS nilS nilS := ⟨(holdsR_nil 0 w3 zf rfl rfl rfl).dr, (holdsR_nil 0 w3 zf rfl rfl rfl).cr, (holdsR_nil 0 w3 zf rfl rfl rfl).sr, (holdsR_nil w1.heap.size w3 zf rfl rfl rfl).nd, (holdsR_nil w1.heap.size w3 zf rfl rfl rfl).nc, (holdsR_nil w1.heap.size w3 zf rfl rfl rfl).ns⟩
  have h4 := hh.keep KG (fun i e => by omega)
  exact ret_frame34 rfl rfl (w.heap.size + 1) 34 _ nilS nilS nilS rfl (RE.out.row_ _ _ _ _) ⟨_, _, _, rfl, hq, h4.dr, h4.cr, h4.sr, h4.nd.mono (by omega), h4.nc.mono (by omega), h4.ns.mono (by omega)⟩
set_option maxHeartbeats 8000000 in
theorem bare_ic (f : Fr) (d c s : Sv) (w : World) (h : Fit w f d c s) (hI : itL f.kind = [105, 99]) (h0 : (f.kind != 0) = true) (h8 : (f.kind != 8) = true) :
    Calls Try.prog 22 #[fv f d c s] w (BareA w { f with pl := 0, num := 0, fin := false, data := [], cid := [], sp := [], dl := 0, e0 := 0, e1 := 0, e2 := 0 }) := by
  have A105 := hid (has_call (m := 105) (show (itL f.kind).length ≤ 1000 from by rw [hI]; decide) (show hasB (itL f.kind) 105 = true from by rw [hI]; decide))
  have A97 := hid (has_call (m := 97) (show (itL f.kind).length ≤ 1000 from by rw [hI]; decide) (show hasB (itL f.kind) 97 = false from by rw [hI]; decide))
  have A110 := hid (has_call (m := 110) (show (itL f.kind).length ≤ 1000 from by rw [hI]; decide) (show hasB (itL f.kind) 110 = false from by rw [hI]; decide))
  have A99 := hid (has_call (m := 99) (show (itL f.kind).length ≤ 1000 from by rw [hI]; decide) (show hasB (itL f.kind) 99 = true from by rw [hI]; decide))
  have A100 := hid (has_call (m := 100) (show (itL f.kind).length ≤ 1000 from by rw [hI]; decide) (show hasB (itL f.kind) 100 = false from by rw [hI]; decide))
  have A116 := hid (has_call (m := 116) (show (itL f.kind).length ≤ 1000 from by rw [hI]; decide) (show hasB (itL f.kind) 116 = false from by rw [hI]; decide))
  have A112 := hid (has_call (m := 112) (show (itL f.kind).length ≤ 1000 from by rw [hI]; decide) (show hasB (itL f.kind) 112 = false from by rw [hI]; decide))
  have A107 := hid (has_call (m := 107) (show (itL f.kind).length ≤ 1000 from by rw [hI]; decide) (show hasB (itL f.kind) 107 = false from by rw [hI]; decide))
  have A115 := hid (has_call (m := 115) (show (itL f.kind).length ≤ 1000 from by rw [hI]; decide) (show hasB (itL f.kind) 115 = false from by rw [hI]; decide))
  have A101 := hid (has_call (m := 101) (show (itL f.kind).length ≤ 1000 from by rw [hI]; decide) (show hasB (itL f.kind) 101 = false from by rw [hI]; decide))
  have HH := hid h
  clear h hI
  go_enter Try.func22, Try.ntmps22
  go_wp2_with fail
  generalize hw1 : World.alloc (World.alloc w _) _ = w1
  have q1 : Q w w1 := by rw [← hw1]; exact ((Q.refl w).alloc _).alloc _
  have b1 : Box w1 34 w.heap.size f d c s := by rw [← hw1]; exact heap_alloc2_old w _ _
  have r1 : Box w1 34 (w.heap.size + 1) zf nilS nilS nilS := by rw [← hw1]; exact heap_alloc2_new w _ _
  have hsz : w1.heap.size = w.heap.size + 2 := by rw [← hw1]; simp
  clear hw1
  refine (ritems_any f.kind w1).mono ?_
  rintro e u ⟨rfl, rfl⟩
  obtain ⟨a0, a1, a2, a3, a4, a5, a6, a7, a8, a9, a10, a11, a12⟩ := b1.all
  have B1 := hid b1
  have R1 := hid r1
  have Q1 := hid q1
  clear b1 r1 q1
  go_wp2_with fail
  clear a0 a1 a2 a3 a4 a5 a6 a7 a8 a9 a10 a11 a12
  refine (rcopyF_any f d c s w1 (HH.out.q Q1.out)).mono ?_
  rintro e w3 ⟨x, y, z, rfl, q3, hh⟩
  have B3 := hid (B1.out.q q3)
  have R3 := hid (R1.out.q q3)
  have Q3 := hid (Q1.out.trans q3)
  have H3 := hid hh
  have hw3 := q3.size
  clear q3 hh B1 R1 Q1
  have G3 := hid (show Box (w3.alloc (.cells (fcells zf nilS nilS nilS) 34)) 34 w3.heap.size zf nilS nilS nilS from heap_alloc_new w3 _)
  go_wp2_with (refine wpList_store_row rfl 34 _ _ rfl w3.heap.size (fcells f x y z) rfl rfl 34 _ G3.out (fcells_info34 _ _ _ _) rfl (fcells_one _ _ _ _) ?_)
  generalize hw4 : World.setRow _ _ _ = w4
  have K4 := hid (show Keep (fun i => i = w3.heap.size) w3 w4 from by rw [← hw4]; exact ((Keep.ofQ ((Q.refl w3).alloc _))).setRow _ _ (.inl rfl))
  have X4 := hid (show Box w4 34 w3.heap.size f x y z from by rw [← hw4]; exact G3.out.row_ _ _ _ _)
  clear hw4 G3
  refine (A105.out w4).mono ?_
  rintro e u ⟨rfl, rfl⟩
  clear A105
  obtain ⟨a0, a1, a2, a3, a4, a5, a6, a7, a8, a9, a10, a11, a12⟩ := X4.out.all
  have fr := X4.out.free
  have k0 := (B3.out.keep K4.out (by omega)).c0
  go_wp2_with fail
  clear a0 a1 a2 a3 a4 a5 a6 a7 a8 a9 a10 a11 a12 fr k0
  refine (A97.out w4).mono ?_
  rintro e u ⟨rfl, rfl⟩
  clear A97
  obtain ⟨a0, a1, a2, a3, a4, a5, a6, a7, a8, a9, a10, a11, a12⟩ := X4.out.all
  have fr := X4.out.free
  have k0 := (B3.out.keep K4.out (by omega)).c0
  go_wp2_with fail
  clear a0 a1 a2 a3 a4 a5 a6 a7 a8 a9 a10 a11 a12 fr k0
  generalize hw5 : World.setCell _ _ _ = w5
  have K5 := hid (show Keep (fun i => i = w3.heap.size) w3 w5 from by rw [← hw5]; exact (K4.out.setCell _ 2 (.int .i64 0) (.inl rfl)))
  have X5 := hid (X4.out.pl_ 0)
  rw [hw5] at X5
  clear hw5 K4 X4
  refine (A110.out w5).mono ?_
  rintro e u ⟨rfl, rfl⟩
  clear A110
  obtain ⟨a0, a1, a2, a3, a4, a5, a6, a7, a8, a9, a10, a11, a12⟩ := X5.out.all
  have fr := X5.out.free
  have k0 := (B3.out.keep K5.out (by omega)).c0
  go_wp2_with fail
  clear a0 a1 a2 a3 a4 a5 a6 a7 a8 a9 a10 a11 a12 fr k0
  generalize hw6 : World.setCell _ _ _ = w6
  have K6 := hid (show Keep (fun i => i = w3.heap.size) w3 w6 from by rw [← hw6]; exact (K5.out.setCell _ 3 (.int .i64 0) (.inl rfl)))
  have X6 := hid (X5.out.num_ 0)
  rw [hw6] at X6
  clear hw6 K5 X5
  refine (A99.out w6).mono ?_
  rintro e u ⟨rfl, rfl⟩
  clear A99
  obtain ⟨a0, a1, a2, a3, a4, a5, a6, a7, a8, a9, a10, a11, a12⟩ := X6.out.all
  have fr := X6.out.free
  have k0 := (B3.out.keep K6.out (by omega)).c0
  go_wp2_with fail
  clear a0 a1 a2 a3 a4 a5 a6 a7 a8 a9 a10 a11 a12 fr k0
  generalize hw7 : World.setCell _ _ _ = w7
  have K7 := hid (show Keep (fun i => i = w3.heap.size) w3 w7 from by rw [← hw7]; exact (K6.out.setCell _ 5 (.bool false) (.inl rfl)))
  have X7 := hid (X6.out.fin0_)
  rw [hw7] at X7
  clear hw7 K6 X6
  refine (A100.out w7).mono ?_
  rintro e u ⟨rfl, rfl⟩
  clear A100
  obtain ⟨a0, a1, a2, a3, a4, a5, a6, a7, a8, a9, a10, a11, a12⟩ := X7.out.all
  have fr := X7.out.free
  have k0 := (B3.out.keep K7.out (by omega)).c0
  go_wp2_with fail
  clear a0 a1 a2 a3 a4 a5 a6 a7 a8 a9 a10 a11 a12 fr k0
  refine (A116.out w7).mono ?_
  rintro e u ⟨rfl, rfl⟩
  clear A116
  obtain ⟨a0, a1, a2, a3, a4, a5, a6, a7, a8, a9, a10, a11, a12⟩ := X7.out.all
  have fr := X7.out.free
  have k0 := (B3.out.keep K7.out (by omega)).c0
  go_wp2_with fail
  clear a0 a1 a2 a3 a4 a5 a6 a7 a8 a9 a10 a11 a12 fr k0
  refine (A112.out w7).mono ?_
  rintro e u ⟨rfl, rfl⟩
  clear A112
  obtain ⟨a0, a1, a2, a3, a4, a5, a6, a7, a8, a9, a10, a11, a12⟩ := X7.out.all
  have fr := X7.out.free
  have k0 := (B3.out.keep K7.out (by omega)).c0
  go_wp2_with fail
  clear a0 a1 a2 a3 a4 a5 a6 a7 a8 a9 a10 a11 a12 fr k0
  generalize hw8 : World.setCell _ _ _ = w8
  have K8 := hid (show Keep (fun i => i = w3.heap.size) w3 w8 from by rw [← hw8]; exact (K7.out.setCell _ 6 (.slice none 0 0) (.inl rfl)))
  have X8 := hid (X7.out.dataN_)
  rw [hw8] at X8
  clear hw8 K7 X7
  refine (A107.out w8).mono ?_
  rintro e u ⟨rfl, rfl⟩
  clear A107
  obtain ⟨a0, a1, a2, a3, a4, a5, a6, a7, a8, a9, a10, a11, a12⟩ := X8.out.all
  have fr := X8.out.free
  have k0 := (B3.out.keep K8.out (by omega)).c0
  go_wp2_with fail
  clear a0 a1 a2 a3 a4 a5 a6 a7 a8 a9 a10 a11 a12 fr k0
  generalize hw9 : World.setCell _ _ _ = w9
  have K9 := hid (show Keep (fun i => i = w3.heap.size) w3 w9 from by rw [← hw9]; exact (K8.out.setCell _ 7 (.slice none 0 0) (.inl rfl)))
  have X9 := hid (X8.out.cidN_)
  rw [hw9] at X9
  clear hw9 K8 X8
  refine (A115.out w9).mono ?_
  rintro e u ⟨rfl, rfl⟩
  clear A115
  obtain ⟨a0, a1, a2, a3, a4, a5, a6, a7, a8, a9, a10, a11, a12⟩ := X9.out.all
  have fr := X9.out.free
  have k0 := (B3.out.keep K9.out (by omega)).c0
  go_wp2_with fail
  clear a0 a1 a2 a3 a4 a5 a6 a7 a8 a9 a10 a11 a12 fr k0
  generalize hw10 : World.setCell _ _ _ = w10
  have K10 := hid (show Keep (fun i => i = w3.heap.size) w3 w10 from by rw [← hw10]; exact ((K9.out.setCell _ 8 (.slice none 0 0) (.inl rfl)).setCell _ 9 (.int .i64 0) (.inl rfl)))
  have X10 := hid (X9.out.spN_.dl_ 0)
  rw [hw10] at X10
  clear hw10 K9 X9
  refine (A101.out w10).mono ?_
  rintro e u ⟨rfl, rfl⟩
  clear A101
  obtain ⟨a0, a1, a2, a3, a4, a5, a6, a7, a8, a9, a10, a11, a12⟩ := X10.out.all
  have fr := X10.out.free
  have k0 := (B3.out.keep K10.out (by omega)).c0
  have RR := hid (R3.out.keep K10.out (by omega))
  have XE := (X10.out.ecn_ 0 0 0).all
  have KE := hid ((((K10.out.setCell _ 10 (.int .i64 0) (.inl rfl)).setCell _ 11 (.int .i64 0) (.inl rfl)).setCell _ 12 (.int .i64 0) (.inl rfl)))
  obtain ⟨e0, e1, e2, e3, e4, e5, e6, e7, e8, e9, e10, e11, e12⟩ := XE
  have RE := hid (R3.out.keep KE.out (by omega))
  go_wp2_with (refine wpList_store_row rfl 34 _ _ rfl (w.heap.size + 1) (fcells { f with pl := 0, num := 0, fin := false, data := [], cid := [], sp := [], dl := 0, e0 := 0, e1 := 0, e2 := 0 } nilS nilS nilS) rfl rfl 34 _ RE.out (fcells_info34 _ _ _ _) rfl (fcells_one _ _ _ _) ?_)
  have KF := KE.out.mono (G := fun i => i = w3.heap.size ∨ i = w.heap.size + 1) (fun _ _ e => .inl e)
  have KG := KF.setRow (w.heap.size + 1) (fcells { f with pl := 0, num := 0, fin := false, data := [], cid := [], sp := [], dl := 0, e0 := 0, e1 := 0, e2 := 0 } nilS nilS nilS) (.inl (.inr rfl))
  have hq := KG.below Q3.out Q3.out.size (fun i e => by omega)
  have hh : HoldsR w1.heap.size w3 { f with pl := 0, num := 0, fin := false, data := [], cid := [], sp := [], dl := 0, e0 := 0, e1 := 0, e2 := 0 } nilS nilS nilS := ⟨(holdsR_nil 0 w3 zf rfl rfl rfl).dr, (holdsR_nil 0 w3 zf rfl rfl rfl).cr, (holdsR_nil 0 w3 zf rfl rfl rfl).sr, (holdsR_nil w1.heap.size w3 zf rfl rfl rfl).nd, (holdsR_nil w1.heap.size w3 zf rfl rfl rfl).nc, (holdsR_nil w1.heap.size w3 zf rfl rfl rfl).ns⟩
  have h4 := hh.keep KG (fun i e => by omega)
  exact ret_frame34 rfl rfl (w.heap.size + 1) 34 _ nilS nilS nilS rfl (RE.out.row_ _ _ _ _) ⟨_, _, _, rfl, hq, h4.dr, h4.cr, h4.sr, h4.nd.mono (by omega), h4.nc.mono (by omega), h4.ns.mono (by omega)⟩
set_option maxHeartbeats 8000000 in
theorem bare_ad (f : Fr) (d c s : Sv) (w : World) (h : Fit w f d c s) (hI : itL f.kind = [97, 100]) (h0 : (f.kind != 0) = true) (h8 : (f.kind != 8) = true) :
    Calls Try.prog 22 #[fv f d c s] w (BareA w { f with id := 0, num := 0, code := 0, fin := false, cid := [], sp := [], dl := 0, e0 := 0, e1 := 0, e2 := 0 }) := by
  have A105 := hid (has_call (m := 105) (show (itL f.kind).length ≤ 1000 from by rw [hI]; decide) (show hasB (itL f.kind) 105 = false from by rw [hI]; decide))
  have A97 := hid (has_call (m := 97) (show (itL f.kind).length ≤ 1000 from by rw [hI]; decide) (show hasB (itL f.kind) 97 = true from by rw [hI]; decide))
  have A110 := hid (has_call (m := 110) (show (itL f.kind).length ≤ 1000 from by rw [hI]; decide) (show hasB (itL f.kind) 110 = false from by rw [hI]; decide))
  have A99 := hid (has_call (m := 99) (show (itL f.kind).length ≤ 1000 from by rw [hI]; decide) (show hasB (itL f.kind) 99 = false from by rw [hI]; decide))
  have A100 := hid (has_call (m := 100) (show (itL f.kind).length ≤ 1000 from by rw [hI]; decide) (show hasB (itL f.kind) 100 = true from by rw [hI]; decide))
  have A116 := hid (has_call (m := 116) (show (itL f.kind).length ≤ 1000 from by rw [hI]; decide) (show hasB (itL f.kind) 116 = false from by rw [hI]; decide))
  have A112 := hid (has_call (m := 112) (show (itL f.kind).length ≤ 1000 from by rw [hI]; decide) (show hasB (itL f.kind) 112 = false from by rw [hI]; decide))
  have A107 := hid (has_call (m := 107) (show (itL f.kind).length ≤ 1000 from by rw [hI]; decide) (show hasB (itL f.kind) 107 = false from by rw [hI]; decide))
  have A115 := hid (has_call (m := 115) (show (itL f.kind).length ≤ 1000 from by rw [hI]; decide) (show hasB (itL f.kind) 115 = false from by rw [hI]; decide))
  have A101 := hid (has_call (m := 101) (show (itL f.kind).length ≤ 1000 from by rw [hI]; decide) (show hasB (itL f.kind) 101 = false from by rw [hI]; decide))
  have HH := hid h
  clear h hI
  go_enter Try.func22, Try.ntmps22
  go_wp2_with fail
  generalize hw1 : World.alloc (World.alloc w _) _ = w1
  have q1 : Q w w1 := by rw [← hw1]; exact ((Q.refl w).alloc _).alloc _
  have b1 : Box w1 34 w.heap.size f d c s := by rw [← hw1]; exact heap_alloc2_old w _ _
  have r1 : Box w1 34 (w.heap.size + 1) zf nilS nilS nilS := by rw [← hw1]; exact heap_alloc2_new w _ _
  have hsz : w1.heap.size = w.heap.size + 2 := by rw [← hw1]; simp
  clear hw1
  refine (ritems_any f.kind w1).mono ?_
  rintro e u ⟨rfl, rfl⟩
  obtain ⟨a0, a1, a2, a3, a4, a5, a6, a7, a8, a9, a10, a11, a12⟩ := b1.all
  have B1 := hid b1
  have R1 := hid r1
  have Q1 := hid q1
  clear b1 r1 q1
  go_wp2_with fail
  clear a0 a1 a2 a3 a4 a5 a6 a7 a8 a9 a10 a11 a12
  refine (rcopyF_any f d c s w1 (HH.out.q Q1.out)).mono ?_
  rintro e w3 ⟨x, y, z, rfl, q3, hh⟩
  have B3 := hid (B1.out.q q3)
  have R3 := hid (R1.out.q q3)
  have Q3 := hid (Q1.out.trans q3)
  have H3 := hid hh
  have hw3 := q3.size
  clear q3 hh B1 R1 Q1
  have G3 := hid (show Box (w3.alloc (.cells (fcells zf nilS nilS nilS) 34)) 34 w3.heap.size zf nilS nilS nilS from heap_alloc_new w3 _)
  go_wp2_with (refine wpList_store_row rfl 34 _ _ rfl w3.heap.size (fcells f x y z) rfl rfl 34 _ G3.out (fcells_info34 _ _ _ _) rfl (fcells_one _ _ _ _) ?_)
  generalize hw4 : World.setRow _ _ _ = w4
  have K4 := hid (show Keep (fun i => i = w3.heap.size) w3 w4 from by rw [← hw4]; exact ((Keep.ofQ ((Q.refl w3).alloc _))).setRow _ _ (.inl rfl))
  have X4 := hid (show Box w4 34 w3.heap.size f x y z from by rw [← hw4]; exact G3.out.row_ _ _ _ _)
  clear hw4 G3
  refine (A105.out w4).mono ?_
  rintro e u ⟨rfl, rfl⟩
  clear A105
  obtain ⟨a0, a1, a2, a3, a4, a5, a6, a7, a8, a9, a10, a11, a12⟩ := X4.out.all
  have fr := X4.out.free
  have k0 := (B3.out.keep K4.out (by omega)).c0
  go_wp2_with fail
  clear a0 a1 a2 a3 a4 a5 a6 a7 a8 a9 a10 a11 a12 fr k0
  generalize hw5 : World.setCell _ _ _ = w5
  have K5 := hid (show Keep (fun i => i = w3.heap.size) w3 w5 from by rw [← hw5]; exact (K4.out.setCell _ 1 (.int .i64 0) (.inl rfl)))
  have X5 := hid (X4.out.id_ 0)
  rw [hw5] at X5
  clear hw5 K4 X4
  refine (A97.out w5).mono ?_
  rintro e u ⟨rfl, rfl⟩
  clear A97
  obtain ⟨a0, a1, a2, a3, a4, a5, a6, a7, a8, a9, a10, a11, a12⟩ := X5.out.all
  have fr := X5.out.free
  have k0 := (B3.out.keep K5.out (by omega)).c0
  go_wp2_with fail
  clear a0 a1 a2 a3 a4 a5 a6 a7 a8 a9 a10 a11 a12 fr k0
  refine (A110.out w5).mono ?_
  rintro e u ⟨rfl, rfl⟩
  clear A110
  obtain ⟨a0, a1, a2, a3, a4, a5, a6, a7, a8, a9, a10, a11, a12⟩ := X5.out.all
  have fr := X5.out.free
  have k0 := (B3.out.keep K5.out (by omega)).c0
  go_wp2_with fail
  clear a0 a1 a2 a3 a4 a5 a6 a7 a8 a9 a10 a11 a12 fr k0
  generalize hw6 : World.setCell _ _ _ = w6
  have K6 := hid (show Keep (fun i => i = w3.heap.size) w3 w6 from by rw [← hw6]; exact (K5.out.setCell _ 3 (.int .i64 0) (.inl rfl)))
  have X6 := hid (X5.out.num_ 0)
  rw [hw6] at X6
  clear hw6 K5 X5
  refine (A99.out w6).mono ?_
  rintro e u ⟨rfl, rfl⟩
  clear A99
  obtain ⟨a0, a1, a2, a3, a4, a5, a6, a7, a8, a9, a10, a11, a12⟩ := X6.out.all
  have fr := X6.out.free
  have k0 := (B3.out.keep K6.out (by omega)).c0
  go_wp2_with fail
  clear a0 a1 a2 a3 a4 a5 a6 a7 a8 a9 a10 a11 a12 fr k0
  generalize hw7 : World.setCell _ _ _ = w7
  have K7 := hid (show Keep (fun i => i = w3.heap.size) w3 w7 from by rw [← hw7]; exact ((K6.out.setCell _ 4 (.int .i64 0) (.inl rfl)).setCell _ 5 (.bool false) (.inl rfl)))
  have X7 := hid ((X6.out.code_ 0).fin0_)
  rw [hw7] at X7
  clear hw7 K6 X6
  refine (A100.out w7).mono ?_
  rintro e u ⟨rfl, rfl⟩
  clear A100
  obtain ⟨a0, a1, a2, a3, a4, a5, a6, a7, a8, a9, a10, a11, a12⟩ := X7.out.all
  have fr := X7.out.free
  have k0 := (B3.out.keep K7.out (by omega)).c0
  go_wp2_with fail
  clear a0 a1 a2 a3 a4 a5 a6 a7 a8 a9 a10 a11 a12 fr k0
  refine (A107.out w7).mono ?_
  rintro e u ⟨rfl, rfl⟩
  clear A107
  obtain ⟨a0, a1, a2, a3, a4, a5, a6, a7, a8, a9, a10, a11, a12⟩ := X7.out.all
  have fr := X7.out.free
  have k0 := (B3.out.keep K7.out (by omega)).c0
  go_wp2_with fail
  clear a0 a1 a2 a3 a4 a5 a6 a7 a8 a9 a10 a11 a12 fr k0
  generalize hw8 : World.setCell _ _ _ = w8
  have K8 := hid (show Keep (fun i => i = w3.heap.size) w3 w8 from by rw [← hw8]; exact (K7.out.setCell _ 7 (.slice none 0 0) (.inl rfl)))
  have X8 := hid (X7.out.cidN_)
  rw [hw8] at X8
  clear hw8 K7 X7
  refine (A115.out w8).mono ?_
  rintro e u ⟨rfl, rfl⟩
  clear A115
  obtain ⟨a0, a1, a2, a3, a4, a5, a6, a7, a8, a9, a10, a11, a12⟩ := X8.out.all
  have fr := X8.out.free
  have k0 := (B3.out.keep K8.out (by omega)).c0
  go_wp2_with fail
  clear a0 a1 a2 a3 a4 a5 a6 a7 a8 a9 a10 a11 a12 fr k0
  generalize hw9 : World.setCell _ _ _ = w9
  have K9 := hid (show Keep (fun i => i = w3.heap.size) w3 w9 from by rw [← hw9]; exact ((K8.out.setCell _ 8 (.slice none 0 0) (.inl rfl)).setCell _ 9 (.int .i64 0) (.inl rfl)))
  have X9 := hid (X8.out.spN_.dl_ 0)
  rw [hw9] at X9
  clear hw9 K8 X8
  refine (A101.out w9).mono ?_
  rintro e u ⟨rfl, rfl⟩
  clear A101
  obtain ⟨a0, a1, a2, a3, a4, a5, a6, a7, a8, a9, a10, a11, a12⟩ := X9.out.all
  have fr := X9.out.free
  have k0 := (B3.out.keep K9.out (by omega)).c0
  have RR := hid (R3.out.keep K9.out (by omega))
  have XE := (X9.out.ecn_ 0 0 0).all
  have KE := hid ((((K9.out.setCell _ 10 (.int .i64 0) (.inl rfl)).setCell _ 11 (.int .i64 0) (.inl rfl)).setCell _ 12 (.int .i64 0) (.inl rfl)))
  obtain ⟨e0, e1, e2, e3, e4, e5, e6, e7, e8, e9, e10, e11, e12⟩ := XE
  have RE := hid (R3.out.keep KE.out (by omega))
  go_wp2_with (refine wpList_store_row rfl 34 _ _ rfl (w.heap.size + 1) (fcells { f with id := 0, num := 0, code := 0, fin := false, cid := [], sp := [], dl := 0, e0 := 0, e1 := 0, e2 := 0 } x nilS nilS) rfl rfl 34 _ RE.out (fcells_info34 _ _ _ _) rfl (fcells_one _ _ _ _) ?_)
  have KF := KE.out.mono (G := fun i => i = w3.heap.size ∨ i = w.heap.size + 1) (fun _ _ e => .inl e)
  have KG := KF.setRow (w.heap.size + 1) (fcells { f with id := 0, num := 0, code := 0, fin := false, cid := [], sp := [], dl := 0, e0 := 0, e1 := 0, e2 := 0 } x nilS nilS) (.inl (.inr rfl))
  have hq := KG.below Q3.out Q3.out.size (fun i e => by omega)
  have hh : HoldsR w1.heap.size w3 { f with id := 0, num := 0, code := 0, fin := false, cid := [], sp := [], dl := 0, e0 := 0, e1 := 0, e2 := 0 } x nilS nilS := ⟨H3.out.dr, (holdsR_nil 0 w3 zf rfl rfl rfl).cr, (holdsR_nil 0 w3 zf rfl rfl rfl).sr, H3.out.nd, (holdsR_nil w1.heap.size w3 zf rfl rfl rfl).nc, (holdsR_nil w1.heap.size w3 zf rfl rfl rfl).ns⟩
  have h4 := hh.keep KG (fun i e => by omega)
  exact ret_frame34 rfl rfl (w.heap.size + 1) 34 _ x nilS nilS rfl (RE.out.row_ _ _ _ _) ⟨_, _, _, rfl, hq, h4.dr, h4.cr, h4.sr, h4.nd.mono (by omega), h4.nc.mono (by omega), h4.ns.mono (by omega)⟩
set_option maxHeartbeats 8000000 in
theorem bare_d (f : Fr) (d c s : Sv) (w : World) (h : Fit w f d c s) (hI : itL f.kind = [100]) (h0 : (f.kind != 0) = true) (h8 : (f.kind != 8) = true) :
    Calls Try.prog 22 #[fv f d c s] w (BareA w { f with id := 0, pl := 0, num := 0, code := 0, fin := false, cid := [], sp := [], dl := 0, e0 := 0, e1 := 0, e2 := 0 }) := by
  have A105 := hid (has_call (m := 105) (show (itL f.kind).length ≤ 1000 from by rw [hI]; decide) (show hasB (itL f.kind) 105 = false from by rw [hI]; decide))
  have A97 := hid (has_call (m := 97) (show (itL f.kind).length ≤ 1000 from by rw [hI]; decide) (show hasB (itL f.kind) 97 = false from by rw [hI]; decide))
  have A110 := hid (has_call (m := 110) (show (itL f.kind).length ≤ 1000 from by rw [hI]; decide) (show hasB (itL f.kind) 110 = false from by rw [hI]; decide))
  have A99 := hid (has_call (m := 99) (show (itL f.kind).length ≤ 1000 from by rw [hI]; decide) (show hasB (itL f.kind) 99 = false from by rw [hI]; decide))
  have A100 := hid (has_call (m := 100) (show (itL f.kind).length ≤ 1000 from by rw [hI]; decide) (show hasB (itL f.kind) 100 = true from by rw [hI]; decide))
  have A116 := hid (has_call (m := 116) (show (itL f.kind).length ≤ 1000 from by rw [hI]; decide) (show hasB (itL f.kind) 116 = false from by rw [hI]; decide))
  have A112 := hid (has_call (m := 112) (show (itL f.kind).length ≤ 1000 from by rw [hI]; decide) (show hasB (itL f.kind) 112 = false from by rw [hI]; decide))
  have A107 := hid (has_call (m := 107) (show (itL f.kind).length ≤ 1000 from by rw [hI]; decide) (show hasB (itL f.kind) 107 = false from by rw [hI]; decide))
  have A115 := hid (has_call (m := 115) (show (itL f.kind).length ≤ 1000 from by rw [hI]; decide) (show hasB (itL f.kind) 115 = false from by rw [hI]; decide))
  have A101 := hid (has_call (m := 101) (show (itL f.kind).length ≤ 1000 from by rw [hI]; decide) (show hasB (itL f.kind) 101 = false from by rw [hI]; decide))
  have HH := hid h
  clear h hI
  go_enter Try.func22, Try.ntmps22
  go_wp2_with fail
  generalize hw1 : World.alloc (World.alloc w _) _ = w1
  have q1 : Q w w1 := by rw [← hw1]; exact ((Q.refl w).alloc _).alloc _
  have b1 : Box w1 34 w.heap.size f d c s := by rw [← hw1]; exact heap_alloc2_old w _ _
  have r1 : Box w1 34 (w.heap.size + 1) zf nilS nilS nilS := by rw [← hw1]; exact heap_alloc2_new w _ _
  have hsz : w1.heap.size = w.heap.size + 2 := by rw [← hw1]; simp
  clear hw1
  refine (ritems_any f.kind w1).mono ?_
  rintro e u ⟨rfl, rfl⟩
  obtain ⟨a0, a1, a2, a3, a4, a5, a6, a7, a8, a9, a10, a11, a12⟩ := b1.all
  have B1 := hid b1
  have R1 := hid r1
  have Q1 := hid q1
  clear b1 r1 q1
  go_wp2_with fail
  clear a0 a1 a2 a3 a4 a5 a6 a7 a8 a9 a10 a11 a12
  refine (rcopyF_any f d c s w1 (HH.out.q Q1.out)).mono ?_
  rintro e w3 ⟨x, y, z, rfl, q3, hh⟩
  have B3 := hid (B1.out.q q3)
  have R3 := hid (R1.out.q q3)
  have Q3 := hid (Q1.out.trans q3)
  have H3 := hid hh
  have hw3 := q3.size
  clear q3 hh B1 R1 Q1
  have G3 := hid (show Box (w3.alloc (.cells (fcells zf nilS nilS nilS) 34)) 34 w3.heap.size zf nilS nilS nilS from heap_alloc_new w3 _)
  go_wp2_with (refine wpList_store_row rfl 34 _ _ rfl w3.heap.size (fcells f x y z) rfl rfl 34 _ G3.out (fcells_info34 _ _ _ _) rfl (fcells_one _ _ _ _) ?_)
  generalize hw4 : World.setRow _ _ _ = w4
  have K4 := hid (show Keep (fun i => i = w3.heap.size) w3 w4 from by rw [← hw4]; exact ((Keep.ofQ ((Q.refl w3).alloc _))).setRow _ _ (.inl rfl))
  have X4 := hid (show Box w4 34 w3.heap.size f x y z from by rw [← hw4]; exact G3.out.row_ _ _ _ _)
  clear hw4 G3
  refine (A105.out w4).mono ?_
  rintro e u ⟨rfl, rfl⟩
  clear A105
  obtain ⟨a0, a1, a2, a3, a4, a5, a6, a7, a8, a9, a10, a11, a12⟩ := X4.out.all
  have fr := X4.out.free
  have k0 := (B3.out.keep K4.out (by omega)).c0
  go_wp2_with fail
  clear a0 a1 a2 a3 a4 a5 a6 a7 a8 a9 a10 a11 a12 fr k0
  generalize hw5 : World.setCell _ _ _ = w5
  have K5 := hid (show Keep (fun i => i = w3.heap.size) w3 w5 from by rw [← hw5]; exact (K4.out.setCell _ 1 (.int .i64 0) (.inl rfl)))
  have X5 := hid (X4.out.id_ 0)
  rw [hw5] at X5
  clear hw5 K4 X4
  refine (A97.out w5).mono ?_
  rintro e u ⟨rfl, rfl⟩
  clear A97
  obtain ⟨a0, a1, a2, a3, a4, a5, a6, a7, a8, a9, a10, a11, a12⟩ := X5.out.all
  have fr := X5.out.free
  have k0 := (B3.out.keep K5.out (by omega)).c0
  go_wp2_with fail
  clear a0 a1 a2 a3 a4 a5 a6 a7 a8 a9 a10 a11 a12 fr k0
  generalize hw6 : World.setCell _ _ _ = w6
  have K6 := hid (show Keep (fun i => i = w3.heap.size) w3 w6 from by rw [← hw6]; exact (K5.out.setCell _ 2 (.int .i64 0) (.inl rfl)))
  have X6 := hid (X5.out.pl_ 0)
  rw [hw6] at X6
  clear hw6 K5 X5
  refine (A110.out w6).mono ?_
  rintro e u ⟨rfl, rfl⟩
  clear A110
  obtain ⟨a0, a1, a2, a3, a4, a5, a6, a7, a8, a9, a10, a11, a12⟩ := X6.out.all
  have fr := X6.out.free
  have k0 := (B3.out.keep K6.out (by omega)).c0
  go_wp2_with fail
  clear a0 a1 a2 a3 a4 a5 a6 a7 a8 a9 a10 a11 a12 fr k0
  generalize hw7 : World.setCell _ _ _ = w7
  have K7 := hid (show Keep (fun i => i = w3.heap.size) w3 w7 from by rw [← hw7]; exact (K6.out.setCell _ 3 (.int .i64 0) (.inl rfl)))
  have X7 := hid (X6.out.num_ 0)
  rw [hw7] at X7
  clear hw7 K6 X6
  refine (A99.out w7).mono ?_
  rintro e u ⟨rfl, rfl⟩
  clear A99
  obtain ⟨a0, a1, a2, a3, a4, a5, a6, a7, a8, a9, a10, a11, a12⟩ := X7.out.all
  have fr := X7.out.free
  have k0 := (B3.out.keep K7.out (by omega)).c0
  go_wp2_with fail
  clear a0 a1 a2 a3 a4 a5 a6 a7 a8 a9 a10 a11 a12 fr k0
  generalize hw8 : World.setCell _ _ _ = w8
  have K8 := hid (show Keep (fun i => i = w3.heap.size) w3 w8 from by rw [← hw8]; exact ((K7.out.setCell _ 4 (.int .i64 0) (.inl rfl)).setCell _ 5 (.bool false) (.inl rfl)))
  have X8 := hid ((X7.out.code_ 0).fin0_)
  rw [hw8] at X8
  clear hw8 K7 X7
  refine (A100.out w8).mono ?_
  rintro e u ⟨rfl, rfl⟩
  clear A100
  obtain ⟨a0, a1, a2, a3, a4, a5, a6, a7, a8, a9, a10, a11, a12⟩ := X8.out.all
  have fr := X8.out.free
  have k0 := (B3.out.keep K8.out (by omega)).c0
  go_wp2_with fail
  clear a0 a1 a2 a3 a4 a5 a6 a7 a8 a9 a10 a11 a12 fr k0
  refine (A107.out w8).mono ?_
  rintro e u ⟨rfl, rfl⟩
  clear A107
  obtain ⟨a0, a1, a2, a3, a4, a5, a6, a7, a8, a9, a10, a11, a12⟩ := X8.out.all
  have fr := X8.out.free
  have k0 := (B3.out.keep K8.out (by omega)).c0
  go_wp2_with fail
  clear a0 a1 a2 a3 a4 a5 a6 a7 a8 a9 a10 a11 a12 fr k0
  generalize hw9 : World.setCell _ _ _ = w9
  have K9 := hid (show Keep (fun i => i = w3.heap.size) w3 w9 from by rw [← hw9]; exact (K8.out.setCell _ 7 (.slice none 0 0) (.inl rfl)))
  have X9 := hid (X8.out.cidN_)
  rw [hw9] at X9
  clear hw9 K8 X8
  refine (A115.out w9).mono ?_
  rintro e u ⟨rfl, rfl⟩
  clear A115
  obtain ⟨a0, a1, a2, a3, a4, a5, a6, a7, a8, a9, a10, a11, a12⟩ := X9.out.all
  have fr := X9.out.free
  have k0 := (B3.out.keep K9.out (by omega)).c0
  go_wp2_with fail
  clear a0 a1 a2 a3 a4 a5 a6 a7 a8 a9 a10 a11 a12 fr k0
  generalize hw10 : World.setCell _ _ _ = w10
  have K10 := hid (show Keep (fun i => i = w3.heap.size) w3 w10 from by rw [← hw10]; exact ((K9.out.setCell _ 8 (.slice none 0 0) (.inl rfl)).setCell _ 9 (.int .i64 0) (.inl rfl)))
  have X10 := hid (X9.out.spN_.dl_ 0)
  rw [hw10] at X10
  clear hw10 K9 X9
  refine (A101.out w10).mono ?_
  rintro e u ⟨rfl, rfl⟩
  clear A101
  obtain ⟨a0, a1, a2, a3, a4, a5, a6, a7, a8, a9, a10, a11, a12⟩ := X10.out.all
  have fr := X10.out.free
  have k0 := (B3.out.keep K10.out (by omega)).c0
  have RR := hid (R3.out.keep K10.out (by omega))
  have XE := (X10.out.ecn_ 0 0 0).all
  have KE := hid ((((K10.out.setCell _ 10 (.int .i64 0) (.inl rfl)).setCell _ 11 (.int .i64 0) (.inl rfl)).setCell _ 12 (.int .i64 0) (.inl rfl)))
  obtain ⟨e0, e1, e2, e3, e4, e5, e6, e7, e8, e9, e10, e11, e12⟩ := XE
  have RE := hid (R3.out.keep KE.out (by omega))
  go_wp2_with (refine wpList_store_row rfl 34 _ _ rfl (w.heap.size + 1) (fcells { f with id := 0, pl := 0, num := 0, code := 0, fin := false, cid := [], sp := [], dl := 0, e0 := 0, e1 := 0, e2 := 0 } x nilS nilS) rfl rfl 34 _ RE.out (fcells_info34 _ _ _ _) rfl (fcells_one _ _ _ _) ?_)
  have KF := KE.out.mono (G := fun i => i = w3.heap.size ∨ i = w.heap.size + 1) (fun _ _ e => .inl e)
  have KG := KF.setRow (w.heap.size + 1) (fcells { f with id := 0, pl := 0, num := 0, code := 0, fin := false, cid := [], sp := [], dl := 0, e0 := 0, e1 := 0, e2 := 0 } x nilS nilS) (.inl (.inr rfl))
  have hq := KG.below Q3.out Q3.out.size (fun i e => by omega)
  have hh : HoldsR w1.heap.size w3 { f with id := 0, pl := 0, num := 0, code := 0, fin := false, cid := [], sp := [], dl := 0, e0 := 0, e1 := 0, e2 := 0 } x nilS nilS := ⟨H3.out.dr, (holdsR_nil 0 w3 zf rfl rfl rfl).cr, (holdsR_nil 0 w3 zf rfl rfl rfl).sr, H3.out.nd, (holdsR_nil w1.heap.size w3 zf rfl rfl rfl).nc, (holdsR_nil w1.heap.size w3 zf rfl rfl rfl).ns⟩
  have h4 := hh.keep KG (fun i e => by omega)
  exact ret_frame34 rfl rfl (w.heap.size + 1) 34 _ x nilS nilS rfl (RE.out.row_ _ _ _ _) ⟨_, _, _, rfl, hq, h4.dr, h4.cr, h4.sr, h4.nd.mono (by omega), h4.nc.mono (by omega), h4.ns.mono (by omega)⟩
set_option maxHeartbeats 8000000 in
theorem bare_iad (f : Fr) (d c s : Sv) (w : World) (h : Fit w f d c s) (hI : itL f.kind = [105, 97, 100]) (h0 : (f.kind != 0) = true) (h8 : (f.kind != 8) = false) :
    Calls Try.prog 22 #[fv f d c s] w (BareA w { f with num := 0, code := 0, cid := [], sp := [], dl := 0, e0 := 0, e1 := 0, e2 := 0 }) := by
  have A105 := hid (has_call (m := 105) (show (itL f.kind).length ≤ 1000 from by rw [hI]; decide) (show hasB (itL f.kind) 105 = true from by rw [hI]; decide))
  have A97 := hid (has_call (m := 97) (show (itL f.kind).length ≤ 1000 from by rw [hI]; decide) (show hasB (itL f.kind) 97 = true from by rw [hI]; decide))
  have A110 := hid (has_call (m := 110) (show (itL f.kind).length ≤ 1000 from by rw [hI]; decide) (show hasB (itL f.kind) 110 = false from by rw [hI]; decide))
  have A99 := hid (has_call (m := 99) (show (itL f.kind).length ≤ 1000 from by rw [hI]; decide) (show hasB (itL f.kind) 99 = false from by rw [hI]; decide))
  have A100 := hid (has_call (m := 100) (show (itL f.kind).length ≤ 1000 from by rw [hI]; decide) (show hasB (itL f.kind) 100 = true from by rw [hI]; decide))
  have A116 := hid (has_call (m := 116) (show (itL f.kind).length ≤ 1000 from by rw [hI]; decide) (show hasB (itL f.kind) 116 = false from by rw [hI]; decide))
  have A112 := hid (has_call (m := 112) (show (itL f.kind).length ≤ 1000 from by rw [hI]; decide) (show hasB (itL f.kind) 112 = false from by rw [hI]; decide))
  have A107 := hid (has_call (m := 107) (show (itL f.kind).length ≤ 1000 from by rw [hI]; decide) (show hasB (itL f.kind) 107 = false from by rw [hI]; decide))
  have A115 := hid (has_call (m := 115) (show (itL f.kind).length ≤ 1000 from by rw [hI]; decide) (show hasB (itL f.kind) 115 = false from by rw [hI]; decide))
  have A101 := hid (has_call (m := 101) (show (itL f.kind).length ≤ 1000 from by rw [hI]; decide) (show hasB (itL f.kind) 101 = false from by rw [hI]; decide))
  have HH := hid h
  clear h hI
  go_enter Try.func22, Try.ntmps22
  go_wp2_with fail
  generalize hw1 : World.alloc (World.alloc w _) _ = w1
  have q1 : Q w w1 := by rw [← hw1]; exact ((Q.refl w).alloc _).alloc _
  have b1 : Box w1 34 w.heap.size f d c s := by rw [← hw1]; exact heap_alloc2_old w _ _
  have r1 : Box w1 34 (w.heap.size + 1) zf nilS nilS nilS := by rw [← hw1]; exact heap_alloc2_new w _ _
  have hsz : w1.heap.size = w.heap.size + 2 := by rw [← hw1]; simp
  clear hw1
  refine (ritems_any f.kind w1).mono ?_
  rintro e u ⟨rfl, rfl⟩
  obtain ⟨a0, a1, a2, a3, a4, a5, a6, a7, a8, a9, a10, a11, a12⟩ := b1.all
  have B1 := hid b1
  have R1 := hid r1
  have Q1 := hid q1
  clear b1 r1 q1
  go_wp2_with fail
  clear a0 a1 a2 a3 a4 a5 a6 a7 a8 a9 a10 a11 a12
  refine (rcopyF_any f d c s w1 (HH.out.q Q1.out)).mono ?_
  rintro e w3 ⟨x, y, z, rfl, q3, hh⟩
  have B3 := hid (B1.out.q q3)
  have R3 := hid (R1.out.q q3)
  have Q3 := hid (Q1.out.trans q3)
  have H3 := hid hh
  have hw3 := q3.size
  clear q3 hh B1 R1 Q1
  have G3 := hid (show Box (w3.alloc (.cells (fcells zf nilS nilS nilS) 34)) 34 w3.heap.size zf nilS nilS nilS from heap_alloc_new w3 _)
  go_wp2_with (refine wpList_store_row rfl 34 _ _ rfl w3.heap.size (fcells f x y z) rfl rfl 34 _ G3.out (fcells_info34 _ _ _ _) rfl (fcells_one _ _ _ _) ?_)
  generalize hw4 : World.setRow _ _ _ = w4
  have K4 := hid (show Keep (fun i => i = w3.heap.size) w3 w4 from by rw [← hw4]; exact ((Keep.ofQ ((Q.refl w3).alloc _))).setRow _ _ (.inl rfl))
  have X4 := hid (show Box w4 34 w3.heap.size f x y z from by rw [← hw4]; exact G3.out.row_ _ _ _ _)
  clear hw4 G3
  refine (A105.out w4).mono ?_
  rintro e u ⟨rfl, rfl⟩
  clear A105
  obtain ⟨a0, a1, a2, a3, a4, a5, a6, a7, a8, a9, a10, a11, a12⟩ := X4.out.all
  have fr := X4.out.free
  have k0 := (B3.out.keep K4.out (by omega)).c0
  go_wp2_with fail
  clear a0 a1 a2 a3 a4 a5 a6 a7 a8 a9 a10 a11 a12 fr k0
  refine (A97.out w4).mono ?_
  rintro e u ⟨rfl, rfl⟩
  clear A97
  obtain ⟨a0, a1, a2, a3, a4, a5, a6, a7, a8, a9, a10, a11, a12⟩ := X4.out.all
  have fr := X4.out.free
  have k0 := (B3.out.keep K4.out (by omega)).c0
  go_wp2_with fail
  clear a0 a1 a2 a3 a4 a5 a6 a7 a8 a9 a10 a11 a12 fr k0
  refine (A110.out w4).mono ?_
  rintro e u ⟨rfl, rfl⟩
  clear A110
  obtain ⟨a0, a1, a2, a3, a4, a5, a6, a7, a8, a9, a10, a11, a12⟩ := X4.out.all
  have fr := X4.out.free
  have k0 := (B3.out.keep K4.out (by omega)).c0
  go_wp2_with fail
  clear a0 a1 a2 a3 a4 a5 a6 a7 a8 a9 a10 a11 a12 fr k0
  generalize hw5 : World.setCell _ _ _ = w5
  have K5 := hid (show Keep (fun i => i = w3.heap.size) w3 w5 from by rw [← hw5]; exact (K4.out.setCell _ 3 (.int .i64 0) (.inl rfl)))
  have X5 := hid (X4.out.num_ 0)
  rw [hw5] at X5
  clear hw5 K4 X4
  refine (A99.out w5).mono ?_
  rintro e u ⟨rfl, rfl⟩
  clear A99
  obtain ⟨a0, a1, a2, a3, a4, a5, a6, a7, a8, a9, a10, a11, a12⟩ := X5.out.all
  have fr := X5.out.free
  have k0 := (B3.out.keep K5.out (by omega)).c0
  go_wp2_with fail
  clear a0 a1 a2 a3 a4 a5 a6 a7 a8 a9 a10 a11 a12 fr k0
  generalize hw6 : World.setCell _ _ _ = w6
  have K6 := hid (show Keep (fun i => i = w3.heap.size) w3 w6 from by rw [← hw6]; exact (K5.out.setCell _ 4 (.int .i64 0) (.inl rfl)))
  have X6 := hid (X5.out.code_ 0)
  rw [hw6] at X6
  clear hw6 K5 X5
  refine (A100.out w6).mono ?_
  rintro e u ⟨rfl, rfl⟩
  clear A100
  obtain ⟨a0, a1, a2, a3, a4, a5, a6, a7, a8, a9, a10, a11, a12⟩ := X6.out.all
  have fr := X6.out.free
  have k0 := (B3.out.keep K6.out (by omega)).c0
  go_wp2_with fail
  clear a0 a1 a2 a3 a4 a5 a6 a7 a8 a9 a10 a11 a12 fr k0
  refine (A107.out w6).mono ?_
  rintro e u ⟨rfl, rfl⟩
  clear A107
  obtain ⟨a0, a1, a2, a3, a4, a5, a6, a7, a8, a9, a10, a11, a12⟩ := X6.out.all
  have fr := X6.out.free
  have k0 := (B3.out.keep K6.out (by omega)).c0
  go_wp2_with fail
  clear a0 a1 a2 a3 a4 a5 a6 a7 a8 a9 a10 a11 a12 fr k0
  generalize hw7 : World.setCell _ _ _ = w7
  have K7 := hid (show Keep (fun i => i = w3.heap.size) w3 w7 from by rw [← hw7]; exact (K6.out.setCell _ 7 (.slice none 0 0) (.inl rfl)))
  have X7 := hid (X6.out.cidN_)
  rw [hw7] at X7
  clear hw7 K6 X6
  refine (A115.out w7).mono ?_
  rintro e u ⟨rfl, rfl⟩
  clear A115
  obtain ⟨a0, a1, a2, a3, a4, a5, a6, a7, a8, a9, a10, a11, a12⟩ := X7.out.all
  have fr := X7.out.free
  have k0 := (B3.out.keep K7.out (by omega)).c0
  go_wp2_with fail
  clear a0 a1 a2 a3 a4 a5 a6 a7 a8 a9 a10 a11 a12 fr k0
  generalize hw8 : World.setCell _ _ _ = w8
  have K8 := hid (show Keep (fun i => i = w3.heap.size) w3 w8 from by rw [← hw8]; exact ((K7.out.setCell _ 8 (.slice none 0 0) (.inl rfl)).setCell _ 9 (.int .i64 0) (.inl rfl)))
  have X8 := hid (X7.out.spN_.dl_ 0)
  rw [hw8] at X8
  clear hw8 K7 X7
  refine (A101.out w8).mono ?_
  rintro e u ⟨rfl, rfl⟩
  clear A101
  obtain ⟨a0, a1, a2, a3, a4, a5, a6, a7, a8, a9, a10, a11, a12⟩ := X8.out.all
  have fr := X8.out.free
  have k0 := (B3.out.keep K8.out (by omega)).c0
  have RR := hid (R3.out.keep K8.out (by omega))
  have XE := (X8.out.ecn_ 0 0 0).all
  have KE := hid ((((K8.out.setCell _ 10 (.int .i64 0) (.inl rfl)).setCell _ 11 (.int .i64 0) (.inl rfl)).setCell _ 12 (.int .i64 0) (.inl rfl)))
  obtain ⟨e0, e1, e2, e3, e4, e5, e6, e7, e8, e9, e10, e11, e12⟩ := XE
  have RE := hid (R3.out.keep KE.out (by omega))
  go_wp2_with (refine wpList_store_row rfl 34 _ _ rfl (w.heap.size + 1) (fcells { f with num := 0, code := 0, cid := [], sp := [], dl := 0, e0 := 0, e1 := 0, e2 := 0 } x nilS nilS) rfl rfl 34 _ RE.out (fcells_info34 _ _ _ _) rfl (fcells_one _ _ _ _) ?_)
  have KF := KE.out.mono (G := fun i => i = w3.heap.size ∨ i = w.heap.size + 1) (fun _ _ e => .inl e)
  have KG := KF.setRow (w.heap.size + 1) (fcells { f with num := 0, code := 0, cid := [], sp := [], dl := 0, e0 := 0, e1 := 0, e2 := 0 } x nilS nilS) (.inl (.inr rfl))
  have hq := KG.below Q3.out Q3.out.size (fun i e => by omega)
  have hh : HoldsR w1.heap.size w3 { f with num := 0, code := 0, cid := [], sp := [], dl := 0, e0 := 0, e1 := 0, e2 := 0 } x nilS nilS := ⟨H3.out.dr, (holdsR_nil 0 w3 zf rfl rfl rfl).cr, (holdsR_nil 0 w3 zf rfl rfl rfl).sr, H3.out.nd, (holdsR_nil w1.heap.size w3 zf rfl rfl rfl).nc, (holdsR_nil w1.heap.size w3 zf rfl rfl rfl).ns⟩
  have h4 := hh.keep KG (fun i e => by omega)
  exact ret_frame34 rfl rfl (w.heap.size + 1) 34 _ x nilS nilS rfl (RE.out.row_ _ _ _ _) ⟨_, _, _, rfl, hq, h4.dr, h4.cr, h4.sr, h4.nd.mono (by omega), h4.nc.mono (by omega), h4.ns.mono (by omega)⟩
set_option maxHeartbeats 8000000 in
theorem bare_in (f : Fr) (d c s : Sv) (w : World) (h : Fit w f d c s) (hI : itL f.kind = [105, 110]) (h0 : (f.kind != 0) = true) (h8 : (f.kind != 8) = true) :
    Calls Try.prog 22 #[fv f d c s] w (BareA w { f with pl := 0, code := 0, fin := false, data := [], cid := [], sp := [], dl := 0, e0 := 0, e1 := 0, e2 := 0 }) := by
  have A105 := hid (has_call (m := 105) (show (itL f.kind).length ≤ 1000 from by rw [hI]; decide) (show hasB (itL f.kind) 105 = true from by rw [hI]; decide))
  have A97 := hid (has_call (m := 97) (show (itL f.kind).length ≤ 1000 from by rw [hI]; decide) (show hasB (itL f.kind) 97 = false from by rw [hI]; decide))
  have A110 := hid (has_call (m := 110) (show (itL f.kind).length ≤ 1000 from by rw [hI]; decide) (show hasB (itL f.kind) 110 = true from by rw [hI]; decide))
  have A99 := hid (has_call (m := 99) (show (itL f.kind).length ≤ 1000 from by rw [hI]; decide) (show hasB (itL f.kind) 99 = false from by rw [hI]; decide))
  have A100 := hid (has_call (m := 100) (show (itL f.kind).length ≤ 1000 from by rw [hI]; decide) (show hasB (itL f.kind) 100 = false from by rw [hI]; decide))
  have A116 := hid (has_call (m := 116) (show (itL f.kind).length ≤ 1000 from by rw [hI]; decide) (show hasB (itL f.kind) 116 = false from by rw [hI]; decide))
  have A112 := hid (has_call (m := 112) (show (itL f.kind).length ≤ 1000 from by rw [hI]; decide) (show hasB (itL f.kind) 112 = false from by rw [hI]; decide))
  have A107 := hid (has_call (m := 107) (show (itL f.kind).length ≤ 1000 from by rw [hI]; decide) (show hasB (itL f.kind) 107 = false from by rw [hI]; decide))
  have A115 := hid (has_call (m := 115) (show (itL f.kind).length ≤ 1000 from by rw [hI]; decide) (show hasB (itL f.kind) 115 = false from by rw [hI]; decide))
  have A101 := hid (has_call (m := 101) (show (itL f.kind).length ≤ 1000 from by rw [hI]; decide) (show hasB (itL f.kind) 101 = false from by rw [hI]; decide))
  have HH := hid h
  clear h hI
  go_enter Try.func22, Try.ntmps22
  go_wp2_with fail
  generalize hw1 : World.alloc (World.alloc w _) _ = w1
  have q1 : Q w w1 := by rw [← hw1]; exact ((Q.refl w).alloc _).alloc _
  have b1 : Box w1 34 w.heap.size f d c s := by rw [← hw1]; exact heap_alloc2_old w _ _
  have r1 : Box w1 34 (w.heap.size + 1) zf nilS nilS nilS := by rw [← hw1]; exact heap_alloc2_new w _ _
  have hsz : w1.heap.size = w.heap.size + 2 := by rw [← hw1]; simp
  clear hw1
  refine (ritems_any f.kind w1).mono ?_
  rintro e u ⟨rfl, rfl⟩
  obtain ⟨a0, a1, a2, a3, a4, a5, a6, a7, a8, a9, a10, a11, a12⟩ := b1.all
  have B1 := hid b1
  have R1 := hid r1
  have Q1 := hid q1
  clear b1 r1 q1
  go_wp2_with fail
  clear a0 a1 a2 a3 a4 a5 a6 a7 a8 a9 a10 a11 a12
  refine (rcopyF_any f d c s w1 (HH.out.q Q1.out)).mono ?_
  rintro e w3 ⟨x, y, z, rfl, q3, hh⟩
  have B3 := hid (B1.out.q q3)
  have R3 := hid (R1.out.q q3)
  have Q3 := hid (Q1.out.trans q3)
  have H3 := hid hh
  have hw3 := q3.size
  clear q3 hh B1 R1 Q1
  have G3 := hid (show Box (w3.alloc (.cells (fcells zf nilS nilS nilS) 34)) 34 w3.heap.size zf nilS nilS nilS from heap_alloc_new w3 _)
  go_wp2_with (refine wpList_store_row rfl 34 _ _ rfl w3.heap.size (fcells f x y z) rfl rfl 34 _ G3.out (fcells_info34 _ _ _ _) rfl (fcells_one _ _ _ _) ?_)
  generalize hw4 : World.setRow _ _ _ = w4
  have K4 := hid (show Keep (fun i => i = w3.heap.size) w3 w4 from by rw [← hw4]; exact ((Keep.ofQ ((Q.refl w3).alloc _))).setRow _ _ (.inl rfl))
  have X4 := hid (show Box w4 34 w3.heap.size f x y z from by rw [← hw4]; exact G3.out.row_ _ _ _ _)
  clear hw4 G3
  refine (A105.out w4).mono ?_
  rintro e u ⟨rfl, rfl⟩
  clear A105
  obtain ⟨a0, a1, a2, a3, a4, a5, a6, a7, a8, a9, a10, a11, a12⟩ := X4.out.all
  have fr := X4.out.free
  have k0 := (B3.out.keep K4.out (by omega)).c0
  go_wp2_with fail
  clear a0 a1 a2 a3 a4 a5 a6 a7 a8 a9 a10 a11 a12 fr k0
  refine (A97.out w4).mono ?_
  rintro e u ⟨rfl, rfl⟩
  clear A97
  obtain ⟨a0, a1, a2, a3, a4, a5, a6, a7, a8, a9, a10, a11, a12⟩ := X4.out.all
  have fr := X4.out.free
  have k0 := (B3.out.keep K4.out (by omega)).c0
  go_wp2_with fail
  clear a0 a1 a2 a3 a4 a5 a6 a7 a8 a9 a10 a11 a12 fr k0
  generalize hw5 : World.setCell _ _ _ = w5
  have K5 := hid (show Keep (fun i => i = w3.heap.size) w3 w5 from by rw [← hw5]; exact (K4.out.setCell _ 2 (.int .i64 0) (.inl rfl)))
  have X5 := hid (X4.out.pl_ 0)
  rw [hw5] at X5
  clear hw5 K4 X4
  refine (A110.out w5).mono ?_
  rintro e u ⟨rfl, rfl⟩
  clear A110
  obtain ⟨a0, a1, a2, a3, a4, a5, a6, a7, a8, a9, a10, a11, a12⟩ := X5.out.all
  have fr := X5.out.free
  have k0 := (B3.out.keep K5.out (by omega)).c0
  go_wp2_with fail
  clear a0 a1 a2 a3 a4 a5 a6 a7 a8 a9 a10 a11 a12 fr k0
  refine (A99.out w5).mono ?_
  rintro e u ⟨rfl, rfl⟩
  clear A99
  obtain ⟨a0, a1, a2, a3, a4, a5, a6, a7, a8, a9, a10, a11, a12⟩ := X5.out.all
  have fr := X5.out.free
  have k0 := (B3.out.keep K5.out (by omega)).c0
  go_wp2_with fail
  clear a0 a1 a2 a3 a4 a5 a6 a7 a8 a9 a10 a11 a12 fr k0
  generalize hw6 : World.setCell _ _ _ = w6
  have K6 := hid (show Keep (fun i => i = w3.heap.size) w3 w6 from by rw [← hw6]; exact ((K5.out.setCell _ 4 (.int .i64 0) (.inl rfl)).setCell _ 5 (.bool false) (.inl rfl)))
  have X6 := hid ((X5.out.code_ 0).fin0_)
  rw [hw6] at X6
  clear hw6 K5 X5
  refine (A100.out w6).mono ?_
  rintro e u ⟨rfl, rfl⟩
  clear A100
  obtain ⟨a0, a1, a2, a3, a4, a5, a6, a7, a8, a9, a10, a11, a12⟩ := X6.out.all
  have fr := X6.out.free
  have k0 := (B3.out.keep K6.out (by omega)).c0
  go_wp2_with fail
  clear a0 a1 a2 a3 a4 a5 a6 a7 a8 a9 a10 a11 a12 fr k0
  refine (A116.out w6).mono ?_
  rintro e u ⟨rfl, rfl⟩
  clear A116
  obtain ⟨a0, a1, a2, a3, a4, a5, a6, a7, a8, a9, a10, a11, a12⟩ := X6.out.all
  have fr := X6.out.free
  have k0 := (B3.out.keep K6.out (by omega)).c0
  go_wp2_with fail
  clear a0 a1 a2 a3 a4 a5 a6 a7 a8 a9 a10 a11 a12 fr k0
  refine (A112.out w6).mono ?_
  rintro e u ⟨rfl, rfl⟩
  clear A112
  obtain ⟨a0, a1, a2, a3, a4, a5, a6, a7, a8, a9, a10, a11, a12⟩ := X6.out.all
  have fr := X6.out.free
  have k0 := (B3.out.keep K6.out (by omega)).c0
  go_wp2_with fail
  clear a0 a1 a2 a3 a4 a5 a6 a7 a8 a9 a10 a11 a12 fr k0
  generalize hw7 : World.setCell _ _ _ = w7
  have K7 := hid (show Keep (fun i => i = w3.heap.size) w3 w7 from by rw [← hw7]; exact (K6.out.setCell _ 6 (.slice none 0 0) (.inl rfl)))
  have X7 := hid (X6.out.dataN_)
  rw [hw7] at X7
  clear hw7 K6 X6
  refine (A107.out w7).mono ?_
  rintro e u ⟨rfl, rfl⟩
  clear A107
  obtain ⟨a0, a1, a2, a3, a4, a5, a6, a7, a8, a9, a10, a11, a12⟩ := X7.out.all
  have fr := X7.out.free
  have k0 := (B3.out.keep K7.out (by omega)).c0
  go_wp2_with fail
  clear a0 a1 a2 a3 a4 a5 a6 a7 a8 a9 a10 a11 a12 fr k0
  generalize hw8 : World.setCell _ _ _ = w8
  have K8 := hid (show Keep (fun i => i = w3.heap.size) w3 w8 from by rw [← hw8]; exact (K7.out.setCell _ 7 (.slice none 0 0) (.inl rfl)))
  have X8 := hid (X7.out.cidN_)
  rw [hw8] at X8
  clear hw8 K7 X7
  refine (A115.out w8).mono ?_
  rintro e u ⟨rfl, rfl⟩
  clear A115
  obtain ⟨a0, a1, a2, a3, a4, a5, a6, a7, a8, a9, a10, a11, a12⟩ := X8.out.all
  have fr := X8.out.free
  have k0 := (B3.out.keep K8.out (by omega)).c0
  go_wp2_with fail
  clear a0 a1 a2 a3 a4 a5 a6 a7 a8 a9 a10 a11 a12 fr k0
  generalize hw9 : World.setCell _ _ _ = w9
  have K9 := hid (show Keep (fun i => i = w3.heap.size) w3 w9 from by rw [← hw9]; exact ((K8.out.setCell _ 8 (.slice none 0 0) (.inl rfl)).setCell _ 9 (.int .i64 0) (.inl rfl)))
  have X9 := hid (X8.out.spN_.dl_ 0)
  rw [hw9] at X9
  clear hw9 K8 X8
  refine (A101.out w9).mono ?_
  rintro e u ⟨rfl, rfl⟩
  clear A101
  obtain ⟨a0, a1, a2, a3, a4, a5, a6, a7, a8, a9, a10, a11, a12⟩ := X9.out.all
  have fr := X9.out.free
  have k0 := (B3.out.keep K9.out (by omega)).c0
  have RR := hid (R3.out.keep K9.out (by omega))
  have XE := (X9.out.ecn_ 0 0 0).all
  have KE := hid ((((K9.out.setCell _ 10 (.int .i64 0) (.inl rfl)).setCell _ 11 (.int .i64 0) (.inl rfl)).setCell _ 12 (.int .i64 0) (.inl rfl)))
  obtain ⟨e0, e1, e2, e3, e4, e5, e6, e7, e8, e9, e10, e11, e12⟩ := XE
  have RE := hid (R3.out.keep KE.out (by omega))
  go_wp2_with (refine wpList_store_row rfl 34 _ _ rfl (w.heap.size + 1) (fcells { f with pl := 0, code := 0, fin := false, data := [], cid := [], sp := [], dl := 0, e0 := 0, e1 := 0, e2 := 0 } nilS nilS nilS) rfl rfl 34 _ RE.out (fcells_info34 _ _ _ _) rfl (fcells_one _ _ _ _) ?_)
  have KF := KE.out.mono (G := fun i => i = w3.heap.size ∨ i = w.heap.size + 1) (fun _ _ e => .inl e)
  have KG := KF.setRow (w.heap.size + 1) (fcells { f with pl := 0, code := 0, fin := false, data := [], cid := [], sp := [], dl := 0, e0 := 0, e1 := 0, e2 := 0 } nilS nilS nilS) (.inl (.inr rfl))
  have hq := KG.below Q3.out Q3.out.size (fun i e => by omega)
  have hh : HoldsR w1.heap.size w3 { f with pl := 0, code := 0, fin := false, data := [], cid := [], sp := [], dl := 0, e0 := 0, e1 := 0, e2 := 0 } nilS nilS nilS := ⟨(holdsR_nil 0 w3 zf rfl rfl rfl).dr, (holdsR_nil 0 w3 zf rfl rfl rfl).cr, (holdsR_nil 0 w3 zf rfl rfl rfl).sr, (holdsR_nil w1.heap.size w3 zf rfl rfl rfl).nd, (holdsR_nil w1.heap.size w3 zf rfl rfl rfl).nc, (holdsR_nil w1.heap.size w3 zf rfl rfl rfl).ns⟩
  have h4 := hh.keep KG (fun i e => by omega)
  exact ret_frame34 rfl rfl (w.heap.size + 1) 34 _ nilS nilS nilS rfl (RE.out.row_ _ _ _ _) ⟨_, _, _, rfl, hq, h4.dr, h4.cr, h4.sr, h4.nd.mono (by omega), h4.nc.mono (by omega), h4.ns.mono (by omega)⟩
set_option maxHeartbeats 8000000 in
theorem bare_n (f : Fr) (d c s : Sv) (w : World) (h : Fit w f d c s) (hI : itL f.kind = [110]) (h0 : (f.kind != 0) = true) (h8 : (f.kind != 8) = true) :
    Calls Try.prog 22 #[fv f d c s] w (BareA w { f with id := 0, pl := 0, code := 0, fin := false, data := [], cid := [], sp := [], dl := 0, e0 := 0, e1 := 0, e2 := 0 }) := by
  have A105 := hid (has_call (m := 105) (show (itL f.kind).length ≤ 1000 from by rw [hI]; decide) (show hasB (itL f.kind) 105 = false from by rw [hI]; decide))
  have A97 := hid (has_call (m := 97) (show (itL f.kind).length ≤ 1000 from by rw [hI]; decide) (show hasB (itL f.kind) 97 = false from by rw [hI]; decide))
  have A110 := hid (has_call (m := 110) (show (itL f.kind).length ≤ 1000 from by rw [hI]; decide) (show hasB (itL f.kind) 110 = true from by rw [hI]; decide))
  have A99 := hid (has_call (m := 99) (show (itL f.kind).length ≤ 1000 from by rw [hI]; decide) (show hasB (itL f.kind) 99 = false from by rw [hI]; decide))
  have A100 := hid (has_call (m := 100) (show (itL f.kind).length ≤ 1000 from by rw [hI]; decide) (show hasB (itL f.kind) 100 = false from by rw [hI]; decide))
  have A116 := hid (has_call (m := 116) (show (itL f.kind).length ≤ 1000 from by rw [hI]; decide) (show hasB (itL f.kind) 116 = false from by rw [hI]; decide))
  have A112 := hid (has_call (m := 112) (show (itL f.kind).length ≤ 1000 from by rw [hI]; decide) (show hasB (itL f.kind) 112 = false from by rw [hI]; decide))
  have A107 := hid (has_call (m := 107) (show (itL f.kind).length ≤ 1000 from by rw [hI]; decide) (show hasB (itL f.kind) 107 = false from by rw [hI]; decide))
  have A115 := hid (has_call (m := 115) (show (itL f.kind).length ≤ 1000 from by rw [hI]; decide) (show hasB (itL f.kind) 115 = false from by rw [hI]; decide))
  have A101 := hid (has_call (m := 101) (show (itL f.kind).length ≤ 1000 from by rw [hI]; decide) (show hasB (itL f.kind) 101 = false from by rw [hI]; decide))
  have HH := hid h
  clear h hI
  go_enter Try.func22, Try.ntmps22
  go_wp2_with fail
  generalize hw1 : World.alloc (World.alloc w _) _ = w1
  have q1 : Q w w1 := by rw [← hw1]; exact ((Q.refl w).alloc _).alloc _
  have b1 : Box w1 34 w.heap.size f d c s := by rw [← hw1]; exact heap_alloc2_old w _ _
  have r1 : Box w1 34 (w.heap.size + 1) zf nilS nilS nilS := by rw [← hw1]; exact heap_alloc2_new w _ _
  have hsz : w1.heap.size = w.heap.size + 2 := by rw [← hw1]; simp
  clear hw1
  refine (ritems_any f.kind w1).mono ?_
  rintro e u ⟨rfl, rfl⟩
  obtain ⟨a0, a1, a2, a3, a4, a5, a6, a7, a8, a9, a10, a11, a12⟩ := b1.all
  have B1 := hid b1
  have R1 := hid r1
  have Q1 := hid q1
  clear b1 r1 q1
  go_wp2_with fail
  clear a0 a1 a2 a3 a4 a5 a6 a7 a8 a9 a10 a11 a12
  refine (rcopyF_any f d c s w1 (HH.out.q Q1.out)).mono ?_
  rintro e w3 ⟨x, y, z, rfl, q3, hh⟩
  have B3 := hid (B1.out.q q3)
  have R3 := hid (R1.out.q q3)
  have Q3 := hid (Q1.out.trans q3)
  have H3 := hid hh
  have hw3 := q3.size
  clear q3 hh B1 R1 Q1
  have G3 := hid (show Box (w3.alloc (.cells (fcells zf nilS nilS nilS) 34)) 34 w3.heap.size zf nilS nilS nilS from heap_alloc_new w3 _)
  go_wp2_with (refine wpList_store_row rfl 34 _ _ rfl w3.heap.size (fcells f x y z) rfl rfl 34 _ G3.out (fcells_info34 _ _ _ _) rfl (fcells_one _ _ _ _) ?_)
  generalize hw4 : World.setRow _ _ _ = w4
  have K4 := hid (show Keep (fun i => i = w3.heap.size) w3 w4 from by rw [← hw4]; exact ((Keep.ofQ ((Q.refl w3).alloc _))).setRow _ _ (.inl rfl))
  have X4 := hid (show Box w4 34 w3.heap.size f x y z from by rw [← hw4]; exact G3.out.row_ _ _ _ _)
  clear hw4 G3
  refine (A105.out w4).mono ?_
  rintro e u ⟨rfl, rfl⟩
  clear A105
  obtain ⟨a0, a1, a2, a3, a4, a5, a6, a7, a8, a9, a10, a11, a12⟩ := X4.out.all
  have fr := X4.out.free
  have k0 := (B3.out.keep K4.out (by omega)).c0
  go_wp2_with fail
  clear a0 a1 a2 a3 a4 a5 a6 a7 a8 a9 a10 a11 a12 fr k0
  generalize hw5 : World.setCell _ _ _ = w5
  have K5 := hid (show Keep (fun i => i = w3.heap.size) w3 w5 from by rw [← hw5]; exact (K4.out.setCell _ 1 (.int .i64 0) (.inl rfl)))
  have X5 := hid (X4.out.id_ 0)
  rw [hw5] at X5
  clear hw5 K4 X4
  refine (A97.out w5).mono ?_
  rintro e u ⟨rfl, rfl⟩
  clear A97
  obtain ⟨a0, a1, a2, a3, a4, a5, a6, a7, a8, a9, a10, a11, a12⟩ := X5.out.all
  have fr := X5.out.free
  have k0 := (B3.out.keep K5.out (by omega)).c0
  go_wp2_with fail
  clear a0 a1 a2 a3 a4 a5 a6 a7 a8 a9 a10 a11 a12 fr k0
  generalize hw6 : World.setCell _ _ _ = w6
  have K6 := hid (show Keep (fun i => i = w3.heap.size) w3 w6 from by rw [← hw6]; exact (K5.out.setCell _ 2 (.int .i64 0) (.inl rfl)))
  have X6 := hid (X5.out.pl_ 0)
  rw [hw6] at X6
  clear hw6 K5 X5
  refine (A110.out w6).mono ?_
  rintro e u ⟨rfl, rfl⟩
  clear A110
  obtain ⟨a0, a1, a2, a3, a4, a5, a6, a7, a8, a9, a10, a11, a12⟩ := X6.out.all
  have fr := X6.out.free
  have k0 := (B3.out.keep K6.out (by omega)).c0
  go_wp2_with fail
  clear a0 a1 a2 a3 a4 a5 a6 a7 a8 a9 a10 a11 a12 fr k0
  refine (A99.out w6).mono ?_
  rintro e u ⟨rfl, rfl⟩
  clear A99
  obtain ⟨a0, a1, a2, a3, a4, a5, a6, a7, a8, a9, a10, a11, a12⟩ := X6.out.all
  have fr := X6.out.free
  have k0 := (B3.out.keep K6.out (by omega)).c0
  go_wp2_with fail
  clear a0 a1 a2 a3 a4 a5 a6 a7 a8 a9 a10 a11 a12 fr k0
  generalize hw7 : World.setCell _ _ _ = w7
  have K7 := hid (show Keep (fun i => i = w3.heap.size) w3 w7 from by rw [← hw7]; exact ((K6.out.setCell _ 4 (.int .i64 0) (.inl rfl)).setCell _ 5 (.bool false) (.inl rfl)))
  have X7 := hid ((X6.out.code_ 0).fin0_)
  rw [hw7] at X7
  clear hw7 K6 X6
  refine (A100.out w7).mono ?_
  rintro e u ⟨rfl, rfl⟩
  clear A100
  obtain ⟨a0, a1, a2, a3, a4, a5, a6, a7, a8, a9, a10, a11, a12⟩ := X7.out.all
  have fr := X7.out.free
  have k0 := (B3.out.keep K7.out (by omega)).c0
  go_wp2_with fail
  clear a0 a1 a2 a3 a4 a5 a6 a7 a8 a9 a10 a11 a12 fr k0
  refine (A116.out w7).mono ?_
  rintro e u ⟨rfl, rfl⟩
  clear A116
  obtain ⟨a0, a1, a2, a3, a4, a5, a6, a7, a8, a9, a10, a11, a12⟩ := X7.out.all
  have fr := X7.out.free
  have k0 := (B3.out.keep K7.out (by omega)).c0
  go_wp2_with fail
  clear a0 a1 a2 a3 a4 a5 a6 a7 a8 a9 a10 a11 a12 fr k0
  refine (A112.out w7).mono ?_
  rintro e u ⟨rfl, rfl⟩
  clear A112
  obtain ⟨a0, a1, a2, a3, a4, a5, a6, a7, a8, a9, a10, a11, a12⟩ := X7.out.all
  have fr := X7.out.free
  have k0 := (B3.out.keep K7.out (by omega)).c0
  go_wp2_with fail
  clear a0 a1 a2 a3 a4 a5 a6 a7 a8 a9 a10 a11 a12 fr k0
  generalize hw8 : World.setCell _ _ _ = w8
  have K8 := hid (show Keep (fun i => i = w3.heap.size) w3 w8 from by rw [← hw8]; exact (K7.out.setCell _ 6 (.slice none 0 0) (.inl rfl)))
  have X8 := hid (X7.out.dataN_)
  rw [hw8] at X8
  clear hw8 K7 X7
  refine (A107.out w8).mono ?_
  rintro e u ⟨rfl, rfl⟩
  clear A107
  obtain ⟨a0, a1, a2, a3, a4, a5, a6, a7, a8, a9, a10, a11, a12⟩ := X8.out.all
  have fr := X8.out.free
  have k0 := (B3.out.keep K8.out (by omega)).c0
  go_wp2_with fail
  clear a0 a1 a2 a3 a4 a5 a6 a7 a8 a9 a10 a11 a12 fr k0
  generalize hw9 : World.setCell _ _ _ = w9
  have K9 := hid (show Keep (fun i => i = w3.heap.size) w3 w9 from by rw [← hw9]; exact (K8.out.setCell _ 7 (.slice none 0 0) (.inl rfl)))
  have X9 := hid (X8.out.cidN_)
  rw [hw9] at X9
  clear hw9 K8 X8
  refine (A115.out w9).mono ?_
  rintro e u ⟨rfl, rfl⟩
  clear A115
  obtain ⟨a0, a1, a2, a3, a4, a5, a6, a7, a8, a9, a10, a11, a12⟩ := X9.out.all
  have fr := X9.out.free
  have k0 := (B3.out.keep K9.out (by omega)).c0
  go_wp2_with fail
  clear a0 a1 a2 a3 a4 a5 a6 a7 a8 a9 a10 a11 a12 fr k0
  generalize hw10 : World.setCell _ _ _ = w10
  have K10 := hid (show Keep (fun i => i = w3.heap.size) w3 w10 from by rw [← hw10]; exact ((K9.out.setCell _ 8 (.slice none 0 0) (.inl rfl)).setCell _ 9 (.int .i64 0) (.inl rfl)))
  have X10 := hid (X9.out.spN_.dl_ 0)
  rw [hw10] at X10
  clear hw10 K9 X9
  refine (A101.out w10).mono ?_
  rintro e u ⟨rfl, rfl⟩
  clear A101
  obtain ⟨a0, a1, a2, a3, a4, a5, a6, a7, a8, a9, a10, a11, a12⟩ := X10.out.all
  have fr := X10.out.free
  have k0 := (B3.out.keep K10.out (by omega)).c0
  have RR := hid (R3.out.keep K10.out (by omega))
  have XE := (X10.out.ecn_ 0 0 0).all
  have KE := hid ((((K10.out.setCell _ 10 (.int .i64 0) (.inl rfl)).setCell _ 11 (.int .i64 0) (.inl rfl)).setCell _ 12 (.int .i64 0) (.inl rfl)))
  obtain ⟨e0, e1, e2, e3, e4, e5, e6, e7, e8, e9, e10, e11, e12⟩ := XE
  have RE := hid (R3.out.keep KE.out (by omega))
  go_wp2_with (refine wpList_store_row rfl 34 _ _ rfl (w.heap.size + 1) (fcells { f with id := 0, pl := 0, code := 0, fin := false, data := [], cid := [], sp := [], dl := 0, e0 := 0, e1 := 0, e2 := 0 } nilS nilS nilS) rfl rfl 34 _ RE.out (fcells_info34 _ _ _ _) rfl (fcells_one _ _ _ _) ?_)
  have KF := KE.out.mono (G := fun i => i = w3.heap.size ∨ i = w.heap.size + 1) (fun _ _ e => .inl e)
  have KG := KF.setRow (w.heap.size + 1) (fcells { f with id := 0, pl := 0, code := 0, fin := false, data := [], cid := [], sp := [], dl := 0, e0 := 0, e1 := 0, e2 := 0 } nilS nilS nilS) (.inl (.inr rfl))
  have hq := KG.below Q3.out Q3.out.size (fun i e => by omega)
  have hh : HoldsR w1.heap.size w3 { f with id := 0, pl := 0, code := 0, fin := false, data := [], cid := [], sp := [], dl := 0, e0 := 0, e1 := 0, e2 := 0 } nilS nilS nilS := ⟨(holdsR_nil 0 w3 zf rfl rfl rfl).dr, (holdsR_nil 0 w3 zf rfl rfl rfl).cr, (holdsR_nil 0 w3 zf rfl rfl rfl).sr, (holdsR_nil w1.heap.size w3 zf rfl rfl rfl).nd, (holdsR_nil w1.heap.size w3 zf rfl rfl rfl).nc, (holdsR_nil w1.heap.size w3 zf rfl rfl rfl).ns⟩
  have h4 := hh.keep KG (fun i e => by omega)
  exact ret_frame34 rfl rfl (w.heap.size + 1) 34 _ nilS nilS nilS rfl (RE.out.row_ _ _ _ _) ⟨_, _, _, rfl, hq, h4.dr, h4.cr, h4.sr, h4.nd.mono (by omega), h4.nc.mono (by omega), h4.ns.mono (by omega)⟩
set_option maxHeartbeats 8000000 in
theorem bare_nakt (f : Fr) (d c s : Sv) (w : World) (h : Fit w f d c s) (hI : itL f.kind = [110, 97, 107, 116]) (h0 : (f.kind != 0) = true) (h8 : (f.kind != 8) = true) :
    Calls Try.prog 22 #[fv f d c s] w (BareA w { f with id := 0, code := 0, fin := false, sp := [], dl := 0, e0 := 0, e1 := 0, e2 := 0 }) := by
  have A105 := hid (has_call (m := 105) (show (itL f.kind).length ≤ 1000 from by rw [hI]; decide) (show hasB (itL f.kind) 105 = false from by rw [hI]; decide))
  have A97 := hid (has_call (m := 97) (show (itL f.kind).length ≤ 1000 from by rw [hI]; decide) (show hasB (itL f.kind) 97 = true from by rw [hI]; decide))
  have A110 := hid (has_call (m := 110) (show (itL f.kind).length ≤ 1000 from by rw [hI]; decide) (show hasB (itL f.kind) 110 = true from by rw [hI]; decide))
  have A99 := hid (has_call (m := 99) (show (itL f.kind).length ≤ 1000 from by rw [hI]; decide) (show hasB (itL f.kind) 99 = false from by rw [hI]; decide))
  have A100 := hid (has_call (m := 100) (show (itL f.kind).length ≤ 1000 from by rw [hI]; decide) (show hasB (itL f.kind) 100 = false from by rw [hI]; decide))
  have A116 := hid (has_call (m := 116) (show (itL f.kind).length ≤ 1000 from by rw [hI]; decide) (show hasB (itL f.kind) 116 = true from by rw [hI]; decide))
  have A112 := hid (has_call (m := 112) (show (itL f.kind).length ≤ 1000 from by rw [hI]; decide) (show hasB (itL f.kind) 112 = false from by rw [hI]; decide))
  have A107 := hid (has_call (m := 107) (show (itL f.kind).length ≤ 1000 from by rw [hI]; decide) (show hasB (itL f.kind) 107 = true from by rw [hI]; decide))
  have A115 := hid (has_call (m := 115) (show (itL f.kind).length ≤ 1000 from by rw [hI]; decide) (show hasB (itL f.kind) 115 = false from by rw [hI]; decide))
  have A101 := hid (has_call (m := 101) (show (itL f.kind).length ≤ 1000 from by rw [hI]; decide) (show hasB (itL f.kind) 101 = false from by rw [hI]; decide))
  have HH := hid h
  clear h hI
  go_enter Try.func22, Try.ntmps22
  go_wp2_with fail
  generalize hw1 : World.alloc (World.alloc w _) _ = w1
  have q1 : Q w w1 := by rw [← hw1]; exact ((Q.refl w).alloc _).alloc _
  have b1 : Box w1 34 w.heap.size f d c s := by rw [← hw1]; exact heap_alloc2_old w _ _
  have r1 : Box w1 34 (w.heap.size + 1) zf nilS nilS nilS := by rw [← hw1]; exact heap_alloc2_new w _ _
  have hsz : w1.heap.size = w.heap.size + 2 := by rw [← hw1]; simp
  clear hw1
  refine (ritems_any f.kind w1).mono ?_
  rintro e u ⟨rfl, rfl⟩
  obtain ⟨a0, a1, a2, a3, a4, a5, a6, a7, a8, a9, a10, a11, a12⟩ := b1.all
  have B1 := hid b1
  have R1 := hid r1
  have Q1 := hid q1
  clear b1 r1 q1
  go_wp2_with fail
  clear a0 a1 a2 a3 a4 a5 a6 a7 a8 a9 a10 a11 a12
  refine (rcopyF_any f d c s w1 (HH.out.q Q1.out)).mono ?_
  rintro e w3 ⟨x, y, z, rfl, q3, hh⟩
  have B3 := hid (B1.out.q q3)
  have R3 := hid (R1.out.q q3)
  have Q3 := hid (Q1.out.trans q3)
  have H3 := hid hh
  have hw3 := q3.size
  clear q3 hh B1 R1 Q1
  have G3 := hid (show Box (w3.alloc (.cells (fcells zf nilS nilS nilS) 34)) 34 w3.heap.size zf nilS nilS nilS from heap_alloc_new w3 _)
  go_wp2_with (refine wpList_store_row rfl 34 _ _ rfl w3.heap.size (fcells f x y z) rfl rfl 34 _ G3.out (fcells_info34 _ _ _ _) rfl (fcells_one _ _ _ _) ?_)
  generalize hw4 : World.setRow _ _ _ = w4
  have K4 := hid (show Keep (fun i => i = w3.heap.size) w3 w4 from by rw [← hw4]; exact ((Keep.ofQ ((Q.refl w3).alloc _))).setRow _ _ (.inl rfl))
  have X4 := hid (show Box w4 34 w3.heap.size f x y z from by rw [← hw4]; exact G3.out.row_ _ _ _ _)
  clear hw4 G3
  refine (A105.out w4).mono ?_
  rintro e u ⟨rfl, rfl⟩
  clear A105
  obtain ⟨a0, a1, a2, a3, a4, a5, a6, a7, a8, a9, a10, a11, a12⟩ := X4.out.all
  have fr := X4.out.free
  have k0 := (B3.out.keep K4.out (by omega)).c0
  go_wp2_with fail
  clear a0 a1 a2 a3 a4 a5 a6 a7 a8 a9 a10 a11 a12 fr k0
  generalize hw5 : World.setCell _ _ _ = w5
  have K5 := hid (show Keep (fun i => i = w3.heap.size) w3 w5 from by rw [← hw5]; exact (K4.out.setCell _ 1 (.int .i64 0) (.inl rfl)))
  have X5 := hid (X4.out.id_ 0)
  rw [hw5] at X5
  clear hw5 K4 X4
  refine (A97.out w5).mono ?_
  rintro e u ⟨rfl, rfl⟩
  clear A97
  obtain ⟨a0, a1, a2, a3, a4, a5, a6, a7, a8, a9, a10, a11, a12⟩ := X5.out.all
  have fr := X5.out.free
  have k0 := (B3.out.keep K5.out (by omega)).c0
  go_wp2_with fail
  clear a0 a1 a2 a3 a4 a5 a6 a7 a8 a9 a10 a11 a12 fr k0
  refine (A110.out w5).mono ?_
  rintro e u ⟨rfl, rfl⟩
  clear A110
  obtain ⟨a0, a1, a2, a3, a4, a5, a6, a7, a8, a9, a10, a11, a12⟩ := X5.out.all
  have fr := X5.out.free
  have k0 := (B3.out.keep K5.out (by omega)).c0
  go_wp2_with fail
  clear a0 a1 a2 a3 a4 a5 a6 a7 a8 a9 a10 a11 a12 fr k0
  refine (A99.out w5).mono ?_
  rintro e u ⟨rfl, rfl⟩
  clear A99
  obtain ⟨a0, a1, a2, a3, a4, a5, a6, a7, a8, a9, a10, a11, a12⟩ := X5.out.all
  have fr := X5.out.free
  have k0 := (B3.out.keep K5.out (by omega)).c0
  go_wp2_with fail
  clear a0 a1 a2 a3 a4 a5 a6 a7 a8 a9 a10 a11 a12 fr k0
  generalize hw6 : World.setCell _ _ _ = w6
  have K6 := hid (show Keep (fun i => i = w3.heap.size) w3 w6 from by rw [← hw6]; exact ((K5.out.setCell _ 4 (.int .i64 0) (.inl rfl)).setCell _ 5 (.bool false) (.inl rfl)))
  have X6 := hid ((X5.out.code_ 0).fin0_)
  rw [hw6] at X6
  clear hw6 K5 X5
  refine (A100.out w6).mono ?_
  rintro e u ⟨rfl, rfl⟩
  clear A100
  obtain ⟨a0, a1, a2, a3, a4, a5, a6, a7, a8, a9, a10, a11, a12⟩ := X6.out.all
  have fr := X6.out.free
  have k0 := (B3.out.keep K6.out (by omega)).c0
  go_wp2_with fail
  clear a0 a1 a2 a3 a4 a5 a6 a7 a8 a9 a10 a11 a12 fr k0
  refine (A116.out w6).mono ?_
  rintro e u ⟨rfl, rfl⟩
  clear A116
  obtain ⟨a0, a1, a2, a3, a4, a5, a6, a7, a8, a9, a10, a11, a12⟩ := X6.out.all
  have fr := X6.out.free
  have k0 := (B3.out.keep K6.out (by omega)).c0
  go_wp2_with fail
  clear a0 a1 a2 a3 a4 a5 a6 a7 a8 a9 a10 a11 a12 fr k0
  refine (A107.out w6).mono ?_
  rintro e u ⟨rfl, rfl⟩
  clear A107
  obtain ⟨a0, a1, a2, a3, a4, a5, a6, a7, a8, a9, a10, a11, a12⟩ := X6.out.all
  have fr := X6.out.free
  have k0 := (B3.out.keep K6.out (by omega)).c0
  go_wp2_with fail
  clear a0 a1 a2 a3 a4 a5 a6 a7 a8 a9 a10 a11 a12 fr k0
  refine (A115.out w6).mono ?_
  rintro e u ⟨rfl, rfl⟩
  clear A115
  obtain ⟨a0, a1, a2, a3, a4, a5, a6, a7, a8, a9, a10, a11, a12⟩ := X6.out.all
  have fr := X6.out.free
  have k0 := (B3.out.keep K6.out (by omega)).c0
  go_wp2_with fail
  clear a0 a1 a2 a3 a4 a5 a6 a7 a8 a9 a10 a11 a12 fr k0
  generalize hw7 : World.setCell _ _ _ = w7
  have K7 := hid (show Keep (fun i => i = w3.heap.size) w3 w7 from by rw [← hw7]; exact ((K6.out.setCell _ 8 (.slice none 0 0) (.inl rfl)).setCell _ 9 (.int .i64 0) (.inl rfl)))
  have X7 := hid (X6.out.spN_.dl_ 0)
  rw [hw7] at X7
  clear hw7 K6 X6
  refine (A101.out w7).mono ?_
  rintro e u ⟨rfl, rfl⟩
  clear A101
  obtain ⟨a0, a1, a2, a3, a4, a5, a6, a7, a8, a9, a10, a11, a12⟩ := X7.out.all
  have fr := X7.out.free
  have k0 := (B3.out.keep K7.out (by omega)).c0
  have RR := hid (R3.out.keep K7.out (by omega))
  have XE := (X7.out.ecn_ 0 0 0).all
  have KE := hid ((((K7.out.setCell _ 10 (.int .i64 0) (.inl rfl)).setCell _ 11 (.int .i64 0) (.inl rfl)).setCell _ 12 (.int .i64 0) (.inl rfl)))
  obtain ⟨e0, e1, e2, e3, e4, e5, e6, e7, e8, e9, e10, e11, e12⟩ := XE
  have RE := hid (R3.out.keep KE.out (by omega))
  go_wp2_with (refine wpList_store_row rfl 34 _ _ rfl (w.heap.size + 1) (fcells { f with id := 0, code := 0, fin := false, sp := [], dl := 0, e0 := 0, e1 := 0, e2 := 0 } x y nilS) rfl rfl 34 _ RE.out (fcells_info34 _ _ _ _) rfl (fcells_one _ _ _ _) ?_)
  have KF := KE.out.mono (G := fun i => i = w3.heap.size ∨ i = w.heap.size + 1) (fun _ _ e => .inl e)
  have KG := KF.setRow (w.heap.size + 1) (fcells { f with id := 0, code := 0, fin := false, sp := [], dl := 0, e0 := 0, e1 := 0, e2 := 0 } x y nilS) (.inl (.inr rfl))
  have hq := KG.below Q3.out Q3.out.size (fun i e => by omega)
  have hh : HoldsR w1.heap.size w3 { f with id := 0, code := 0, fin := false, sp := [], dl := 0, e0 := 0, e1 := 0, e2 := 0 } x y nilS := ⟨H3.out.dr, H3.out.cr, (holdsR_nil 0 w3 zf rfl rfl rfl).sr, H3.out.nd, H3.out.nc, (holdsR_nil w1.heap.size w3 zf rfl rfl rfl).ns⟩
  have h4 := hh.keep KG (fun i e => by omega)
  exact ret_frame34 rfl rfl (w.heap.size + 1) 34 _ x y nilS rfl (RE.out.row_ _ _ _ _) ⟨_, _, _, rfl, hq, h4.dr, h4.cr, h4.sr, h4.nd.mono (by omega), h4.nc.mono (by omega), h4.ns.mono (by omega)⟩
set_option maxHeartbeats 8000000 in
theorem bare_p (f : Fr) (d c s : Sv) (w : World) (h : Fit w f d c s) (hI : itL f.kind = [112]) (h0 : (f.kind != 0) = true) (h8 : (f.kind != 8) = true) :
    Calls Try.prog 22 #[fv f d c s] w (BareA w { f with id := 0, pl := 0, num := 0, code := 0, fin := false, cid := [], sp := [], dl := 0, e0 := 0, e1 := 0, e2 := 0 }) := by
  have A105 := hid (has_call (m := 105) (show (itL f.kind).length ≤ 1000 from by rw [hI]; decide) (show hasB (itL f.kind) 105 = false from by rw [hI]; decide))
  have A97 := hid (has_call (m := 97) (show (itL f.kind).length ≤ 1000 from by rw [hI]; decide) (show hasB (itL f.kind) 97 = false from by rw [hI]; decide))
  have A110 := hid (has_call (m := 110) (show (itL f.kind).length ≤ 1000 from by rw [hI]; decide) (show hasB (itL f.kind) 110 = false from by rw [hI]; decide))
  have A99 := hid (has_call (m := 99) (show (itL f.kind).length ≤ 1000 from by rw [hI]; decide) (show hasB (itL f.kind) 99 = false from by rw [hI]; decide))
  have A100 := hid (has_call (m := 100) (show (itL f.kind).length ≤ 1000 from by rw [hI]; decide) (show hasB (itL f.kind) 100 = false from by rw [hI]; decide))
  have A116 := hid (has_call (m := 116) (show (itL f.kind).length ≤ 1000 from by rw [hI]; decide) (show hasB (itL f.kind) 116 = false from by rw [hI]; decide))
  have A112 := hid (has_call (m := 112) (show (itL f.kind).length ≤ 1000 from by rw [hI]; decide) (show hasB (itL f.kind) 112 = true from by rw [hI]; decide))
  have A107 := hid (has_call (m := 107) (show (itL f.kind).length ≤ 1000 from by rw [hI]; decide) (show hasB (itL f.kind) 107 = false from by rw [hI]; decide))
  have A115 := hid (has_call (m := 115) (show (itL f.kind).length ≤ 1000 from by rw [hI]; decide) (show hasB (itL f.kind) 115 = false from by rw [hI]; decide))
  have A101 := hid (has_call (m := 101) (show (itL f.kind).length ≤ 1000 from by rw [hI]; decide) (show hasB (itL f.kind) 101 = false from by rw [hI]; decide))
  have HH := hid h
  clear h hI
  go_enter Try.func22, Try.ntmps22
  go_wp2_with fail
  generalize hw1 : World.alloc (World.alloc w _) _ = w1
  have q1 : Q w w1 := by rw [← hw1]; exact ((Q.refl w).alloc _).alloc _
  have b1 : Box w1 34 w.heap.size f d c s := by rw [← hw1]; exact heap_alloc2_old w _ _
  have r1 : Box w1 34 (w.heap.size + 1) zf nilS nilS nilS := by rw [← hw1]; exact heap_alloc2_new w _ _
  have hsz : w1.heap.size = w.heap.size + 2 := by rw [← hw1]; simp
  clear hw1
  refine (ritems_any f.kind w1).mono ?_
  rintro e u ⟨rfl, rfl⟩
  obtain ⟨a0, a1, a2, a3, a4, a5, a6, a7, a8, a9, a10, a11, a12⟩ := b1.all
  have B1 := hid b1
  have R1 := hid r1
  have Q1 := hid q1
  clear b1 r1 q1
  go_wp2_with fail
  clear a0 a1 a2 a3 a4 a5 a6 a7 a8 a9 a10 a11 a12
  refine (rcopyF_any f d c s w1 (HH.out.q Q1.out)).mono ?_
  rintro e w3 ⟨x, y, z, rfl, q3, hh⟩
  have B3 := hid (B1.out.q q3)
  have R3 := hid (R1.out.q q3)
  have Q3 := hid (Q1.out.trans q3)
  have H3 := hid hh
  have hw3 := q3.size
  clear q3 hh B1 R1 Q1
  have G3 := hid (show Box (w3.alloc (.cells (fcells zf nilS nilS nilS) 34)) 34 w3.heap.size zf nilS nilS nilS from heap_alloc_new w3 _)
  go_wp2_with (refine wpList_store_row rfl 34 _ _ rfl w3.heap.size (fcells f x y z) rfl rfl 34 _ G3.out (fcells_info34 _ _ _ _) rfl (fcells_one _ _ _ _) ?_)
  generalize hw4 : World.setRow _ _ _ = w4
  have K4 := hid (show Keep (fun i => i = w3.heap.size) w3 w4 from by rw [← hw4]; exact ((Keep.ofQ ((Q.refl w3).alloc _))).setRow _ _ (.inl rfl))
  have X4 := hid (show Box w4 34 w3.heap.size f x y z from by rw [← hw4]; exact G3.out.row_ _ _ _ _)
  clear hw4 G3
  refine (A105.out w4).mono ?_
  rintro e u ⟨rfl, rfl⟩
  clear A105
  obtain ⟨a0, a1, a2, a3, a4, a5, a6, a7, a8, a9, a10, a11, a12⟩ := X4.out.all
  have fr := X4.out.free
  have k0 := (B3.out.keep K4.out (by omega)).c0
  go_wp2_with fail
  clear a0 a1 a2 a3 a4 a5 a6 a7 a8 a9 a10 a11 a12 fr k0
  generalize hw5 : World.setCell _ _ _ = w5
  have K5 := hid (show Keep (fun i => i = w3.heap.size) w3 w5 from by rw [← hw5]; exact (K4.out.setCell _ 1 (.int .i64 0) (.inl rfl)))
  have X5 := hid (X4.out.id_ 0)
  rw [hw5] at X5
  clear hw5 K4 X4
  refine (A97.out w5).mono ?_
  rintro e u ⟨rfl, rfl⟩
  clear A97
  obtain ⟨a0, a1, a2, a3, a4, a5, a6, a7, a8, a9, a10, a11, a12⟩ := X5.out.all
  have fr := X5.out.free
  have k0 := (B3.out.keep K5.out (by omega)).c0
  go_wp2_with fail
  clear a0 a1 a2 a3 a4 a5 a6 a7 a8 a9 a10 a11 a12 fr k0
  generalize hw6 : World.setCell _ _ _ = w6
  have K6 := hid (show Keep (fun i => i = w3.heap.size) w3 w6 from by rw [← hw6]; exact (K5.out.setCell _ 2 (.int .i64 0) (.inl rfl)))
  have X6 := hid (X5.out.pl_ 0)
  rw [hw6] at X6
  clear hw6 K5 X5
  refine (A110.out w6).mono ?_
  rintro e u ⟨rfl, rfl⟩
  clear A110
  obtain ⟨a0, a1, a2, a3, a4, a5, a6, a7, a8, a9, a10, a11, a12⟩ := X6.out.all
  have fr := X6.out.free
  have k0 := (B3.out.keep K6.out (by omega)).c0
  go_wp2_with fail
  clear a0 a1 a2 a3 a4 a5 a6 a7 a8 a9 a10 a11 a12 fr k0
  generalize hw7 : World.setCell _ _ _ = w7
  have K7 := hid (show Keep (fun i => i = w3.heap.size) w3 w7 from by rw [← hw7]; exact (K6.out.setCell _ 3 (.int .i64 0) (.inl rfl)))
  have X7 := hid (X6.out.num_ 0)
  rw [hw7] at X7
  clear hw7 K6 X6
  refine (A99.out w7).mono ?_
  rintro e u ⟨rfl, rfl⟩
  clear A99
  obtain ⟨a0, a1, a2, a3, a4, a5, a6, a7, a8, a9, a10, a11, a12⟩ := X7.out.all
  have fr := X7.out.free
  have k0 := (B3.out.keep K7.out (by omega)).c0
  go_wp2_with fail
  clear a0 a1 a2 a3 a4 a5 a6 a7 a8 a9 a10 a11 a12 fr k0
  generalize hw8 : World.setCell _ _ _ = w8
  have K8 := hid (show Keep (fun i => i = w3.heap.size) w3 w8 from by rw [← hw8]; exact ((K7.out.setCell _ 4 (.int .i64 0) (.inl rfl)).setCell _ 5 (.bool false) (.inl rfl)))
  have X8 := hid ((X7.out.code_ 0).fin0_)
  rw [hw8] at X8
  clear hw8 K7 X7
  refine (A100.out w8).mono ?_
  rintro e u ⟨rfl, rfl⟩
  clear A100
  obtain ⟨a0, a1, a2, a3, a4, a5, a6, a7, a8, a9, a10, a11, a12⟩ := X8.out.all
  have fr := X8.out.free
  have k0 := (B3.out.keep K8.out (by omega)).c0
  go_wp2_with fail
  clear a0 a1 a2 a3 a4 a5 a6 a7 a8 a9 a10 a11 a12 fr k0
  refine (A116.out w8).mono ?_
  rintro e u ⟨rfl, rfl⟩
  clear A116
  obtain ⟨a0, a1, a2, a3, a4, a5, a6, a7, a8, a9, a10, a11, a12⟩ := X8.out.all
  have fr := X8.out.free
  have k0 := (B3.out.keep K8.out (by omega)).c0
  go_wp2_with fail
  clear a0 a1 a2 a3 a4 a5 a6 a7 a8 a9 a10 a11 a12 fr k0
  refine (A112.out w8).mono ?_
  rintro e u ⟨rfl, rfl⟩
  clear A112
  obtain ⟨a0, a1, a2, a3, a4, a5, a6, a7, a8, a9, a10, a11, a12⟩ := X8.out.all
  have fr := X8.out.free
  have k0 := (B3.out.keep K8.out (by omega)).c0
  go_wp2_with fail
  clear a0 a1 a2 a3 a4 a5 a6 a7 a8 a9 a10 a11 a12 fr k0
  refine (A107.out w8).mono ?_
  rintro e u ⟨rfl, rfl⟩
  clear A107
  obtain ⟨a0, a1, a2, a3, a4, a5, a6, a7, a8, a9, a10, a11, a12⟩ := X8.out.all
  have fr := X8.out.free
  have k0 := (B3.out.keep K8.out (by omega)).c0
  go_wp2_with fail
  clear a0 a1 a2 a3 a4 a5 a6 a7 a8 a9 a10 a11 a12 fr k0
  generalize hw9 : World.setCell _ _ _ = w9
  have K9 := hid (show Keep (fun i => i = w3.heap.size) w3 w9 from by rw [← hw9]; exact (K8.out.setCell _ 7 (.slice none 0 0) (.inl rfl)))
  have X9 := hid (X8.out.cidN_)
  rw [hw9] at X9
  clear hw9 K8 X8
  refine (A115.out w9).mono ?_
  rintro e u ⟨rfl, rfl⟩
  clear A115
  obtain ⟨a0, a1, a2, a3, a4, a5, a6, a7, a8, a9, a10, a11, a12⟩ := X9.out.all
  have fr := X9.out.free
  have k0 := (B3.out.keep K9.out (by omega)).c0
  go_wp2_with fail
  clear a0 a1 a2 a3 a4 a5 a6 a7 a8 a9 a10 a11 a12 fr k0
  generalize hw10 : World.setCell _ _ _ = w10
  have K10 := hid (show Keep (fun i => i = w3.heap.size) w3 w10 from by rw [← hw10]; exact ((K9.out.setCell _ 8 (.slice none 0 0) (.inl rfl)).setCell _ 9 (.int .i64 0) (.inl rfl)))
  have X10 := hid (X9.out.spN_.dl_ 0)
  rw [hw10] at X10
  clear hw10 K9 X9
  refine (A101.out w10).mono ?_
  rintro e u ⟨rfl, rfl⟩
  clear A101
  obtain ⟨a0, a1, a2, a3, a4, a5, a6, a7, a8, a9, a10, a11, a12⟩ := X10.out.all
  have fr := X10.out.free
  have k0 := (B3.out.keep K10.out (by omega)).c0
  have RR := hid (R3.out.keep K10.out (by omega))
  have XE := (X10.out.ecn_ 0 0 0).all
  have KE := hid ((((K10.out.setCell _ 10 (.int .i64 0) (.inl rfl)).setCell _ 11 (.int .i64 0) (.inl rfl)).setCell _ 12 (.int .i64 0) (.inl rfl)))
  obtain ⟨e0, e1, e2, e3, e4, e5, e6, e7, e8, e9, e10, e11, e12⟩ := XE
  have RE := hid (R3.out.keep KE.out (by omega))
  go_wp2_with (refine wpList_store_row rfl 34 _ _ rfl (w.heap.size + 1) (fcells { f with id := 0, pl := 0, num := 0, code := 0, fin := false, cid := [], sp := [], dl := 0, e0 := 0, e1 := 0, e2 := 0 } x nilS nilS) rfl rfl 34 _ RE.out (fcells_info34 _ _ _ _) rfl (fcells_one _ _ _ _) ?_)
  have KF := KE.out.mono (G := fun i => i = w3.heap.size ∨ i = w.heap.size + 1) (fun _ _ e => .inl e)
  have KG := KF.setRow (w.heap.size + 1) (fcells { f with id := 0, pl := 0, num := 0, code := 0, fin := false, cid := [], sp := [], dl := 0, e0 := 0, e1 := 0, e2 := 0 } x nilS nilS) (.inl (.inr rfl))
  have hq := KG.below Q3.out Q3.out.size (fun i e => by omega)
  have hh : HoldsR w1.heap.size w3 { f with id := 0, pl := 0, num := 0, code := 0, fin := false, cid := [], sp := [], dl := 0, e0 := 0, e1 := 0, e2 := 0 } x nilS nilS := ⟨H3.out.dr, (holdsR_nil 0 w3 zf rfl rfl rfl).cr, (holdsR_nil 0 w3 zf rfl rfl rfl).sr, H3.out.nd, (holdsR_nil w1.heap.size w3 zf rfl rfl rfl).nc, (holdsR_nil w1.heap.size w3 zf rfl rfl rfl).ns⟩
  have h4 := hh.keep KG (fun i e => by omega)
  exact ret_frame34 rfl rfl (w.heap.size + 1) 34 _ x nilS nilS rfl (RE.out.row_ _ _ _ _) ⟨_, _, _, rfl, hq, h4.dr, h4.cr, h4.sr, h4.nd.mono (by omega), h4.nc.mono (by omega), h4.ns.mono (by omega)⟩
set_option maxHeartbeats 8000000 in
theorem bare_cnd (f : Fr) (d c s : Sv) (w : World) (h : Fit w f d c s) (hI : itL f.kind = [99, 110, 100]) (h0 : (f.kind != 0) = true) (h8 : (f.kind != 8) = true) :
    Calls Try.prog 22 #[fv f d c s] w (BareA w { f with id := 0, pl := 0, fin := false, cid := [], sp := [], dl := 0, e0 := 0, e1 := 0, e2 := 0 }) := by
  have A105 := hid (has_call (m := 105) (show (itL f.kind).length ≤ 1000 from by rw [hI]; decide) (show hasB (itL f.kind) 105 = false from by rw [hI]; decide))
  have A97 := hid (has_call (m := 97) (show (itL f.kind).length ≤ 1000 from by rw [hI]; decide) (show hasB (itL f.kind) 97 = false from by rw [hI]; decide))
  have A110 := hid (has_call (m := 110) (show (itL f.kind).length ≤ 1000 from by rw [hI]; decide) (show hasB (itL f.kind) 110 = true from by rw [hI]; decide))
  have A99 := hid (has_call (m := 99) (show (itL f.kind).length ≤ 1000 from by rw [hI]; decide) (show hasB (itL f.kind) 99 = true from by rw [hI]; decide))
  have A100 := hid (has_call (m := 100) (show (itL f.kind).length ≤ 1000 from by rw [hI]; decide) (show hasB (itL f.kind) 100 = true from by rw [hI]; decide))
  have A116 := hid (has_call (m := 116) (show (itL f.kind).length ≤ 1000 from by rw [hI]; decide) (show hasB (itL f.kind) 116 = false from by rw [hI]; decide))
  have A112 := hid (has_call (m := 112) (show (itL f.kind).length ≤ 1000 from by rw [hI]; decide) (show hasB (itL f.kind) 112 = false from by rw [hI]; decide))
  have A107 := hid (has_call (m := 107) (show (itL f.kind).length ≤ 1000 from by rw [hI]; decide) (show hasB (itL f.kind) 107 = false from by rw [hI]; decide))
  have A115 := hid (has_call (m := 115) (show (itL f.kind).length ≤ 1000 from by rw [hI]; decide) (show hasB (itL f.kind) 115 = false from by rw [hI]; decide))
  have A101 := hid (has_call (m := 101) (show (itL f.kind).length ≤ 1000 from by rw [hI]; decide) (show hasB (itL f.kind) 101 = false from by rw [hI]; decide))
  have HH := hid h
  clear h hI
  go_enter Try.func22, Try.ntmps22
  go_wp2_with fail
  generalize hw1 : World.alloc (World.alloc w _) _ = w1
  have q1 : Q w w1 := by rw [← hw1]; exact ((Q.refl w).alloc _).alloc _
  have b1 : Box w1 34 w.heap.size f d c s := by rw [← hw1]; exact heap_alloc2_old w _ _
  have r1 : Box w1 34 (w.heap.size + 1) zf nilS nilS nilS := by rw [← hw1]; exact heap_alloc2_new w _ _
  have hsz : w1.heap.size = w.heap.size + 2 := by rw [← hw1]; simp
  clear hw1
  refine (ritems_any f.kind w1).mono ?_
  rintro e u ⟨rfl, rfl⟩
  obtain ⟨a0, a1, a2, a3, a4, a5, a6, a7, a8, a9, a10, a11, a12⟩ := b1.all
  have B1 := hid b1
  have R1 := hid r1
  have Q1 := hid q1
  clear b1 r1 q1
  go_wp2_with fail
  clear a0 a1 a2 a3 a4 a5 a6 a7 a8 a9 a10 a11 a12
  refine (rcopyF_any f d c s w1 (HH.out.q Q1.out)).mono ?_
  rintro e w3 ⟨x, y, z, rfl, q3, hh⟩
  have B3 := hid (B1.out.q q3)
  have R3 := hid (R1.out.q q3)
  have Q3 := hid (Q1.out.trans q3)
  have H3 := hid hh
  have hw3 := q3.size
  clear q3 hh B1 R1 Q1
  have G3 := hid (show Box (w3.alloc (.cells (fcells zf nilS nilS nilS) 34)) 34 w3.heap.size zf nilS nilS nilS from heap_alloc_new w3 _)
  go_wp2_with (refine wpList_store_row rfl 34 _ _ rfl w3.heap.size (fcells f x y z) rfl rfl 34 _ G3.out (fcells_info34 _ _ _ _) rfl (fcells_one _ _ _ _) ?_)
  generalize hw4 : World.setRow _ _ _ = w4
  have K4 := hid (show Keep (fun i => i = w3.heap.size) w3 w4 from by rw [← hw4]; exact ((Keep.ofQ ((Q.refl w3).alloc _))).setRow _ _ (.inl rfl))
  have X4 := hid (show Box w4 34 w3.heap.size f x y z from by rw [← hw4]; exact G3.out.row_ _ _ _ _)
  clear hw4 G3
  refine (A105.out w4).mono ?_
  rintro e u ⟨rfl, rfl⟩
  clear A105
  obtain ⟨a0, a1, a2, a3, a4, a5, a6, a7, a8, a9, a10, a11, a12⟩ := X4.out.all
  have fr := X4.out.free
  have k0 := (B3.out.keep K4.out (by omega)).c0
  go_wp2_with fail
  clear a0 a1 a2 a3 a4 a5 a6 a7 a8 a9 a10 a11 a12 fr k0
  generalize hw5 : World.setCell _ _ _ = w5
  have K5 := hid (show Keep (fun i => i = w3.heap.size) w3 w5 from by rw [← hw5]; exact (K4.out.setCell _ 1 (.int .i64 0) (.inl rfl)))
  have X5 := hid (X4.out.id_ 0)
  rw [hw5] at X5
  clear hw5 K4 X4
  refine (A97.out w5).mono ?_
  rintro e u ⟨rfl, rfl⟩
  clear A97
  obtain ⟨a0, a1, a2, a3, a4, a5, a6, a7, a8, a9, a10, a11, a12⟩ := X5.out.all
  have fr := X5.out.free
  have k0 := (B3.out.keep K5.out (by omega)).c0
  go_wp2_with fail
  clear a0 a1 a2 a3 a4 a5 a6 a7 a8 a9 a10 a11 a12 fr k0
  generalize hw6 : World.setCell _ _ _ = w6
  have K6 := hid (show Keep (fun i => i = w3.heap.size) w3 w6 from by rw [← hw6]; exact (K5.out.setCell _ 2 (.int .i64 0) (.inl rfl)))
  have X6 := hid (X5.out.pl_ 0)
  rw [hw6] at X6
  clear hw6 K5 X5
  refine (A110.out w6).mono ?_
  rintro e u ⟨rfl, rfl⟩
  clear A110
  obtain ⟨a0, a1, a2, a3, a4, a5, a6, a7, a8, a9, a10, a11, a12⟩ := X6.out.all
  have fr := X6.out.free
  have k0 := (B3.out.keep K6.out (by omega)).c0
  go_wp2_with fail
  clear a0 a1 a2 a3 a4 a5 a6 a7 a8 a9 a10 a11 a12 fr k0
  refine (A99.out w6).mono ?_
  rintro e u ⟨rfl, rfl⟩
  clear A99
  obtain ⟨a0, a1, a2, a3, a4, a5, a6, a7, a8, a9, a10, a11, a12⟩ := X6.out.all
  have fr := X6.out.free
  have k0 := (B3.out.keep K6.out (by omega)).c0
  go_wp2_with fail
  clear a0 a1 a2 a3 a4 a5 a6 a7 a8 a9 a10 a11 a12 fr k0
  generalize hw7 : World.setCell _ _ _ = w7
  have K7 := hid (show Keep (fun i => i = w3.heap.size) w3 w7 from by rw [← hw7]; exact (K6.out.setCell _ 5 (.bool false) (.inl rfl)))
  have X7 := hid (X6.out.fin0_)
  rw [hw7] at X7
  clear hw7 K6 X6
  refine (A100.out w7).mono ?_
  rintro e u ⟨rfl, rfl⟩
  clear A100
  obtain ⟨a0, a1, a2, a3, a4, a5, a6, a7, a8, a9, a10, a11, a12⟩ := X7.out.all
  have fr := X7.out.free
  have k0 := (B3.out.keep K7.out (by omega)).c0
  go_wp2_with fail
  clear a0 a1 a2 a3 a4 a5 a6 a7 a8 a9 a10 a11 a12 fr k0
  refine (A107.out w7).mono ?_
  rintro e u ⟨rfl, rfl⟩
  clear A107
  obtain ⟨a0, a1, a2, a3, a4, a5, a6, a7, a8, a9, a10, a11, a12⟩ := X7.out.all
  have fr := X7.out.free
  have k0 := (B3.out.keep K7.out (by omega)).c0
  go_wp2_with fail
  clear a0 a1 a2 a3 a4 a5 a6 a7 a8 a9 a10 a11 a12 fr k0
  generalize hw8 : World.setCell _ _ _ = w8
  have K8 := hid (show Keep (fun i => i = w3.heap.size) w3 w8 from by rw [← hw8]; exact (K7.out.setCell _ 7 (.slice none 0 0) (.inl rfl)))
  have X8 := hid (X7.out.cidN_)
  rw [hw8] at X8
  clear hw8 K7 X7
  refine (A115.out w8).mono ?_
  rintro e u ⟨rfl, rfl⟩
  clear A115
  obtain ⟨a0, a1, a2, a3, a4, a5, a6, a7, a8, a9, a10, a11, a12⟩ := X8.out.all
  have fr := X8.out.free
  have k0 := (B3.out.keep K8.out (by omega)).c0
  go_wp2_with fail
  clear a0 a1 a2 a3 a4 a5 a6 a7 a8 a9 a10 a11 a12 fr k0
  generalize hw9 : World.setCell _ _ _ = w9
  have K9 := hid (show Keep (fun i => i = w3.heap.size) w3 w9 from by rw [← hw9]; exact ((K8.out.setCell _ 8 (.slice none 0 0) (.inl rfl)).setCell _ 9 (.int .i64 0) (.inl rfl)))
  have X9 := hid (X8.out.spN_.dl_ 0)
  rw [hw9] at X9
  clear hw9 K8 X8
  refine (A101.out w9).mono ?_
  rintro e u ⟨rfl, rfl⟩
  clear A101
  obtain ⟨a0, a1, a2, a3, a4, a5, a6, a7, a8, a9, a10, a11, a12⟩ := X9.out.all
  have fr := X9.out.free
  have k0 := (B3.out.keep K9.out (by omega)).c0
  have RR := hid (R3.out.keep K9.out (by omega))
  have XE := (X9.out.ecn_ 0 0 0).all
  have KE := hid ((((K9.out.setCell _ 10 (.int .i64 0) (.inl rfl)).setCell _ 11 (.int .i64 0) (.inl rfl)).setCell _ 12 (.int .i64 0) (.inl rfl)))
  obtain ⟨e0, e1, e2, e3, e4, e5, e6, e7, e8, e9, e10, e11, e12⟩ := XE
  have RE := hid (R3.out.keep KE.out (by omega))
  go_wp2_with (refine wpList_store_row rfl 34 _ _ rfl (w.heap.size + 1) (fcells { f with id := 0, pl := 0, fin := false, cid := [], sp := [], dl := 0, e0 := 0, e1 := 0, e2 := 0 } x nilS nilS) rfl rfl 34 _ RE.out (fcells_info34 _ _ _ _) rfl (fcells_one _ _ _ _) ?_)
  have KF := KE.out.mono (G := fun i => i = w3.heap.size ∨ i = w.heap.size + 1) (fun _ _ e => .inl e)
  have KG := KF.setRow (w.heap.size + 1) (fcells { f with id := 0, pl := 0, fin := false, cid := [], sp := [], dl := 0, e0 := 0, e1 := 0, e2 := 0 } x nilS nilS) (.inl (.inr rfl))
  have hq := KG.below Q3.out Q3.out.size (fun i e => by omega)
  have hh : HoldsR w1.heap.size w3 { f with id := 0, pl := 0, fin := false, cid := [], sp := [], dl := 0, e0 := 0, e1 := 0, e2 := 0 } x nilS nilS := ⟨H3.out.dr, (holdsR_nil 0 w3 zf rfl rfl rfl).cr, (holdsR_nil 0 w3 zf rfl rfl rfl).sr, H3.out.nd, (holdsR_nil w1.heap.size w3 zf rfl rfl rfl).nc, (holdsR_nil w1.heap.size w3 zf rfl rfl rfl).ns⟩
  have h4 := hh.keep KG (fun i e => by omega)
  exact ret_frame34 rfl rfl (w.heap.size + 1) 34 _ x nilS nilS rfl (RE.out.row_ _ _ _ _) ⟨_, _, _, rfl, hq, h4.dr, h4.cr, h4.sr, h4.nd.mono (by omega), h4.nc.mono (by omega), h4.ns.mono (by omega)⟩
set_option maxHeartbeats 8000000 in
theorem bare_cd (f : Fr) (d c s : Sv) (w : World) (h : Fit w f d c s) (hI : itL f.kind = [99, 100]) (h0 : (f.kind != 0) = true) (h8 : (f.kind != 8) = true) :
    Calls Try.prog 22 #[fv f d c s] w (BareA w { f with id := 0, pl := 0, num := 0, fin := false, cid := [], sp := [], dl := 0, e0 := 0, e1 := 0, e2 := 0 }) := by
  have A105 := hid (has_call (m := 105) (show (itL f.kind).length ≤ 1000 from by rw [hI]; decide) (show hasB (itL f.kind) 105 = false from by rw [hI]; decide))
  have A97 := hid (has_call (m := 97) (show (itL f.kind).length ≤ 1000 from by rw [hI]; decide) (show hasB (itL f.kind) 97 = false from by rw [hI]; decide))
  have A110 := hid (has_call (m := 110) (show (itL f.kind).length ≤ 1000 from by rw [hI]; decide) (show hasB (itL f.kind) 110 = false from by rw [hI]; decide))
  have A99 := hid (has_call (m := 99) (show (itL f.kind).length ≤ 1000 from by rw [hI]; decide) (show hasB (itL f.kind) 99 = true from by rw [hI]; decide))
  have A100 := hid (has_call (m := 100) (show (itL f.kind).length ≤ 1000 from by rw [hI]; decide) (show hasB (itL f.kind) 100 = true from by rw [hI]; decide))
  have A116 := hid (has_call (m := 116) (show (itL f.kind).length ≤ 1000 from by rw [hI]; decide) (show hasB (itL f.kind) 116 = false from by rw [hI]; decide))
  have A112 := hid (has_call (m := 112) (show (itL f.kind).length ≤ 1000 from by rw [hI]; decide) (show hasB (itL f.kind) 112 = false from by rw [hI]; decide))
  have A107 := hid (has_call (m := 107) (show (itL f.kind).length ≤ 1000 from by rw [hI]; decide) (show hasB (itL f.kind) 107 = false from by rw [hI]; decide))
  have A115 := hid (has_call (m := 115) (show (itL f.kind).length ≤ 1000 from by rw [hI]; decide) (show hasB (itL f.kind) 115 = false from by rw [hI]; decide))
  have A101 := hid (has_call (m := 101) (show (itL f.kind).length ≤ 1000 from by rw [hI]; decide) (show hasB (itL f.kind) 101 = false from by rw [hI]; decide))
  have HH := hid h
  clear h hI
  go_enter Try.func22, Try.ntmps22
  go_wp2_with fail
  generalize hw1 : World.alloc (World.alloc w _) _ = w1
  have q1 : Q w w1 := by rw [← hw1]; exact ((Q.refl w).alloc _).alloc _
  have b1 : Box w1 34 w.heap.size f d c s := by rw [← hw1]; exact heap_alloc2_old w _ _
  have r1 : Box w1 34 (w.heap.size + 1) zf nilS nilS nilS := by rw [← hw1]; exact heap_alloc2_new w _ _
  have hsz : w1.heap.size = w.heap.size + 2 := by rw [← hw1]; simp
  clear hw1
  refine (ritems_any f.kind w1).mono ?_
  rintro e u ⟨rfl, rfl⟩
  obtain ⟨a0, a1, a2, a3, a4, a5, a6, a7, a8, a9, a10, a11, a12⟩ := b1.all
  have B1 := hid b1
  have R1 := hid r1
  have Q1 := hid q1
  clear b1 r1 q1
  go_wp2_with fail
  clear a0 a1 a2 a3 a4 a5 a6 a7 a8 a9 a10 a11 a12
  refine (rcopyF_any f d c s w1 (HH.out.q Q1.out)).mono ?_
  rintro e w3 ⟨x, y, z, rfl, q3, hh⟩
  have B3 := hid (B1.out.q q3)
  have R3 := hid (R1.out.q q3)
  have Q3 := hid (Q1.out.trans q3)
  have H3 := hid hh
  have hw3 := q3.size
  clear q3 hh B1 R1 Q1
  have G3 := hid (show Box (w3.alloc (.cells (fcells zf nilS nilS nilS) 34)) 34 w3.heap.size zf nilS nilS nilS from heap_alloc_new w3 _)
  go_wp2_with (refine wpList_store_row rfl 34 _ _ rfl w3.heap.size (fcells f x y z) rfl rfl 34 _ G3.out (fcells_info34 _ _ _ _) rfl (fcells_one _ _ _ _) ?_)
  generalize hw4 : World.setRow _ _ _ = w4
  have K4 := hid (show Keep (fun i => i = w3.heap.size) w3 w4 from by rw [← hw4]; exact ((Keep.ofQ ((Q.refl w3).alloc _))).setRow _ _ (.inl rfl))
  have X4 := hid (show Box w4 34 w3.heap.size f x y z from by rw [← hw4]; exact G3.out.row_ _ _ _ _)
  clear hw4 G3
  refine (A105.out w4).mono ?_
  rintro e u ⟨rfl, rfl⟩
  clear A105
  obtain ⟨a0, a1, a2, a3, a4, a5, a6, a7, a8, a9, a10, a11, a12⟩ := X4.out.all
  have fr := X4.out.free
  have k0 := (B3.out.keep K4.out (by omega)).c0
  go_wp2_with fail
  clear a0 a1 a2 a3 a4 a5 a6 a7 a8 a9 a10 a11 a12 fr k0
  generalize hw5 : World.setCell _ _ _ = w5
  have K5 := hid (show Keep (fun i => i = w3.heap.size) w3 w5 from by rw [← hw5]; exact (K4.out.setCell _ 1 (.int .i64 0) (.inl rfl)))
  have X5 := hid (X4.out.id_ 0)
  rw [hw5] at X5
  clear hw5 K4 X4
  refine (A97.out w5).mono ?_
  rintro e u ⟨rfl, rfl⟩
  clear A97
  obtain ⟨a0, a1, a2, a3, a4, a5, a6, a7, a8, a9, a10, a11, a12⟩ := X5.out.all
  have fr := X5.out.free
  have k0 := (B3.out.keep K5.out (by omega)).c0
  go_wp2_with fail
  clear a0 a1 a2 a3 a4 a5 a6 a7 a8 a9 a10 a11 a12 fr k0
  generalize hw6 : World.setCell _ _ _ = w6
  have K6 := hid (show Keep (fun i => i = w3.heap.size) w3 w6 from by rw [← hw6]; exact (K5.out.setCell _ 2 (.int .i64 0) (.inl rfl)))
  have X6 := hid (X5.out.pl_ 0)
  rw [hw6] at X6
  clear hw6 K5 X5
  refine (A110.out w6).mono ?_
  rintro e u ⟨rfl, rfl⟩
  clear A110
  obtain ⟨a0, a1, a2, a3, a4, a5, a6, a7, a8, a9, a10, a11, a12⟩ := X6.out.all
  have fr := X6.out.free
  have k0 := (B3.out.keep K6.out (by omega)).c0
  go_wp2_with fail
  clear a0 a1 a2 a3 a4 a5 a6 a7 a8 a9 a10 a11 a12 fr k0
  generalize hw7 : World.setCell _ _ _ = w7
  have K7 := hid (show Keep (fun i => i = w3.heap.size) w3 w7 from by rw [← hw7]; exact (K6.out.setCell _ 3 (.int .i64 0) (.inl rfl)))
  have X7 := hid (X6.out.num_ 0)
  rw [hw7] at X7
  clear hw7 K6 X6
  refine (A99.out w7).mono ?_
  rintro e u ⟨rfl, rfl⟩
  clear A99
  obtain ⟨a0, a1, a2, a3, a4, a5, a6, a7, a8, a9, a10, a11, a12⟩ := X7.out.all
  have fr := X7.out.free
  have k0 := (B3.out.keep K7.out (by omega)).c0
  go_wp2_with fail
  clear a0 a1 a2 a3 a4 a5 a6 a7 a8 a9 a10 a11 a12 fr k0
  generalize hw8 : World.setCell _ _ _ = w8
  have K8 := hid (show Keep (fun i => i = w3.heap.size) w3 w8 from by rw [← hw8]; exact (K7.out.setCell _ 5 (.bool false) (.inl rfl)))
  have X8 := hid (X7.out.fin0_)
  rw [hw8] at X8
  clear hw8 K7 X7
  refine (A100.out w8).mono ?_
  rintro e u ⟨rfl, rfl⟩
  clear A100
  obtain ⟨a0, a1, a2, a3, a4, a5, a6, a7, a8, a9, a10, a11, a12⟩ := X8.out.all
  have fr := X8.out.free
  have k0 := (B3.out.keep K8.out (by omega)).c0
  go_wp2_with fail
  clear a0 a1 a2 a3 a4 a5 a6 a7 a8 a9 a10 a11 a12 fr k0
  refine (A107.out w8).mono ?_
  rintro e u ⟨rfl, rfl⟩
  clear A107
  obtain ⟨a0, a1, a2, a3, a4, a5, a6, a7, a8, a9, a10, a11, a12⟩ := X8.out.all
  have fr := X8.out.free
  have k0 := (B3.out.keep K8.out (by omega)).c0
  go_wp2_with fail
  clear a0 a1 a2 a3 a4 a5 a6 a7 a8 a9 a10 a11 a12 fr k0
  generalize hw9 : World.setCell _ _ _ = w9
  have K9 := hid (show Keep (fun i => i = w3.heap.size) w3 w9 from by rw [← hw9]; exact (K8.out.setCell _ 7 (.slice none 0 0) (.inl rfl)))
  have X9 := hid (X8.out.cidN_)
  rw [hw9] at X9
  clear hw9 K8 X8
  refine (A115.out w9).mono ?_
  rintro e u ⟨rfl, rfl⟩
  clear A115
  obtain ⟨a0, a1, a2, a3, a4, a5, a6, a7, a8, a9, a10, a11, a12⟩ := X9.out.all
  have fr := X9.out.free
  have k0 := (B3.out.keep K9.out (by omega)).c0
  go_wp2_with fail
  clear a0 a1 a2 a3 a4 a5 a6 a7 a8 a9 a10 a11 a12 fr k0
  generalize hw10 : World.setCell _ _ _ = w10
  have K10 := hid (show Keep (fun i => i = w3.heap.size) w3 w10 from by rw [← hw10]; exact ((K9.out.setCell _ 8 (.slice none 0 0) (.inl rfl)).setCell _ 9 (.int .i64 0) (.inl rfl)))
  have X10 := hid (X9.out.spN_.dl_ 0)
  rw [hw10] at X10
  clear hw10 K9 X9
  refine (A101.out w10).mono ?_
  rintro e u ⟨rfl, rfl⟩
  clear A101
  obtain ⟨a0, a1, a2, a3, a4, a5, a6, a7, a8, a9, a10, a11, a12⟩ := X10.out.all
  have fr := X10.out.free
  have k0 := (B3.out.keep K10.out (by omega)).c0
  have RR := hid (R3.out.keep K10.out (by omega))
  have XE := (X10.out.ecn_ 0 0 0).all
  have KE := hid ((((K10.out.setCell _ 10 (.int .i64 0) (.inl rfl)).setCell _ 11 (.int .i64 0) (.inl rfl)).setCell _ 12 (.int .i64 0) (.inl rfl)))
  obtain ⟨e0, e1, e2, e3, e4, e5, e6, e7, e8, e9, e10, e11, e12⟩ := XE
  have RE := hid (R3.out.keep KE.out (by omega))
  go_wp2_with (refine wpList_store_row rfl 34 _ _ rfl (w.heap.size + 1) (fcells { f with id := 0, pl := 0, num := 0, fin := false, cid := [], sp := [], dl := 0, e0 := 0, e1 := 0, e2 := 0 } x nilS nilS) rfl rfl 34 _ RE.out (fcells_info34 _ _ _ _) rfl (fcells_one _ _ _ _) ?_)
  have KF := KE.out.mono (G := fun i => i = w3.heap.size ∨ i = w.heap.size + 1) (fun _ _ e => .inl e)
  have KG := KF.setRow (w.heap.size + 1) (fcells { f with id := 0, pl := 0, num := 0, fin := false, cid := [], sp := [], dl := 0, e0 := 0, e1 := 0, e2 := 0 } x nilS nilS) (.inl (.inr rfl))
  have hq := KG.below Q3.out Q3.out.size (fun i e => by omega)
  have hh : HoldsR w1.heap.size w3 { f with id := 0, pl := 0, num := 0, fin := false, cid := [], sp := [], dl := 0, e0 := 0, e1 := 0, e2 := 0 } x nilS nilS := ⟨H3.out.dr, (holdsR_nil 0 w3 zf rfl rfl rfl).cr, (holdsR_nil 0 w3 zf rfl rfl rfl).sr, H3.out.nd, (holdsR_nil w1.heap.size w3 zf rfl rfl rfl).nc, (holdsR_nil w1.heap.size w3 zf rfl rfl rfl).ns⟩
  have h4 := hh.keep KG (fun i e => by omega)
  exact ret_frame34 rfl rfl (w.heap.size + 1) 34 _ x nilS nilS rfl (RE.out.row_ _ _ _ _) ⟨_, _, _, rfl, hq, h4.dr, h4.cr, h4.sr, h4.nd.mono (by omega), h4.nc.mono (by omega), h4.ns.mono (by omega)⟩
set_option maxHeartbeats 8000000 in
theorem bare_e0 (f : Fr) (d c s : Sv) (w : World) (h : Fit w f d c s) (hI : itL f.kind = []) (h0 : (f.kind != 0) = false) (h8 : (f.kind != 8) = true) :
    Calls Try.prog 22 #[fv f d c s] w (BareA w { f with id := 0, pl := 0, code := 0, fin := false, data := [], cid := [], sp := [], dl := 0, e0 := 0, e1 := 0, e2 := 0 }) := by
  have A105 := hid (has_call (m := 105) (show (itL f.kind).length ≤ 1000 from by rw [hI]; decide) (show hasB (itL f.kind) 105 = false from by rw [hI]; decide))
  have A97 := hid (has_call (m := 97) (show (itL f.kind).length ≤ 1000 from by rw [hI]; decide) (show hasB (itL f.kind) 97 = false from by rw [hI]; decide))
  have A110 := hid (has_call (m := 110) (show (itL f.kind).length ≤ 1000 from by rw [hI]; decide) (show hasB (itL f.kind) 110 = false from by rw [hI]; decide))
  have A99 := hid (has_call (m := 99) (show (itL f.kind).length ≤ 1000 from by rw [hI]; decide) (show hasB (itL f.kind) 99 = false from by rw [hI]; decide))
  have A100 := hid (has_call (m := 100) (show (itL f.kind).length ≤ 1000 from by rw [hI]; decide) (show hasB (itL f.kind) 100 = false from by rw [hI]; decide))
  have A116 := hid (has_call (m := 116) (show (itL f.kind).length ≤ 1000 from by rw [hI]; decide) (show hasB (itL f.kind) 116 = false from by rw [hI]; decide))
  have A112 := hid (has_call (m := 112) (show (itL f.kind).length ≤ 1000 from by rw [hI]; decide) (show hasB (itL f.kind) 112 = false from by rw [hI]; decide))
  have A107 := hid (has_call (m := 107) (show (itL f.kind).length ≤ 1000 from by rw [hI]; decide) (show hasB (itL f.kind) 107 = false from by rw [hI]; decide))
  have A115 := hid (has_call (m := 115) (show (itL f.kind).length ≤ 1000 from by rw [hI]; decide) (show hasB (itL f.kind) 115 = false from by rw [hI]; decide))
  have A101 := hid (has_call (m := 101) (show (itL f.kind).length ≤ 1000 from by rw [hI]; decide) (show hasB (itL f.kind) 101 = false from by rw [hI]; decide))
  have HH := hid h
  clear h hI
  go_enter Try.func22, Try.ntmps22
  go_wp2_with fail
  generalize hw1 : World.alloc (World.alloc w _) _ = w1
  have q1 : Q w w1 := by rw [← hw1]; exact ((Q.refl w).alloc _).alloc _
  have b1 : Box w1 34 w.heap.size f d c s := by rw [← hw1]; exact heap_alloc2_old w _ _
  have r1 : Box w1 34 (w.heap.size + 1) zf nilS nilS nilS := by rw [← hw1]; exact heap_alloc2_new w _ _
  have hsz : w1.heap.size = w.heap.size + 2 := by rw [← hw1]; simp
  clear hw1
  refine (ritems_any f.kind w1).mono ?_
  rintro e u ⟨rfl, rfl⟩
  obtain ⟨a0, a1, a2, a3, a4, a5, a6, a7, a8, a9, a10, a11, a12⟩ := b1.all
  have B1 := hid b1
  have R1 := hid r1
  have Q1 := hid q1
  clear b1 r1 q1
  go_wp2_with fail
  clear a0 a1 a2 a3 a4 a5 a6 a7 a8 a9 a10 a11 a12
  refine (rcopyF_any f d c s w1 (HH.out.q Q1.out)).mono ?_
  rintro e w3 ⟨x, y, z, rfl, q3, hh⟩
  have B3 := hid (B1.out.q q3)
  have R3 := hid (R1.out.q q3)
  have Q3 := hid (Q1.out.trans q3)
  have H3 := hid hh
  have hw3 := q3.size
  clear q3 hh B1 R1 Q1
  have G3 := hid (show Box (w3.alloc (.cells (fcells zf nilS nilS nilS) 34)) 34 w3.heap.size zf nilS nilS nilS from heap_alloc_new w3 _)
  go_wp2_with (refine wpList_store_row rfl 34 _ _ rfl w3.heap.size (fcells f x y z) rfl rfl 34 _ G3.out (fcells_info34 _ _ _ _) rfl (fcells_one _ _ _ _) ?_)
  generalize hw4 : World.setRow _ _ _ = w4
  have K4 := hid (show Keep (fun i => i = w3.heap.size) w3 w4 from by rw [← hw4]; exact ((Keep.ofQ ((Q.refl w3).alloc _))).setRow _ _ (.inl rfl))
  have X4 := hid (show Box w4 34 w3.heap.size f x y z from by rw [← hw4]; exact G3.out.row_ _ _ _ _)
  clear hw4 G3
  refine (A105.out w4).mono ?_
  rintro e u ⟨rfl, rfl⟩
  clear A105
  obtain ⟨a0, a1, a2, a3, a4, a5, a6, a7, a8, a9, a10, a11, a12⟩ := X4.out.all
  have fr := X4.out.free
  have k0 := (B3.out.keep K4.out (by omega)).c0
  go_wp2_with fail
  clear a0 a1 a2 a3 a4 a5 a6 a7 a8 a9 a10 a11 a12 fr k0
  generalize hw5 : World.setCell _ _ _ = w5
  have K5 := hid (show Keep (fun i => i = w3.heap.size) w3 w5 from by rw [← hw5]; exact (K4.out.setCell _ 1 (.int .i64 0) (.inl rfl)))
  have X5 := hid (X4.out.id_ 0)
  rw [hw5] at X5
  clear hw5 K4 X4
  refine (A97.out w5).mono ?_
  rintro e u ⟨rfl, rfl⟩
  clear A97
  obtain ⟨a0, a1, a2, a3, a4, a5, a6, a7, a8, a9, a10, a11, a12⟩ := X5.out.all
  have fr := X5.out.free
  have k0 := (B3.out.keep K5.out (by omega)).c0
  go_wp2_with fail
  clear a0 a1 a2 a3 a4 a5 a6 a7 a8 a9 a10 a11 a12 fr k0
  generalize hw6 : World.setCell _ _ _ = w6
  have K6 := hid (show Keep (fun i => i = w3.heap.size) w3 w6 from by rw [← hw6]; exact (K5.out.setCell _ 2 (.int .i64 0) (.inl rfl)))
  have X6 := hid (X5.out.pl_ 0)
  rw [hw6] at X6
  clear hw6 K5 X5
  refine (A110.out w6).mono ?_
  rintro e u ⟨rfl, rfl⟩
  clear A110
  obtain ⟨a0, a1, a2, a3, a4, a5, a6, a7, a8, a9, a10, a11, a12⟩ := X6.out.all
  have fr := X6.out.free
  have k0 := (B3.out.keep K6.out (by omega)).c0
  go_wp2_with fail
  clear a0 a1 a2 a3 a4 a5 a6 a7 a8 a9 a10 a11 a12 fr k0
  refine (A99.out w6).mono ?_
  rintro e u ⟨rfl, rfl⟩
  clear A99
  obtain ⟨a0, a1, a2, a3, a4, a5, a6, a7, a8, a9, a10, a11, a12⟩ := X6.out.all
  have fr := X6.out.free
  have k0 := (B3.out.keep K6.out (by omega)).c0
  go_wp2_with fail
  clear a0 a1 a2 a3 a4 a5 a6 a7 a8 a9 a10 a11 a12 fr k0
  generalize hw7 : World.setCell _ _ _ = w7
  have K7 := hid (show Keep (fun i => i = w3.heap.size) w3 w7 from by rw [← hw7]; exact ((K6.out.setCell _ 4 (.int .i64 0) (.inl rfl)).setCell _ 5 (.bool false) (.inl rfl)))
  have X7 := hid ((X6.out.code_ 0).fin0_)
  rw [hw7] at X7
  clear hw7 K6 X6
  refine (A100.out w7).mono ?_
  rintro e u ⟨rfl, rfl⟩
  clear A100
  obtain ⟨a0, a1, a2, a3, a4, a5, a6, a7, a8, a9, a10, a11, a12⟩ := X7.out.all
  have fr := X7.out.free
  have k0 := (B3.out.keep K7.out (by omega)).c0
  go_wp2_with fail
  clear a0 a1 a2 a3 a4 a5 a6 a7 a8 a9 a10 a11 a12 fr k0
  refine (A116.out w7).mono ?_
  rintro e u ⟨rfl, rfl⟩
  clear A116
  obtain ⟨a0, a1, a2, a3, a4, a5, a6, a7, a8, a9, a10, a11, a12⟩ := X7.out.all
  have fr := X7.out.free
  have k0 := (B3.out.keep K7.out (by omega)).c0
  go_wp2_with fail
  clear a0 a1 a2 a3 a4 a5 a6 a7 a8 a9 a10 a11 a12 fr k0
  refine (A112.out w7).mono ?_
  rintro e u ⟨rfl, rfl⟩
  clear A112
  obtain ⟨a0, a1, a2, a3, a4, a5, a6, a7, a8, a9, a10, a11, a12⟩ := X7.out.all
  have fr := X7.out.free
  have k0 := (B3.out.keep K7.out (by omega)).c0
  go_wp2_with fail
  clear a0 a1 a2 a3 a4 a5 a6 a7 a8 a9 a10 a11 a12 fr k0
  generalize hw8 : World.setCell _ _ _ = w8
  have K8 := hid (show Keep (fun i => i = w3.heap.size) w3 w8 from by rw [← hw8]; exact (K7.out.setCell _ 6 (.slice none 0 0) (.inl rfl)))
  have X8 := hid (X7.out.dataN_)
  rw [hw8] at X8
  clear hw8 K7 X7
  refine (A107.out w8).mono ?_
  rintro e u ⟨rfl, rfl⟩
  clear A107
  obtain ⟨a0, a1, a2, a3, a4, a5, a6, a7, a8, a9, a10, a11, a12⟩ := X8.out.all
  have fr := X8.out.free
  have k0 := (B3.out.keep K8.out (by omega)).c0
  go_wp2_with fail
  clear a0 a1 a2 a3 a4 a5 a6 a7 a8 a9 a10 a11 a12 fr k0
  generalize hw9 : World.setCell _ _ _ = w9
  have K9 := hid (show Keep (fun i => i = w3.heap.size) w3 w9 from by rw [← hw9]; exact (K8.out.setCell _ 7 (.slice none 0 0) (.inl rfl)))
  have X9 := hid (X8.out.cidN_)
  rw [hw9] at X9
  clear hw9 K8 X8
  refine (A115.out w9).mono ?_
  rintro e u ⟨rfl, rfl⟩
  clear A115
  obtain ⟨a0, a1, a2, a3, a4, a5, a6, a7, a8, a9, a10, a11, a12⟩ := X9.out.all
  have fr := X9.out.free
  have k0 := (B3.out.keep K9.out (by omega)).c0
  go_wp2_with fail
  clear a0 a1 a2 a3 a4 a5 a6 a7 a8 a9 a10 a11 a12 fr k0
  generalize hw10 : World.setCell _ _ _ = w10
  have K10 := hid (show Keep (fun i => i = w3.heap.size) w3 w10 from by rw [← hw10]; exact ((K9.out.setCell _ 8 (.slice none 0 0) (.inl rfl)).setCell _ 9 (.int .i64 0) (.inl rfl)))
  have X10 := hid (X9.out.spN_.dl_ 0)
  rw [hw10] at X10
  clear hw10 K9 X9
  refine (A101.out w10).mono ?_
  rintro e u ⟨rfl, rfl⟩
  clear A101
  obtain ⟨a0, a1, a2, a3, a4, a5, a6, a7, a8, a9, a10, a11, a12⟩ := X10.out.all
  have fr := X10.out.free
  have k0 := (B3.out.keep K10.out (by omega)).c0
  have RR := hid (R3.out.keep K10.out (by omega))
  have XE := (X10.out.ecn_ 0 0 0).all
  have KE := hid ((((K10.out.setCell _ 10 (.int .i64 0) (.inl rfl)).setCell _ 11 (.int .i64 0) (.inl rfl)).setCell _ 12 (.int .i64 0) (.inl rfl)))
  obtain ⟨e0, e1, e2, e3, e4, e5, e6, e7, e8, e9, e10, e11, e12⟩ := XE
  have RE := hid (R3.out.keep KE.out (by omega))
  go_wp2_with (refine wpList_store_row rfl 34 _ _ rfl (w.heap.size + 1) (fcells { f with id := 0, pl := 0, code := 0, fin := false, data := [], cid := [], sp := [], dl := 0, e0 := 0, e1 := 0, e2 := 0 } nilS nilS nilS) rfl rfl 34 _ RE.out (fcells_info34 _ _ _ _) rfl (fcells_one _ _ _ _) ?_)
  have KF := KE.out.mono (G := fun i => i = w3.heap.size ∨ i = w.heap.size + 1) (fun _ _ e => .inl e)
  have KG := KF.setRow (w.heap.size + 1) (fcells { f with id := 0, pl := 0, code := 0, fin := false, data := [], cid := [], sp := [], dl := 0, e0 := 0, e1 := 0, e2 := 0 } nilS nilS nilS) (.inl (.inr rfl))
  have hq := KG.below Q3.out Q3.out.size (fun i e => by omega)
  have hh : HoldsR w1.heap.size w3 { f with id := 0, pl := 0, code := 0, fin := false, data := [], cid := [], sp := [], dl := 0, e0 := 0, e1 := 0, e2 := 0 } nilS nilS nilS := ⟨(holdsR_nil 0 w3 zf rfl rfl rfl).dr, (holdsR_nil 0 w3 zf rfl rfl rfl).cr, (holdsR_nil 0 w3 zf rfl rfl rfl).sr, (holdsR_nil w1.heap.size w3 zf rfl rfl rfl).nd, (holdsR_nil w1.heap.size w3 zf rfl rfl rfl).nc, (holdsR_nil w1.heap.size w3 zf rfl rfl rfl).ns⟩
  have h4 := hh.keep KG (fun i e => by omega)
  exact ret_frame34 rfl rfl (w.heap.size + 1) 34 _ nilS nilS nilS rfl (RE.out.row_ _ _ _ _) ⟨_, _, _, rfl, hq, h4.dr, h4.cr, h4.sr, h4.nd.mono (by omega), h4.nc.mono (by omega), h4.ns.mono (by omega)⟩
set_option maxHeartbeats 8000000 in
theorem bare_e (f : Fr) (d c s : Sv) (w : World) (h : Fit w f d c s) (hI : itL f.kind = []) (h0 : (f.kind != 0) = true) (h8 : (f.kind != 8) = true) :
    Calls Try.prog 22 #[fv f d c s] w (BareA w { f with id := 0, pl := 0, num := 0, code := 0, fin := false, data := [], cid := [], sp := [], dl := 0, e0 := 0, e1 := 0, e2 := 0 }) := by
  have A105 := hid (has_call (m := 105) (show (itL f.kind).length ≤ 1000 from by rw [hI]; decide) (show hasB (itL f.kind) 105 = false from by rw [hI]; decide))
  have A97 := hid (has_call (m := 97) (show (itL f.kind).length ≤ 1000 from by rw [hI]; decide) (show hasB (itL f.kind) 97 = false from by rw [hI]; decide))
  have A110 := hid (has_call (m := 110) (show (itL f.kind).length ≤ 1000 from by rw [hI]; decide) (show hasB (itL f.kind) 110 = false from by rw [hI]; decide))
  have A99 := hid (has_call (m := 99) (show (itL f.kind).length ≤ 1000 from by rw [hI]; decide) (show hasB (itL f.kind) 99 = false from by rw [hI]; decide))
  have A100 := hid (has_call (m := 100) (show (itL f.kind).length ≤ 1000 from by rw [hI]; decide) (show hasB (itL f.kind) 100 = false from by rw [hI]; decide))
  have A116 := hid (has_call (m := 116) (show (itL f.kind).length ≤ 1000 from by rw [hI]; decide) (show hasB (itL f.kind) 116 = false from by rw [hI]; decide))
  have A112 := hid (has_call (m := 112) (show (itL f.kind).length ≤ 1000 from by rw [hI]; decide) (show hasB (itL f.kind) 112 = false from by rw [hI]; decide))
  have A107 := hid (has_call (m := 107) (show (itL f.kind).length ≤ 1000 from by rw [hI]; decide) (show hasB (itL f.kind) 107 = false from by rw [hI]; decide))
  have A115 := hid (has_call (m := 115) (show (itL f.kind).length ≤ 1000 from by rw [hI]; decide) (show hasB (itL f.kind) 115 = false from by rw [hI]; decide))
  have A101 := hid (has_call (m := 101) (show (itL f.kind).length ≤ 1000 from by rw [hI]; decide) (show hasB (itL f.kind) 101 = false from by rw [hI]; decide))
  have HH := hid h
  clear h hI
  go_enter Try.func22, Try.ntmps22
  go_wp2_with fail
  generalize hw1 : World.alloc (World.alloc w _) _ = w1
  have q1 : Q w w1 := by rw [← hw1]; exact ((Q.refl w).alloc _).alloc _
  have b1 : Box w1 34 w.heap.size f d c s := by rw [← hw1]; exact heap_alloc2_old w _ _
  have r1 : Box w1 34 (w.heap.size + 1) zf nilS nilS nilS := by rw [← hw1]; exact heap_alloc2_new w _ _
  have hsz : w1.heap.size = w.heap.size + 2 := by rw [← hw1]; simp
  clear hw1
  refine (ritems_any f.kind w1).mono ?_
  rintro e u ⟨rfl, rfl⟩
  obtain ⟨a0, a1, a2, a3, a4, a5, a6, a7, a8, a9, a10, a11, a12⟩ := b1.all
  have B1 := hid b1
  have R1 := hid r1
  have Q1 := hid q1
  clear b1 r1 q1
  go_wp2_with fail
  clear a0 a1 a2 a3 a4 a5 a6 a7 a8 a9 a10 a11 a12
  refine (rcopyF_any f d c s w1 (HH.out.q Q1.out)).mono ?_
  rintro e w3 ⟨x, y, z, rfl, q3, hh⟩
  have B3 := hid (B1.out.q q3)
  have R3 := hid (R1.out.q q3)
  have Q3 := hid (Q1.out.trans q3)
  have H3 := hid hh
  have hw3 := q3.size
  clear q3 hh B1 R1 Q1
  have G3 := hid (show Box (w3.alloc (.cells (fcells zf nilS nilS nilS) 34)) 34 w3.heap.size zf nilS nilS nilS from heap_alloc_new w3 _)
  go_wp2_with (refine wpList_store_row rfl 34 _ _ rfl w3.heap.size (fcells f x y z) rfl rfl 34 _ G3.out (fcells_info34 _ _ _ _) rfl (fcells_one _ _ _ _) ?_)
  generalize hw4 : World.setRow _ _ _ = w4
  have K4 := hid (show Keep (fun i => i = w3.heap.size) w3 w4 from by rw [← hw4]; exact ((Keep.ofQ ((Q.refl w3).alloc _))).setRow _ _ (.inl rfl))
  have X4 := hid (show Box w4 34 w3.heap.size f x y z from by rw [← hw4]; exact G3.out.row_ _ _ _ _)
  clear hw4 G3
  refine (A105.out w4).mono ?_
  rintro e u ⟨rfl, rfl⟩
  clear A105
  obtain ⟨a0, a1, a2, a3, a4, a5, a6, a7, a8, a9, a10, a11, a12⟩ := X4.out.all
  have fr := X4.out.free
  have k0 := (B3.out.keep K4.out (by omega)).c0
  go_wp2_with fail
  clear a0 a1 a2 a3 a4 a5 a6 a7 a8 a9 a10 a11 a12 fr k0
  generalize hw5 : World.setCell _ _ _ = w5
  have K5 := hid (show Keep (fun i => i = w3.heap.size) w3 w5 from by rw [← hw5]; exact (K4.out.setCell _ 1 (.int .i64 0) (.inl rfl)))
  have X5 := hid (X4.out.id_ 0)
  rw [hw5] at X5
  clear hw5 K4 X4
  refine (A97.out w5).mono ?_
  rintro e u ⟨rfl, rfl⟩
  clear A97
  obtain ⟨a0, a1, a2, a3, a4, a5, a6, a7, a8, a9, a10, a11, a12⟩ := X5.out.all
  have fr := X5.out.free
  have k0 := (B3.out.keep K5.out (by omega)).c0
  go_wp2_with fail
  clear a0 a1 a2 a3 a4 a5 a6 a7 a8 a9 a10 a11 a12 fr k0
  generalize hw6 : World.setCell _ _ _ = w6
  have K6 := hid (show Keep (fun i => i = w3.heap.size) w3 w6 from by rw [← hw6]; exact (K5.out.setCell _ 2 (.int .i64 0) (.inl rfl)))
  have X6 := hid (X5.out.pl_ 0)
  rw [hw6] at X6
  clear hw6 K5 X5
  refine (A110.out w6).mono ?_
  rintro e u ⟨rfl, rfl⟩
  clear A110
  obtain ⟨a0, a1, a2, a3, a4, a5, a6, a7, a8, a9, a10, a11, a12⟩ := X6.out.all
  have fr := X6.out.free
  have k0 := (B3.out.keep K6.out (by omega)).c0
  go_wp2_with fail
  clear a0 a1 a2 a3 a4 a5 a6 a7 a8 a9 a10 a11 a12 fr k0
  generalize hw7 : World.setCell _ _ _ = w7
  have K7 := hid (show Keep (fun i => i = w3.heap.size) w3 w7 from by rw [← hw7]; exact (K6.out.setCell _ 3 (.int .i64 0) (.inl rfl)))
  have X7 := hid (X6.out.num_ 0)
  rw [hw7] at X7
  clear hw7 K6 X6
  refine (A99.out w7).mono ?_
  rintro e u ⟨rfl, rfl⟩
  clear A99
  obtain ⟨a0, a1, a2, a3, a4, a5, a6, a7, a8, a9, a10, a11, a12⟩ := X7.out.all
  have fr := X7.out.free
  have k0 := (B3.out.keep K7.out (by omega)).c0
  go_wp2_with fail
  clear a0 a1 a2 a3 a4 a5 a6 a7 a8 a9 a10 a11 a12 fr k0
  generalize hw8 : World.setCell _ _ _ = w8
  have K8 := hid (show Keep (fun i => i = w3.heap.size) w3 w8 from by rw [← hw8]; exact ((K7.out.setCell _ 4 (.int .i64 0) (.inl rfl)).setCell _ 5 (.bool false) (.inl rfl)))
  have X8 := hid ((X7.out.code_ 0).fin0_)
  rw [hw8] at X8
  clear hw8 K7 X7
  refine (A100.out w8).mono ?_
  rintro e u ⟨rfl, rfl⟩
  clear A100
  obtain ⟨a0, a1, a2, a3, a4, a5, a6, a7, a8, a9, a10, a11, a12⟩ := X8.out.all
  have fr := X8.out.free
  have k0 := (B3.out.keep K8.out (by omega)).c0
  go_wp2_with fail
  clear a0 a1 a2 a3 a4 a5 a6 a7 a8 a9 a10 a11 a12 fr k0
  refine (A116.out w8).mono ?_
  rintro e u ⟨rfl, rfl⟩
  clear A116
  obtain ⟨a0, a1, a2, a3, a4, a5, a6, a7, a8, a9, a10, a11, a12⟩ := X8.out.all
  have fr := X8.out.free
  have k0 := (B3.out.keep K8.out (by omega)).c0
  go_wp2_with fail
  clear a0 a1 a2 a3 a4 a5 a6 a7 a8 a9 a10 a11 a12 fr k0
  refine (A112.out w8).mono ?_
  rintro e u ⟨rfl, rfl⟩
  clear A112
  obtain ⟨a0, a1, a2, a3, a4, a5, a6, a7, a8, a9, a10, a11, a12⟩ := X8.out.all
  have fr := X8.out.free
  have k0 := (B3.out.keep K8.out (by omega)).c0
  go_wp2_with fail
  clear a0 a1 a2 a3 a4 a5 a6 a7 a8 a9 a10 a11 a12 fr k0
  generalize hw9 : World.setCell _ _ _ = w9
  have K9 := hid (show Keep (fun i => i = w3.heap.size) w3 w9 from by rw [← hw9]; exact (K8.out.setCell _ 6 (.slice none 0 0) (.inl rfl)))
  have X9 := hid (X8.out.dataN_)
  rw [hw9] at X9
  clear hw9 K8 X8
  refine (A107.out w9).mono ?_
  rintro e u ⟨rfl, rfl⟩
  clear A107
  obtain ⟨a0, a1, a2, a3, a4, a5, a6, a7, a8, a9, a10, a11, a12⟩ := X9.out.all
  have fr := X9.out.free
  have k0 := (B3.out.keep K9.out (by omega)).c0
  go_wp2_with fail
  clear a0 a1 a2 a3 a4 a5 a6 a7 a8 a9 a10 a11 a12 fr k0
  generalize hw10 : World.setCell _ _ _ = w10
  have K10 := hid (show Keep (fun i => i = w3.heap.size) w3 w10 from by rw [← hw10]; exact (K9.out.setCell _ 7 (.slice none 0 0) (.inl rfl)))
  have X10 := hid (X9.out.cidN_)
  rw [hw10] at X10
  clear hw10 K9 X9
  refine (A115.out w10).mono ?_
  rintro e u ⟨rfl, rfl⟩
  clear A115
  obtain ⟨a0, a1, a2, a3, a4, a5, a6, a7, a8, a9, a10, a11, a12⟩ := X10.out.all
  have fr := X10.out.free
  have k0 := (B3.out.keep K10.out (by omega)).c0
  go_wp2_with fail
  clear a0 a1 a2 a3 a4 a5 a6 a7 a8 a9 a10 a11 a12 fr k0
  generalize hw11 : World.setCell _ _ _ = w11
  have K11 := hid (show Keep (fun i => i = w3.heap.size) w3 w11 from by rw [← hw11]; exact ((K10.out.setCell _ 8 (.slice none 0 0) (.inl rfl)).setCell _ 9 (.int .i64 0) (.inl rfl)))
  have X11 := hid (X10.out.spN_.dl_ 0)
  rw [hw11] at X11
  clear hw11 K10 X10
  refine (A101.out w11).mono ?_
  rintro e u ⟨rfl, rfl⟩
  clear A101
  obtain ⟨a0, a1, a2, a3, a4, a5, a6, a7, a8, a9, a10, a11, a12⟩ := X11.out.all
  have fr := X11.out.free
  have k0 := (B3.out.keep K11.out (by omega)).c0
  have RR := hid (R3.out.keep K11.out (by omega))
  have XE := (X11.out.ecn_ 0 0 0).all
  have KE := hid ((((K11.out.setCell _ 10 (.int .i64 0) (.inl rfl)).setCell _ 11 (.int .i64 0) (.inl rfl)).setCell _ 12 (.int .i64 0) (.inl rfl)))
  obtain ⟨e0, e1, e2, e3, e4, e5, e6, e7, e8, e9, e10, e11, e12⟩ := XE
  have RE := hid (R3.out.keep KE.out (by omega))
  go_wp2_with (refine wpList_store_row rfl 34 _ _ rfl (w.heap.size + 1) (fcells { f with id := 0, pl := 0, num := 0, code := 0, fin := false, data := [], cid := [], sp := [], dl := 0, e0 := 0, e1 := 0, e2 := 0 } nilS nilS nilS) rfl rfl 34 _ RE.out (fcells_info34 _ _ _ _) rfl (fcells_one _ _ _ _) ?_)
  have KF := KE.out.mono (G := fun i => i = w3.heap.size ∨ i = w.heap.size + 1) (fun _ _ e => .inl e)
  have KG := KF.setRow (w.heap.size + 1) (fcells { f with id := 0, pl := 0, num := 0, code := 0, fin := false, data := [], cid := [], sp := [], dl := 0, e0 := 0, e1 := 0, e2 := 0 } nilS nilS nilS) (.inl (.inr rfl))
  have hq := KG.below Q3.out Q3.out.size (fun i e => by omega)
  have hh : HoldsR w1.heap.size w3 { f with id := 0, pl := 0, num := 0, code := 0, fin := false, data := [], cid := [], sp := [], dl := 0, e0 := 0, e1 := 0, e2 := 0 } nilS nilS nilS := ⟨(holdsR_nil 0 w3 zf rfl rfl rfl).dr, (holdsR_nil 0 w3 zf rfl rfl rfl).cr, (holdsR_nil 0 w3 zf rfl rfl rfl).sr, (holdsR_nil w1.heap.size w3 zf rfl rfl rfl).nd, (holdsR_nil w1.heap.size w3 zf rfl rfl rfl).nc, (holdsR_nil w1.heap.size w3 zf rfl rfl rfl).ns⟩
  have h4 := hh.keep KG (fun i e => by omega)
  exact ret_frame34 rfl rfl (w.heap.size + 1) 34 _ nilS nilS nilS rfl (RE.out.row_ _ _ _ _) ⟨_, _, _, rfl, hq, h4.dr, h4.cr, h4.sr, h4.nd.mono (by omega), h4.nc.mono (by omega), h4.ns.mono (by omega)⟩
end Go.Proofs.Ytdoodbaogmdloaa
