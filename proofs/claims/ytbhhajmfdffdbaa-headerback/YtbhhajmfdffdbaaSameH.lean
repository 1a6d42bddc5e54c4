/-
  What the law's of and the document's Same do at headers that are the same: contracts that the statements' walks use.
-/
import Derived.Test.YtbhhajmfdffdbaaHd
import Derived.Test.YtbhhajmfdffdbaaLong
import Derived.Test.YtbhhajmfdffdbaaRef
namespace Go.Proofs.Ytbhhajmfdffdbaa
open Go.RowKit
set_option linter.unusedVariables false
set_option maxRecDepth 20000

set_option maxHeartbeats 1000000 in
theorem of_any (H : Hd) (d s t v : Sv) (w : World) : Calls Try.prog 14 #[hv H d s t v] w fun e w' => e = .returned (hv H d s t v) ∧ Q w w' := by
  go_enter Try.func14, Try.ntmps14
  go_wp2
  refine ret_hd30 rfl rfl (w.heap.size + 1) 30 H d s t v rfl ?_ ⟨rfl, ((Q.refl w).alloc _).alloc _⟩
  exact heap_alloc2_new w _ _
/-- What a header's slices hold. -/
structure Reads (w : World) (h : Hd) (d s t v : Sv) : Prop where
  ds : Seg w d.a h.dst
  ss : Seg w s.a h.src
  ts : Seg w t.a h.tok
  vs : SegN w v.a h.vers
  dl : h.dst.length = d.n
  sl : h.src.length = s.n
  tl : h.tok.length = t.n
  vl : h.vers.length = v.n
theorem Holds.reads {B : Nat} {w : World} {h : Hd} {d s t v : Sv} (x : Holds B w h d s t v) : Reads w h d s t v := ⟨x.dr.seg, x.sr.seg, x.tr.seg, x.vr.seg, Row.len x.dr, Row.len x.sr, Row.len x.tr, RowN.len x.vr⟩
theorem Reads.q {w w' : World} {h : Hd} {d s t v : Sv} (x : Reads w h d s t v) (k : Q w w') : Reads w' h d s t v := ⟨x.ds.q k, x.ss.q k, x.ts.q k, x.vs.q k, x.dl, x.sl, x.tl, x.vl⟩
theorem same_yes (a1 a2 : Option Addr) (n c1 c2 : Nat) (xs : List Int) (w : World) (l1 : xs.length = n) (b1 : n ≤ 140737488355328) (h1 : Seg w a1 xs) (h2 : Seg w a2 xs) :
    Calls Try.prog 15 #[.slice a1 n c1, .slice a2 n c2] w fun e w' => e = .returned (.bool true) ∧ Q w w' := by
  refine (same_any a1 a2 n n c1 c2 xs xs w l1 l1 (by omega) (by omega) h1 h2).mono ?_
  rintro e w' ⟨rfl, h⟩
  exact ⟨by simp, h⟩
set_option maxHeartbeats 4000000 in
theorem sameH_any (H : Hd) (d s t v d' s' t' v' : Sv) (w : World) (x : Reads w H d s t v) (y : Reads w H d' s' t' v') (hb : d.n ≤ 140737488355328 ∧ s.n ≤ 140737488355328 ∧ t.n ≤ 140737488355328 ∧ v.n ≤ 140737488355328) :
    Calls Try.prog 13 #[hv H d s t v, hv H d' s' t' v'] w fun e w' => e = .returned (.bool true) ∧ Q w w' := by
  obtain ⟨kd, ve, dl, sl, tl, vl, ln⟩ := H
  obtain ⟨da, dn, dc⟩ := d
  obtain ⟨sa, sn, sc⟩ := s
  obtain ⟨ta, tn, tc⟩ := t
  obtain ⟨va, vn, vc⟩ := v
  obtain ⟨da', dn', dc'⟩ := d'
  obtain ⟨sa', sn', sc'⟩ := s'
  obtain ⟨ta', tn', tc'⟩ := t'
  obtain ⟨va', vn', vc'⟩ := v'
  have e1 := x.dl
  have e2 := x.sl
  have e3 := x.tl
  have e4 := x.vl
  have f1 := y.dl
  have f2 := y.sl
  have f3 := y.tl
  have f4 := y.vl
  dsimp only at *
  obtain rfl : dn = dn' := by omega
  obtain rfl : sn = sn' := by omega
  obtain rfl : tn = tn' := by omega
  obtain rfl : vn = vn' := by omega
  obtain ⟨hb1, hb2, hb3, hb4⟩ := hb
  have HW := hid (show ∀ W, W = (w.alloc (.cells (hcells ⟨kd, ve, dl, sl, tl, vl, ln⟩ ⟨da, dn, dc⟩ ⟨sa, sn, sc⟩ ⟨ta, tn, tc⟩ ⟨va, vn, vc⟩) 30)).alloc (.cells (hcells ⟨kd, ve, dl, sl, tl, vl, ln⟩ ⟨da', dn, dc'⟩ ⟨sa', sn, sc'⟩ ⟨ta', tn, tc'⟩ ⟨va', vn, vc'⟩) 30) → Q w W ∧ Box W 30 w.heap.size ⟨kd, ve, dl, sl, tl, vl, ln⟩ ⟨da, dn, dc⟩ ⟨sa, sn, sc⟩ ⟨ta, tn, tc⟩ ⟨va, vn, vc⟩ ∧ Box W 30 (w.heap.size + 1) ⟨kd, ve, dl, sl, tl, vl, ln⟩ ⟨da', dn, dc'⟩ ⟨sa', sn, sc'⟩ ⟨ta', tn, tc'⟩ ⟨va', vn, vc'⟩ from by
    rintro W rfl
    exact ⟨((Q.refl w).alloc _).alloc _, heap_alloc2_old w _ _, heap_alloc2_new w _ _⟩)
  have HX := hid x
  have HY := hid y
  have E1 := hid e1
  have E2 := hid e2
  have E3 := hid e3
  have E4 := hid e4
  clear x y e1 e2 e3 e4 f1 f2 f3 f4
  go_enter Try.func13, Try.ntmps13
  go_wp2
  generalize hw1 : World.alloc (World.alloc w _) _ = w1
  obtain ⟨q1, b1, b2⟩ := HW.out w1 hw1.symm
  have g2 := b1.c2
  have g3 := b1.c3
  have g4 := b1.c4
  have g5 := b1.c5
  have k2 := b2.c2
  have k3 := b2.c3
  have k4 := b2.c4
  have k5 := b2.c5
  have Q1 := hid q1
  clear hw1 HW q1 b1 b2
  go_loopw [5] (fun i wr => ∃ j : Nat, j ≤ vn ∧ i = .int .i64 j ∧ ∃ k, wr = w1.drewN k) (fun i _ => ((vn : Int) - intOf i).toNat)
  case atStart => exact ⟨0, Nat.zero_le _, rfl, 0, rfl⟩
  case round =>
    obtain ⟨j, hj, rfl, k, rfl⟩ := hrel
    by_cases hjn : j < vn
    · have hji : (j : Int) < (vn : Int) := by omega
      have hne : vl ≠ [] := by intro e; have := E4.out; rw [e] at this; simp at this; omega
      obtain ⟨bb, off, rfl, hc⟩ := HX.out.vs hne
      obtain ⟨bb', off', rfl, hc'⟩ := HY.out.vs hne
      have hc1 := hc j (by show j < vl.length; have := E4.out; omega)
      have hc2 := hc' j (by show j < vl.length; have := E4.out; omega)
      rw [← Q1.out.cell (lt_of_cell hc1)] at hc1
      rw [← Q1.out.cell (lt_of_cell hc2)] at hc2
      generalize vl.getD j 0 = y at *
      clear hc hc' hne
      go_wp2
      go_quiet (fail)
      go_wp2
      go_roundw
      case rel => exact ⟨j + 1, by omega, by go_num, _, rfl⟩
      case measure => simp [intOf]; omega
    · obtain rfl : j = vn := by omega
      have hji : ¬ (j : Int) < (j : Int) := by omega
      have qk : Q w (w1.drewN k) := Q1.out.drewN k
      have HQ := hid qk
      have A1 := hid (fun u (hu : Q w u) => same_yes da da' dn dc dc' dl u E1.out (by omega) (HX.out.ds.q hu) (HY.out.ds.q hu))
      have A2 := hid (fun u (hu : Q w u) => same_yes sa sa' sn sc sc' sl u E2.out (by omega) (HX.out.ss.q hu) (HY.out.ss.q hu))
      have A3 := hid (fun u (hu : Q w u) => same_yes ta ta' tn tc tc' tl u E3.out (by omega) (HX.out.ts.q hu) (HY.out.ts.q hu))
      have hlt := lt_of_cell g2
      have hlt2 := lt_of_cell k2
      go_wp2_with fail
      refine (A1.out _ HQ.out).mono ?_
      rintro e w2 ⟨rfl, hq2⟩
      have HQ2 := hid (HQ.out.trans hq2)
      have n3 : w2.cell? ⟨w.heap.size, 3, none⟩ = some (.slice sa sn sc) := (hq2.cell (p := ⟨w.heap.size, 3, none⟩) hlt).trans g3
      have n4 : w2.cell? ⟨w.heap.size, 4, none⟩ = some (.slice ta tn tc) := (hq2.cell (p := ⟨w.heap.size, 4, none⟩) hlt).trans g4
      have m3 : w2.cell? ⟨w.heap.size + 1, 3, none⟩ = some (.slice sa' sn sc') := (hq2.cell (p := ⟨w.heap.size + 1, 3, none⟩) hlt2).trans k3
      have m4 : w2.cell? ⟨w.heap.size + 1, 4, none⟩ = some (.slice ta' tn tc') := (hq2.cell (p := ⟨w.heap.size + 1, 4, none⟩) hlt2).trans k4
      have l2 := hq2.size
      clear hq2
      go_wp2_with fail
      refine (A2.out _ HQ2.out).mono ?_
      rintro e w3 ⟨rfl, hq3⟩
      have HQ3 := hid (HQ2.out.trans hq3)
      have o4 : w3.cell? ⟨w.heap.size, 4, none⟩ = some (.slice ta tn tc) := (hq3.cell (p := ⟨w.heap.size, 4, none⟩) (lt_of_cell n4)).trans n4
      have p4 : w3.cell? ⟨w.heap.size + 1, 4, none⟩ = some (.slice ta' tn tc') := (hq3.cell (p := ⟨w.heap.size + 1, 4, none⟩) (lt_of_cell m4)).trans m4
      clear hq3
      go_wp2_with fail
      refine (A3.out _ HQ3.out).mono ?_
      rintro e w4 ⟨rfl, hq4⟩
      have HQ4 := hid (HQ3.out.trans hq4)
      clear hq4
      go_wp2
      go_ret
      exact ⟨by first | rfl | simp, HQ4.out⟩
end Go.Proofs.Ytbhhajmfdffdbaa
