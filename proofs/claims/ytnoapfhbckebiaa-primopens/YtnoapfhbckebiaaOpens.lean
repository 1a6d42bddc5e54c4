/-
  Opening undoes sealing; and with any other bytes in the place of the tag it is refused.
-/
import Derived.Test.YtnoapfhbckebiaaRows
import Derived.Test.YtnoapfhbckebiaaAwake
import Derived.Test.YtnoapfhbckebiaaOpn
import Derived.Test.YtnoapfhbckebiaaOpM
import Derived.Test.YtnoapfhbckebiaaRTxt
import Derived.Test.YtnoapfhbckebiaaOpenB
import Derived.WalkKit
import Derived.ProofKit
import Derived.OpenShut
import Derived.ShutString
import Derived.ChangeOld
import Derived.Below
import Derived.SizedLaws
namespace Go.Proofs.Ytnoapfhbckebiaa.primOpens
open Go.ChangeShapes Go.WideShapes Go.ChangeAt Go.RowKit
open Go.ChangeMaps (open_string shut_string)
set_option linter.unusedVariables false

set_option maxRecDepth 20000
theorem same_rows {w : World} {x y : Sv} {zs : List Int} (hx : In w x zs) (hy : In w y zs) (hb : x.n ≤ 140737488355328) :
    Calls Try.prog 12 #[.slice x.a x.n x.c, .slice y.a y.n y.c] w fun e w' => e = .returned (.bool true) ∧ Q w w' := by
  refine (same_any x.a y.a x.n y.n x.c y.c zs zs w hx.l hy.l (by omega) (by have := hx.l; have := hy.l; omega) hx.s hy.s).mono ?_
  rintro e w' ⟨rfl, h⟩
  exact ⟨by simp, h⟩
theorem dcell {W : World} {p : Addr} {v : Value} (h : W.cell? p = some v) : W.drew.cell? p = some v := h
theorem in2 {w : World} {x0 x1 : Sv} {z0 z1 : List Int} (h0 : In w x0 z0) (h1 : In w x1 z1) : ∀ j, j < [x0, x1].length → In w ([x0, x1].getD j nilS) ([z0, z1].getD j []) := by
  intro j hj
  rcases (show j = 0 ∨ j = 1 by simp at hj; omega) with rfl | rfl
  · exact h0
  · exact h1
/-- Join of pieces that the caller laid in a row some while ago. -/
theorem join_q (X W : World) (xs : List Sv) (hq : Q (X.alloc (.cells (pcs xs) 22)) W) (zss : List (List Int)) (hl : zss.length = xs.length) (h : ∀ j, j < xs.length → In W (xs.getD j nilS) (zss.getD j [])) (hm : xs.length ≤ 100) (ht : zss.flatten.length ≤ 1000000) :
    Calls Try.prog 22 #[.slice (some ⟨X.heap.size, 0, none⟩) xs.length xs.length] W fun e w' => ∃ x : Sv, e = .returned (.slice x.a x.n x.c) ∧ Q W w' ∧ In w' x zss.flatten ∧ Row w' x zss.flatten ∧ New W.heap.size x := by
  have e : cat (fun j => zss.getD j []) xs.length = zss.flatten := by rw [cat_flat, ← hl, List.take_length]
  refine (join_any X.heap.size xs.length xs.length (fun j => xs.getD j nilS) (fun j => zss.getD j []) W (by
      intro j hj
      have hc : (X.alloc (.cells (pcs xs) 22)).cell? ⟨X.heap.size, j, none⟩ = some (.slice (xs.getD j nilS).a (xs.getD j nilS).n (xs.getD j nilS).c) := by
        rw [cell_lit]
        simp [List.getD_eq_getElem?_getD, hj]
      rw [hq.cell (lt_of_cell hc)]; exact hc) (fun j hj => ⟨(h j hj).s, (h j hj).l⟩) hm (by rw [e]; exact ht)).mono ?_
  rintro r w1 ⟨x, rfl, q1, r1, n1⟩
  rw [e] at r1
  refine ⟨x, rfl, q1, ⟨r1.seg, Row.len r1, ?_⟩, r1, n1⟩
  intro y hy
  obtain ⟨zs, hzs, hy⟩ := List.mem_flatten.1 hy
  obtain ⟨j, hj, rfl⟩ := List.getElem_of_mem hzs
  have := (h j (by omega)).z
  rw [List.getD_eq_getElem?_getD, List.getElem?_eq_getElem hj] at this
  exact this y hy
theorem Row.cap {w : World} {x : Sv} {zs : List Int} (h : Row w x zs) : x.n ≤ x.c := by
  rcases h.2 with ⟨_, h1, h2⟩ | ⟨g, off, cur, _, _, h1, _⟩ <;> omega
set_option maxHeartbeats 16000000 in
theorem walk (k n a d o : Sv) (ks ns az ds os : List Int) (w : World) (hb : Bx w k n a d ks ns az ds) (ho : In w o os) (bk : k.n ≤ 140737488351232) (bn : n.n ≤ 140737488351232) (ba : a.n ≤ 140737488351232) (bd : d.n ≤ 140737488351232) (bo : o.n ≤ 140737488351232) :
    Calls Try.prog 6 #[.agg (bcells k n a d), .slice o.a o.n o.c] w fun r w' => r = .returned (.bool true) ∧ Below w.heap.size w w' := by
  have HB := hid hb
  have HO := hid ho
  clear hb ho
  obtain ⟨ka, kn, kc⟩ := k
  obtain ⟨na, nn, nc⟩ := n
  obtain ⟨aa, an, ac⟩ := a
  obtain ⟨da, dn, dc⟩ := d
  obtain ⟨oa, on_, oc⟩ := o
  dsimp only at bk bn ba bd bo
  have Lk := hid (show ks.length = kn from HB.out.ik.l)
  have Ln := hid (show ns.length = nn from HB.out.in_.l)
  have La := hid (show az.length = an from HB.out.ia.l)
  have Ld := hid (show ds.length = dn from HB.out.id_.l)
  have Zk := hid HB.out.ik.z
  have Zn := hid HB.out.in_.z
  have Za := hid HB.out.ia.z
  have Zd := hid HB.out.id_.z
  go_enter Try.func6, Try.ntmps6
  go_wp2_with fail
  generalize hw1 : World.alloc w _ = w1
  have q1 : Q w w1 := by rw [← hw1]; exact (Q.refl w).alloc _
  have hh : w1.heap[w.heap.size]? = some (.cells (bcells ⟨ka, kn, kc⟩ ⟨na, nn, nc⟩ ⟨aa, an, ac⟩ ⟨da, dn, dc⟩) 36 (0, 0)) := by rw [← hw1]; exact heap_alloc_new w _
  have hbx := lt_of_block hh
  have w10 : w1.cell? ⟨w.heap.size, 0, none⟩ = some (.slice ka kn kc) := by rw [cell_of_row w1 _ 0 _ 36 (0, 0) hh]; rfl
  have w11 : w1.cell? ⟨w.heap.size, 1, none⟩ = some (.slice na nn nc) := by rw [cell_of_row w1 _ 1 _ 36 (0, 0) hh]; rfl
  have w12 : w1.cell? ⟨w.heap.size, 2, none⟩ = some (.slice aa an ac) := by rw [cell_of_row w1 _ 2 _ 36 (0, 0) hh]; rfl
  have w13 : w1.cell? ⟨w.heap.size, 3, none⟩ = some (.slice da dn dc) := by rw [cell_of_row w1 _ 3 _ 36 (0, 0) hh]; rfl
  have B1 := hid (HB.out.q q1)
  have O1 := hid (HO.out.q q1)
  have Q1 := hid q1
  clear hw1 hh q1 HB HO
  generalize w.heap.size = bx at *
  have s1 : Q w1 w1 := Q.refl _
  have C1k := hid (fun u (hu : Q w1 u) => rcopy_any ka kn kc ks u Lk.out (by omega) (B1.out.ik.s.q hu))
  have C1n := hid (fun u (hu : Q w1 u) => rcopy_any na nn nc ns u Ln.out (by omega) (B1.out.in_.s.q hu))
  have C1a := hid (fun u (hu : Q w1 u) => rcopy_any aa an ac az u La.out (by omega) (B1.out.ia.s.q hu))
  have C1d := hid (fun u (hu : Q w1 u) => rcopy_any da dn dc ds u Ld.out (by omega) (B1.out.id_.s.q hu))
  go_region_held3 (fun u => Q w1 u ∧ u.cell? ⟨bx, 0, none⟩ = some (.slice ka kn kc) ∧ u.cell? ⟨bx, 1, none⟩ = some (.slice na nn nc) ∧ u.cell? ⟨bx, 2, none⟩ = some (.slice aa an ac) ∧ u.cell? ⟨bx, 3, none⟩ = some (.slice da dn dc)) (repeat (first | assumption | apply And.intro | apply Q.drew | apply Q.drewN | apply Q.alloc | refine dcell ?_ | refine Lib.cell?_alloc_marked _ ?_ | (simp [go_sem, *]; done)))
    (first
      | (go_at_call 9; have t_ := I1a.out; clear t_; refine (C1d.out _ (by repeat (first | assumption | exact Q.refl _ | apply Q.drew | apply Q.drewN | apply Q.alloc))).mono ?_; rintro e w1d ⟨g1d, rfl, q1d, o1d, lw1d⟩; have j1d : Q w1 w1d := Q.trans (by repeat (first | assumption | exact Q.refl _ | apply Q.drew | apply Q.drewN | apply Q.alloc)) q1d; have w1d0 : w1d.cell? ⟨bx, 0, none⟩ = some (.slice ka kn kc) := (j1d.cell (p := ⟨bx, 0, none⟩) hbx).trans w10; have w1d1 : w1d.cell? ⟨bx, 1, none⟩ = some (.slice na nn nc) := (j1d.cell (p := ⟨bx, 1, none⟩) hbx).trans w11; have w1d2 : w1d.cell? ⟨bx, 2, none⟩ = some (.slice aa an ac) := (j1d.cell (p := ⟨bx, 2, none⟩) hbx).trans w12; have w1d3 : w1d.cell? ⟨bx, 3, none⟩ = some (.slice da dn dc) := (j1d.cell (p := ⟨bx, 3, none⟩) hbx).trans w13; have I1d := hid (show In w1d ⟨some ⟨g1d, 0, none⟩, dn, dn⟩ ds from ⟨o1d.seg, Ld.out, Zd.out⟩); clear o1d lw1d)
      | (go_at_call 9; have t_ := I1n.out; clear t_; refine (C1a.out _ (by repeat (first | assumption | exact Q.refl _ | apply Q.drew | apply Q.drewN | apply Q.alloc))).mono ?_; rintro e w1a ⟨g1a, rfl, q1a, o1a, lw1a⟩; have j1a : Q w1 w1a := Q.trans (by repeat (first | assumption | exact Q.refl _ | apply Q.drew | apply Q.drewN | apply Q.alloc)) q1a; have w1a0 : w1a.cell? ⟨bx, 0, none⟩ = some (.slice ka kn kc) := (j1a.cell (p := ⟨bx, 0, none⟩) hbx).trans w10; have w1a1 : w1a.cell? ⟨bx, 1, none⟩ = some (.slice na nn nc) := (j1a.cell (p := ⟨bx, 1, none⟩) hbx).trans w11; have w1a2 : w1a.cell? ⟨bx, 2, none⟩ = some (.slice aa an ac) := (j1a.cell (p := ⟨bx, 2, none⟩) hbx).trans w12; have w1a3 : w1a.cell? ⟨bx, 3, none⟩ = some (.slice da dn dc) := (j1a.cell (p := ⟨bx, 3, none⟩) hbx).trans w13; have I1a := hid (show In w1a ⟨some ⟨g1a, 0, none⟩, an, an⟩ az from ⟨o1a.seg, La.out, Za.out⟩); clear o1a lw1a)
      | (go_at_call 9; have t_ := I1k.out; clear t_; refine (C1n.out _ (by repeat (first | assumption | exact Q.refl _ | apply Q.drew | apply Q.drewN | apply Q.alloc))).mono ?_; rintro e w1n ⟨g1n, rfl, q1n, o1n, lw1n⟩; have j1n : Q w1 w1n := Q.trans (by repeat (first | assumption | exact Q.refl _ | apply Q.drew | apply Q.drewN | apply Q.alloc)) q1n; have w1n0 : w1n.cell? ⟨bx, 0, none⟩ = some (.slice ka kn kc) := (j1n.cell (p := ⟨bx, 0, none⟩) hbx).trans w10; have w1n1 : w1n.cell? ⟨bx, 1, none⟩ = some (.slice na nn nc) := (j1n.cell (p := ⟨bx, 1, none⟩) hbx).trans w11; have w1n2 : w1n.cell? ⟨bx, 2, none⟩ = some (.slice aa an ac) := (j1n.cell (p := ⟨bx, 2, none⟩) hbx).trans w12; have w1n3 : w1n.cell? ⟨bx, 3, none⟩ = some (.slice da dn dc) := (j1n.cell (p := ⟨bx, 3, none⟩) hbx).trans w13; have I1n := hid (show In w1n ⟨some ⟨g1n, 0, none⟩, nn, nn⟩ ns from ⟨o1n.seg, Ln.out, Zn.out⟩); clear o1n lw1n)
      | (go_at_call 9; refine (C1k.out _ (by repeat (first | assumption | exact Q.refl _ | apply Q.drew | apply Q.drewN | apply Q.alloc))).mono ?_; rintro e w1k ⟨g1k, rfl, q1k, o1k, lw1k⟩; have j1k : Q w1 w1k := Q.trans (by repeat (first | assumption | exact Q.refl _ | apply Q.drew | apply Q.drewN | apply Q.alloc)) q1k; have w1k0 : w1k.cell? ⟨bx, 0, none⟩ = some (.slice ka kn kc) := (j1k.cell (p := ⟨bx, 0, none⟩) hbx).trans w10; have w1k1 : w1k.cell? ⟨bx, 1, none⟩ = some (.slice na nn nc) := (j1k.cell (p := ⟨bx, 1, none⟩) hbx).trans w11; have w1k2 : w1k.cell? ⟨bx, 2, none⟩ = some (.slice aa an ac) := (j1k.cell (p := ⟨bx, 2, none⟩) hbx).trans w12; have w1k3 : w1k.cell? ⟨bx, 3, none⟩ = some (.slice da dn dc) := (j1k.cell (p := ⟨bx, 3, none⟩) hbx).trans w13; have I1k := hid (show In w1k ⟨some ⟨g1k, 0, none⟩, kn, kn⟩ ks from ⟨o1k.seg, Lk.out, Zk.out⟩); clear o1k lw1k)
      | (go_at_call 17; refine (seal_any ⟨some ⟨g1k, 0, none⟩, kn, kn⟩ ⟨some ⟨g1n, 0, none⟩, nn, nn⟩ ⟨some ⟨g1a, 0, none⟩, an, an⟩ ⟨some ⟨g1d, 0, none⟩, dn, dn⟩ ks ns az ds _ (I1k.out.q (by repeat (first | exact Q.refl _ | apply Q.drew | apply Q.drewN | apply Q.alloc | (refine Q.trans ?_ q1d) | (refine Q.trans ?_ q1a) | (refine Q.trans ?_ q1n) | (refine Q.trans ?_ q1k)))) (I1n.out.q (by repeat (first | exact Q.refl _ | apply Q.drew | apply Q.drewN | apply Q.alloc | (refine Q.trans ?_ q1d) | (refine Q.trans ?_ q1a) | (refine Q.trans ?_ q1n) | (refine Q.trans ?_ q1k)))) (I1a.out.q (by repeat (first | exact Q.refl _ | apply Q.drew | apply Q.drewN | apply Q.alloc | (refine Q.trans ?_ q1d) | (refine Q.trans ?_ q1a) | (refine Q.trans ?_ q1n) | (refine Q.trans ?_ q1k)))) (I1d.out.q (by repeat (first | exact Q.refl _ | apply Q.drew | apply Q.drewN | apply Q.alloc | (refine Q.trans ?_ q1d) | (refine Q.trans ?_ q1a) | (refine Q.trans ?_ q1n) | (refine Q.trans ?_ q1k)))) (by show dn ≤ _; omega)).mono ?_; rintro e w2 ⟨⟨sa, sn, sc⟩, rfl, q2, r2, n2⟩; have j2 : Q w1 w2 := Q.trans (by repeat (first | assumption | exact Q.refl _ | apply Q.drew | apply Q.drewN | apply Q.alloc)) q2; have w20 : w2.cell? ⟨bx, 0, none⟩ = some (.slice ka kn kc) := (j2.cell (p := ⟨bx, 0, none⟩) hbx).trans w10; have w21 : w2.cell? ⟨bx, 1, none⟩ = some (.slice na nn nc) := (j2.cell (p := ⟨bx, 1, none⟩) hbx).trans w11; have w22 : w2.cell? ⟨bx, 2, none⟩ = some (.slice aa an ac) := (j2.cell (p := ⟨bx, 2, none⟩) hbx).trans w12; have w23 : w2.cell? ⟨bx, 3, none⟩ = some (.slice da dn dc) := (j2.cell (p := ⟨bx, 3, none⟩) hbx).trans w13; have R2 := hid r2; clear r2 n2))
  clear s1
  clear C1k q1k j1k I1k w1k0 w1k1 w1k2 w1k3 C1n q1n j1n I1n w1n0 w1n1 w1n2 w1n3 C1a q1a j1a I1a w1a0 w1a1 w1a2 w1a3 C1d q1d j1d I1d w1d0 w1d1 w1d2 w1d3
  have Q2 := hid (Q1.out.trans j2)
  have B2 := hid (B1.out.q j2)
  have O2 := hid (O1.out.q j2)
  have hb2 : bx < w2.heap.size := lt_of_cell w20
  clear w10 w11 w12 w13 hbx B1 O1 Q1 j2 q2
  try dsimp only at R2
  try dsimp only
  generalize hE : chkE kn nn an dn = E at *
  have HE := hid hE
  clear hE
  by_cases hE0 : E = 0
  · subst hE0
    rw [if_pos rfl] at R2
    have hok := chk_ok HE.out
    obtain ⟨hk1, hn1, ha1, hd1⟩ := hok
    have hsn : sn = dn + 16 := by have h1 : (sealL ks ns az ds).length = sn := Row.len R2.out; rw [sealL_len, Ld.out] at h1; omega
    subst hsn
    obtain ⟨sb_, so, e, _, _⟩ := Sub.some_ R2.out (by show 0 < dn + 16; omega)
    dsimp only at e
    subst e
    have hcap : dn + 16 ≤ sc := by
      rcases R2.out.2 with ⟨h1, _⟩ | ⟨g, off, cur, _, _, h1, _⟩
      · cases h1
      · exact h1
    have SS := hid (show Seg w2 (some ⟨sb_, so, none⟩) (sealL ks ns az ds) from Row.seg R2.out)
    have Ls := hid (show (sealL ks ns az ds).length = dn + 16 from by rw [sealL_len, Ld.out])
    have Zs := hid (sealL_lt (ks := ks) (ns := ns) (az := az) Zd.out)
    have HCH := hid (show chkE ks.length ns.length az.length ds.length = 0 from by rw [Lk.out, Ln.out, La.out, Ld.out]; exact HE.out)
    have HOS := hid (open_seal ks ns az ds Zd.out HCH.out)
    have hne1 : (((dn + 16 : Nat) : Int) != (dn : Int) + 16) = false := by simp
    have hbx := hb2
    clear R2 hb2
    go_wp2_with fail
    have s2 : Q w2 w2 := Q.refl _
    have C2k := hid (fun u (hu : Q w2 u) => rcopy_any ka kn kc ks u Lk.out (by omega) (B2.out.ik.s.q hu))
    have C2n := hid (fun u (hu : Q w2 u) => rcopy_any na nn nc ns u Ln.out (by omega) (B2.out.in_.s.q hu))
    have C2a := hid (fun u (hu : Q w2 u) => rcopy_any aa an ac az u La.out (by omega) (B2.out.ia.s.q hu))
    have C2s := hid (fun u (hu : Q w2 u) => rcopy_any (some ⟨sb_, so, none⟩) (dn + 16) sc (sealL ks ns az ds) u Ls.out (by omega) (SS.out.q hu))
    go_region_held3 (fun u => Q w2 u ∧ u.cell? ⟨bx, 0, none⟩ = some (.slice ka kn kc) ∧ u.cell? ⟨bx, 1, none⟩ = some (.slice na nn nc) ∧ u.cell? ⟨bx, 2, none⟩ = some (.slice aa an ac) ∧ u.cell? ⟨bx, 3, none⟩ = some (.slice da dn dc)) (repeat (first | assumption | apply And.intro | apply Q.drew | apply Q.drewN | apply Q.alloc | refine dcell ?_ | refine Lib.cell?_alloc_marked _ ?_ | (simp [go_sem, *]; done)))
      (first
        | (go_at_call 9; have t_ := I2a.out; clear t_; refine (C2s.out _ (by repeat (first | assumption | exact Q.refl _ | apply Q.drew | apply Q.drewN | apply Q.alloc))).mono ?_; rintro e w2s ⟨g2s, rfl, q2s, o2s, lw2s⟩; have j2s : Q w2 w2s := Q.trans (by repeat (first | assumption | exact Q.refl _ | apply Q.drew | apply Q.drewN | apply Q.alloc)) q2s; have w2s0 : w2s.cell? ⟨bx, 0, none⟩ = some (.slice ka kn kc) := (j2s.cell (p := ⟨bx, 0, none⟩) hbx).trans w20; have w2s1 : w2s.cell? ⟨bx, 1, none⟩ = some (.slice na nn nc) := (j2s.cell (p := ⟨bx, 1, none⟩) hbx).trans w21; have w2s2 : w2s.cell? ⟨bx, 2, none⟩ = some (.slice aa an ac) := (j2s.cell (p := ⟨bx, 2, none⟩) hbx).trans w22; have w2s3 : w2s.cell? ⟨bx, 3, none⟩ = some (.slice da dn dc) := (j2s.cell (p := ⟨bx, 3, none⟩) hbx).trans w23; have I2s := hid (show In w2s ⟨some ⟨g2s, 0, none⟩, (dn + 16), (dn + 16)⟩ (sealL ks ns az ds) from ⟨o2s.seg, Ls.out, Zs.out⟩); clear o2s lw2s)
        | (go_at_call 9; have t_ := I2n.out; clear t_; refine (C2a.out _ (by repeat (first | assumption | exact Q.refl _ | apply Q.drew | apply Q.drewN | apply Q.alloc))).mono ?_; rintro e w2a ⟨g2a, rfl, q2a, o2a, lw2a⟩; have j2a : Q w2 w2a := Q.trans (by repeat (first | assumption | exact Q.refl _ | apply Q.drew | apply Q.drewN | apply Q.alloc)) q2a; have w2a0 : w2a.cell? ⟨bx, 0, none⟩ = some (.slice ka kn kc) := (j2a.cell (p := ⟨bx, 0, none⟩) hbx).trans w20; have w2a1 : w2a.cell? ⟨bx, 1, none⟩ = some (.slice na nn nc) := (j2a.cell (p := ⟨bx, 1, none⟩) hbx).trans w21; have w2a2 : w2a.cell? ⟨bx, 2, none⟩ = some (.slice aa an ac) := (j2a.cell (p := ⟨bx, 2, none⟩) hbx).trans w22; have w2a3 : w2a.cell? ⟨bx, 3, none⟩ = some (.slice da dn dc) := (j2a.cell (p := ⟨bx, 3, none⟩) hbx).trans w23; have I2a := hid (show In w2a ⟨some ⟨g2a, 0, none⟩, an, an⟩ az from ⟨o2a.seg, La.out, Za.out⟩); clear o2a lw2a)
        | (go_at_call 9; have t_ := I2k.out; clear t_; refine (C2n.out _ (by repeat (first | assumption | exact Q.refl _ | apply Q.drew | apply Q.drewN | apply Q.alloc))).mono ?_; rintro e w2n ⟨g2n, rfl, q2n, o2n, lw2n⟩; have j2n : Q w2 w2n := Q.trans (by repeat (first | assumption | exact Q.refl _ | apply Q.drew | apply Q.drewN | apply Q.alloc)) q2n; have w2n0 : w2n.cell? ⟨bx, 0, none⟩ = some (.slice ka kn kc) := (j2n.cell (p := ⟨bx, 0, none⟩) hbx).trans w20; have w2n1 : w2n.cell? ⟨bx, 1, none⟩ = some (.slice na nn nc) := (j2n.cell (p := ⟨bx, 1, none⟩) hbx).trans w21; have w2n2 : w2n.cell? ⟨bx, 2, none⟩ = some (.slice aa an ac) := (j2n.cell (p := ⟨bx, 2, none⟩) hbx).trans w22; have w2n3 : w2n.cell? ⟨bx, 3, none⟩ = some (.slice da dn dc) := (j2n.cell (p := ⟨bx, 3, none⟩) hbx).trans w23; have I2n := hid (show In w2n ⟨some ⟨g2n, 0, none⟩, nn, nn⟩ ns from ⟨o2n.seg, Ln.out, Zn.out⟩); clear o2n lw2n)
        | (go_at_call 9; refine (C2k.out _ (by repeat (first | assumption | exact Q.refl _ | apply Q.drew | apply Q.drewN | apply Q.alloc))).mono ?_; rintro e w2k ⟨g2k, rfl, q2k, o2k, lw2k⟩; have j2k : Q w2 w2k := Q.trans (by repeat (first | assumption | exact Q.refl _ | apply Q.drew | apply Q.drewN | apply Q.alloc)) q2k; have w2k0 : w2k.cell? ⟨bx, 0, none⟩ = some (.slice ka kn kc) := (j2k.cell (p := ⟨bx, 0, none⟩) hbx).trans w20; have w2k1 : w2k.cell? ⟨bx, 1, none⟩ = some (.slice na nn nc) := (j2k.cell (p := ⟨bx, 1, none⟩) hbx).trans w21; have w2k2 : w2k.cell? ⟨bx, 2, none⟩ = some (.slice aa an ac) := (j2k.cell (p := ⟨bx, 2, none⟩) hbx).trans w22; have w2k3 : w2k.cell? ⟨bx, 3, none⟩ = some (.slice da dn dc) := (j2k.cell (p := ⟨bx, 3, none⟩) hbx).trans w23; have I2k := hid (show In w2k ⟨some ⟨g2k, 0, none⟩, kn, kn⟩ ks from ⟨o2k.seg, Lk.out, Zk.out⟩); clear o2k lw2k)
        | (go_at_call 19; refine (open_any ⟨some ⟨g2k, 0, none⟩, kn, kn⟩ ⟨some ⟨g2n, 0, none⟩, nn, nn⟩ ⟨some ⟨g2a, 0, none⟩, an, an⟩ ⟨some ⟨g2s, 0, none⟩, (dn + 16), (dn + 16)⟩ ks ns az (sealL ks ns az ds) _ (I2k.out.q (by repeat (first | exact Q.refl _ | apply Q.drew | apply Q.drewN | apply Q.alloc | (refine Q.trans ?_ q2s) | (refine Q.trans ?_ q2a) | (refine Q.trans ?_ q2n) | (refine Q.trans ?_ q2k)))) (I2n.out.q (by repeat (first | exact Q.refl _ | apply Q.drew | apply Q.drewN | apply Q.alloc | (refine Q.trans ?_ q2s) | (refine Q.trans ?_ q2a) | (refine Q.trans ?_ q2n) | (refine Q.trans ?_ q2k)))) (I2a.out.q (by repeat (first | exact Q.refl _ | apply Q.drew | apply Q.drewN | apply Q.alloc | (refine Q.trans ?_ q2s) | (refine Q.trans ?_ q2a) | (refine Q.trans ?_ q2n) | (refine Q.trans ?_ q2k)))) (I2s.out.q (by repeat (first | exact Q.refl _ | apply Q.drew | apply Q.drewN | apply Q.alloc | (refine Q.trans ?_ q2s) | (refine Q.trans ?_ q2a) | (refine Q.trans ?_ q2n) | (refine Q.trans ?_ q2k)))) (by show dn + 16 ≤ _; omega) (Nat.le_refl _)).mono ?_; rintro e w3 ⟨⟨pa, pn, pc⟩, rfl, q3, r3⟩; have j3 : Q w2 w3 := Q.trans (by repeat (first | assumption | exact Q.refl _ | apply Q.drew | apply Q.drewN | apply Q.alloc)) q3; have w30 : w3.cell? ⟨bx, 0, none⟩ = some (.slice ka kn kc) := (j3.cell (p := ⟨bx, 0, none⟩) hbx).trans w20; have w31 : w3.cell? ⟨bx, 1, none⟩ = some (.slice na nn nc) := (j3.cell (p := ⟨bx, 1, none⟩) hbx).trans w21; have w32 : w3.cell? ⟨bx, 2, none⟩ = some (.slice aa an ac) := (j3.cell (p := ⟨bx, 2, none⟩) hbx).trans w22; have w33 : w3.cell? ⟨bx, 3, none⟩ = some (.slice da dn dc) := (j3.cell (p := ⟨bx, 3, none⟩) hbx).trans w23; have R3 := hid r3; clear r3))
    clear s2 hbx
    clear C2k q2k j2k I2k w2k0 w2k1 w2k2 w2k3 C2n q2n j2n I2n w2n0 w2n1 w2n2 w2n3 C2a q2a j2a I2a w2a0 w2a1 w2a2 w2a3 C2s q2s j2s I2s w2s0 w2s1 w2s2 w2s3
    have Q3 := hid (Q2.out.trans j3)
    have B3 := hid (B2.out.q j3)
    have O3 := hid (O2.out.q j3)
    have SS3 := hid (SS.out.q j3)
    rw [HOS.out.2] at R3
    rw [HOS.out.1]
    have hb3 : bx < w3.heap.size := lt_of_cell w30
    clear w20 w21 w22 w23 B2 O2 Q2 j3 q3 SS HOS
    have SM := hid (same_rows (w := w3) (x := ⟨pa, pn, pc⟩) (y := ⟨da, dn, dc⟩) (zs := ds) ⟨Row.seg R3.out, Row.len R3.out, Zd.out⟩ B3.out.id_ (by have h1 : ds.length = pn := Row.len R3.out; have := Ld.out; show pn ≤ _; omega))
    go_wp2_with fail
    refine SM.out.mono ?_
    rintro r w4 ⟨rfl, q4⟩
    have Q4 := hid (Q3.out.trans q4)
    have B4 := hid (B3.out.q q4)
    have O4 := hid (O3.out.q q4)
    have SS4 := hid (SS3.out.q q4)
    have w40 : w4.cell? ⟨bx, 0, none⟩ = some (.slice ka kn kc) := (q4.cell (p := ⟨bx, 0, none⟩) hb3).trans w30
    have w41 : w4.cell? ⟨bx, 1, none⟩ = some (.slice na nn nc) := (q4.cell (p := ⟨bx, 1, none⟩) hb3).trans w31
    have w42 : w4.cell? ⟨bx, 2, none⟩ = some (.slice aa an ac) := (q4.cell (p := ⟨bx, 2, none⟩) hb3).trans w32
    have w43 : w4.cell? ⟨bx, 3, none⟩ = some (.slice da dn dc) := (q4.cell (p := ⟨bx, 3, none⟩) hb3).trans w33
    have hbx : bx < w4.heap.size := lt_of_cell w40
    clear w30 w31 w32 w33 B3 O3 Q3 q4 SS3 SM R3 hb3
    by_cases h16 : on_ = 16
    · subst h16
      have hne2 : (((16 : Nat) : Int) != 16) = false := by simp
      have hdc : (dn : Int) ≤ ((dn + 16 : Nat) : Int) := by omega
      have hdc2 : (dn : Int) ≤ (sc : Int) := by omega
      have hne3 : ¬ sc = dn := by omega
      have OSl := hid (show os.length = 16 from O4.out.l)
      have SD := hid (show Seg w4 (some ⟨sb_, so + dn, none⟩) (tagL ks ns az (ovl ks ns ds)) from by
        have h := seg_drop SS4.out dn
        rw [show dn = ds.length from Ld.out.symm, seal_drop] at h
        rw [← Ld.out]; exact h)
      have SM := hid (same_any oa (some ⟨sb_, so + dn, none⟩) 16 16 oc (sc - dn) os (tagL ks ns az (ovl ks ns ds)) w4 OSl.out (tagL_len _ _ _ _) (by omega) (by omega) O4.out.s SD.out)
      by_cases hos : os = tagL ks ns az (ovl ks ns ds)
      · rw [decide_eq_true hos] at SM
        go_wp2_with fail
        refine SM.out.mono ?_
        rintro r w5 ⟨rfl, q5⟩
        have Q5 := hid (Q4.out.trans q5)
        clear q5 SM
        go_wp2_with fail
        refine (awake_any w5).mono ?_
        rintro r w9 ⟨rfl, q9⟩
        have Q9 := hid (Q5.out.trans q9)
        clear q9
        go_wp2
        go_ret
        exact ⟨by first | rfl | simp, Q9.out⟩
      · rw [decide_eq_false hos] at SM
        have HBAD := hid (open_bad ks ns az ds os OSl.out HCH.out hos)
        clear hos
        go_wp2_with fail
        refine SM.out.mono ?_
        rintro r w5 ⟨rfl, q5⟩
        have Q5 := hid (Q4.out.trans q5)
        have B5 := hid (B4.out.q q5)
        have OV5 := hid (show In w5 ⟨some ⟨sb_, so, none⟩, dn, sc⟩ (ovl ks ns ds) from ⟨by
          have h := seg_take (SS4.out.q q5) ds.length
          rw [seal_take] at h
          exact h, by rw [ovl_len]; exact Ld.out, ovl_lt Zd.out⟩)
        have OS5 := hid (show In w5 ⟨oa, 16, oc⟩ os from O4.out.q q5)
        have HJL := hid (show (([ovl ks ns ds, os] : List (List Int)).flatten).length ≤ 1000000 from by
          have h1 := OSl.out; have h2 := Ld.out
          simp [ovl_len, h1, h2]; omega)
        have w50 : w5.cell? ⟨bx, 0, none⟩ = some (.slice ka kn kc) := (q5.cell (p := ⟨bx, 0, none⟩) hbx).trans w40
        have w51 : w5.cell? ⟨bx, 1, none⟩ = some (.slice na nn nc) := (q5.cell (p := ⟨bx, 1, none⟩) hbx).trans w41
        have w52 : w5.cell? ⟨bx, 2, none⟩ = some (.slice aa an ac) := (q5.cell (p := ⟨bx, 2, none⟩) hbx).trans w42
        have w53 : w5.cell? ⟨bx, 3, none⟩ = some (.slice da dn dc) := (q5.cell (p := ⟨bx, 3, none⟩) hbx).trans w43
        clear w40 w41 w42 w43 B4 O4 Q4 SS4 SM SD
        have hb5 : bx < w5.heap.size := lt_of_cell w50
        clear q5 hbx
        have hbx := hb5
        have s5 : Q w5 w5 := Q.refl _
        have C3k := hid (fun u (hu : Q w5 u) => rcopy_any ka kn kc ks u Lk.out (by omega) (B5.out.ik.s.q hu))
        have C3n := hid (fun u (hu : Q w5 u) => rcopy_any na nn nc ns u Ln.out (by omega) (B5.out.in_.s.q hu))
        have C3a := hid (fun u (hu : Q w5 u) => rcopy_any aa an ac az u La.out (by omega) (B5.out.ia.s.q hu))
        go_wp2_with fail
        go_region_held3 (fun u => Q w5 u ∧ u.cell? ⟨bx, 0, none⟩ = some (.slice ka kn kc) ∧ u.cell? ⟨bx, 1, none⟩ = some (.slice na nn nc) ∧ u.cell? ⟨bx, 2, none⟩ = some (.slice aa an ac) ∧ u.cell? ⟨bx, 3, none⟩ = some (.slice da dn dc)) (repeat (first | assumption | apply And.intro | apply Q.drew | apply Q.drewN | apply Q.alloc | refine dcell ?_ | refine Lib.cell?_alloc_marked _ ?_ | (simp [go_sem, *]; done)))
          (first
            | (go_at_call 9; have t_ := I3n.out; clear t_; refine (C3a.out _ (by repeat (first | assumption | exact Q.refl _ | apply Q.drew | apply Q.drewN | apply Q.alloc))).mono ?_; rintro e w3a ⟨g3a, rfl, q3a, o3a, lw3a⟩; have j3a : Q w5 w3a := Q.trans (by repeat (first | assumption | exact Q.refl _ | apply Q.drew | apply Q.drewN | apply Q.alloc)) q3a; have w3a0 : w3a.cell? ⟨bx, 0, none⟩ = some (.slice ka kn kc) := (j3a.cell (p := ⟨bx, 0, none⟩) hbx).trans w50; have w3a1 : w3a.cell? ⟨bx, 1, none⟩ = some (.slice na nn nc) := (j3a.cell (p := ⟨bx, 1, none⟩) hbx).trans w51; have w3a2 : w3a.cell? ⟨bx, 2, none⟩ = some (.slice aa an ac) := (j3a.cell (p := ⟨bx, 2, none⟩) hbx).trans w52; have w3a3 : w3a.cell? ⟨bx, 3, none⟩ = some (.slice da dn dc) := (j3a.cell (p := ⟨bx, 3, none⟩) hbx).trans w53; have I3a := hid (show In w3a ⟨some ⟨g3a, 0, none⟩, an, an⟩ az from ⟨o3a.seg, La.out, Za.out⟩); clear o3a lw3a)
            | (go_at_call 9; have t_ := I3k.out; clear t_; refine (C3n.out _ (by repeat (first | assumption | exact Q.refl _ | apply Q.drew | apply Q.drewN | apply Q.alloc))).mono ?_; rintro e w3n ⟨g3n, rfl, q3n, o3n, lw3n⟩; have j3n : Q w5 w3n := Q.trans (by repeat (first | assumption | exact Q.refl _ | apply Q.drew | apply Q.drewN | apply Q.alloc)) q3n; have w3n0 : w3n.cell? ⟨bx, 0, none⟩ = some (.slice ka kn kc) := (j3n.cell (p := ⟨bx, 0, none⟩) hbx).trans w50; have w3n1 : w3n.cell? ⟨bx, 1, none⟩ = some (.slice na nn nc) := (j3n.cell (p := ⟨bx, 1, none⟩) hbx).trans w51; have w3n2 : w3n.cell? ⟨bx, 2, none⟩ = some (.slice aa an ac) := (j3n.cell (p := ⟨bx, 2, none⟩) hbx).trans w52; have w3n3 : w3n.cell? ⟨bx, 3, none⟩ = some (.slice da dn dc) := (j3n.cell (p := ⟨bx, 3, none⟩) hbx).trans w53; have I3n := hid (show In w3n ⟨some ⟨g3n, 0, none⟩, nn, nn⟩ ns from ⟨o3n.seg, Ln.out, Zn.out⟩); clear o3n lw3n)
            | (go_at_call 9; refine (C3k.out _ (by repeat (first | assumption | exact Q.refl _ | apply Q.drew | apply Q.drewN | apply Q.alloc))).mono ?_; rintro e w3k ⟨g3k, rfl, q3k, o3k, lw3k⟩; have j3k : Q w5 w3k := Q.trans (by repeat (first | assumption | exact Q.refl _ | apply Q.drew | apply Q.drewN | apply Q.alloc)) q3k; have w3k0 : w3k.cell? ⟨bx, 0, none⟩ = some (.slice ka kn kc) := (j3k.cell (p := ⟨bx, 0, none⟩) hbx).trans w50; have w3k1 : w3k.cell? ⟨bx, 1, none⟩ = some (.slice na nn nc) := (j3k.cell (p := ⟨bx, 1, none⟩) hbx).trans w51; have w3k2 : w3k.cell? ⟨bx, 2, none⟩ = some (.slice aa an ac) := (j3k.cell (p := ⟨bx, 2, none⟩) hbx).trans w52; have w3k3 : w3k.cell? ⟨bx, 3, none⟩ = some (.slice da dn dc) := (j3k.cell (p := ⟨bx, 3, none⟩) hbx).trans w53; have I3k := hid (show In w3k ⟨some ⟨g3k, 0, none⟩, kn, kn⟩ ks from ⟨o3k.seg, Lk.out, Zk.out⟩); clear o3k lw3k)
            | (go_at_call 22; (with_reducible show Calls Try.prog 22 #[.slice (some ⟨w3a.heap.size, 0, none⟩) 2 2] _ _); refine (join_q w3a _ [⟨some ⟨sb_, so, none⟩, dn, sc⟩, ⟨oa, 16, oc⟩] (by repeat (first | exact Q.refl _ | apply Q.drew | apply Q.drewN | apply Q.alloc | (refine Q.trans ?_ q3a) | (refine Q.trans ?_ q3n) | (refine Q.trans ?_ q3k))) [ovl ks ns ds, os] rfl (in2 (OV5.out.q (by repeat (first | exact Q.refl _ | apply Q.drew | apply Q.drewN | apply Q.alloc | (refine Q.trans ?_ q3a) | (refine Q.trans ?_ q3n) | (refine Q.trans ?_ q3k)))) (OS5.out.q (by repeat (first | exact Q.refl _ | apply Q.drew | apply Q.drewN | apply Q.alloc | (refine Q.trans ?_ q3a) | (refine Q.trans ?_ q3n) | (refine Q.trans ?_ q3k))))) (by show 2 ≤ 100; omega) HJL.out).mono ?_; rintro e w6 ⟨⟨ja, jn, jc⟩, rfl, q6, i6, r6, n6⟩; have j6 : Q w5 w6 := Q.trans (by repeat (first | assumption | exact Q.refl _ | apply Q.drew | apply Q.drewN | apply Q.alloc)) q6; have w60 : w6.cell? ⟨bx, 0, none⟩ = some (.slice ka kn kc) := (j6.cell (p := ⟨bx, 0, none⟩) hbx).trans w50; have w61 : w6.cell? ⟨bx, 1, none⟩ = some (.slice na nn nc) := (j6.cell (p := ⟨bx, 1, none⟩) hbx).trans w51; have w62 : w6.cell? ⟨bx, 2, none⟩ = some (.slice aa an ac) := (j6.cell (p := ⟨bx, 2, none⟩) hbx).trans w52; have w63 : w6.cell? ⟨bx, 3, none⟩ = some (.slice da dn dc) := (j6.cell (p := ⟨bx, 3, none⟩) hbx).trans w53; have I6 := hid i6; have C6 := hid (Row.cap r6); clear i6 r6 n6)
            | (go_at_call 22; (with_reducible show Calls Try.prog 22 #[.slice (some ⟨w3n.heap.size, 0, none⟩) 2 2] _ _); refine (join_q w3n _ [⟨some ⟨sb_, so, none⟩, dn, sc⟩, ⟨oa, 16, oc⟩] (by repeat (first | exact Q.refl _ | apply Q.drew | apply Q.drewN | apply Q.alloc | (refine Q.trans ?_ q3a) | (refine Q.trans ?_ q3n) | (refine Q.trans ?_ q3k))) [ovl ks ns ds, os] rfl (in2 (OV5.out.q (by repeat (first | exact Q.refl _ | apply Q.drew | apply Q.drewN | apply Q.alloc | (refine Q.trans ?_ q3a) | (refine Q.trans ?_ q3n) | (refine Q.trans ?_ q3k)))) (OS5.out.q (by repeat (first | exact Q.refl _ | apply Q.drew | apply Q.drewN | apply Q.alloc | (refine Q.trans ?_ q3a) | (refine Q.trans ?_ q3n) | (refine Q.trans ?_ q3k))))) (by show 2 ≤ 100; omega) HJL.out).mono ?_; rintro e w6 ⟨⟨ja, jn, jc⟩, rfl, q6, i6, r6, n6⟩; have j6 : Q w5 w6 := Q.trans (by repeat (first | assumption | exact Q.refl _ | apply Q.drew | apply Q.drewN | apply Q.alloc)) q6; have w60 : w6.cell? ⟨bx, 0, none⟩ = some (.slice ka kn kc) := (j6.cell (p := ⟨bx, 0, none⟩) hbx).trans w50; have w61 : w6.cell? ⟨bx, 1, none⟩ = some (.slice na nn nc) := (j6.cell (p := ⟨bx, 1, none⟩) hbx).trans w51; have w62 : w6.cell? ⟨bx, 2, none⟩ = some (.slice aa an ac) := (j6.cell (p := ⟨bx, 2, none⟩) hbx).trans w52; have w63 : w6.cell? ⟨bx, 3, none⟩ = some (.slice da dn dc) := (j6.cell (p := ⟨bx, 3, none⟩) hbx).trans w53; have I6 := hid i6; have C6 := hid (Row.cap r6); clear i6 r6 n6)
            | (go_at_call 22; (with_reducible show Calls Try.prog 22 #[.slice (some ⟨w3k.heap.size, 0, none⟩) 2 2] _ _); refine (join_q w3k _ [⟨some ⟨sb_, so, none⟩, dn, sc⟩, ⟨oa, 16, oc⟩] (by repeat (first | exact Q.refl _ | apply Q.drew | apply Q.drewN | apply Q.alloc | (refine Q.trans ?_ q3a) | (refine Q.trans ?_ q3n) | (refine Q.trans ?_ q3k))) [ovl ks ns ds, os] rfl (in2 (OV5.out.q (by repeat (first | exact Q.refl _ | apply Q.drew | apply Q.drewN | apply Q.alloc | (refine Q.trans ?_ q3a) | (refine Q.trans ?_ q3n) | (refine Q.trans ?_ q3k)))) (OS5.out.q (by repeat (first | exact Q.refl _ | apply Q.drew | apply Q.drewN | apply Q.alloc | (refine Q.trans ?_ q3a) | (refine Q.trans ?_ q3n) | (refine Q.trans ?_ q3k))))) (by show 2 ≤ 100; omega) HJL.out).mono ?_; rintro e w6 ⟨⟨ja, jn, jc⟩, rfl, q6, i6, r6, n6⟩; have j6 : Q w5 w6 := Q.trans (by repeat (first | assumption | exact Q.refl _ | apply Q.drew | apply Q.drewN | apply Q.alloc)) q6; have w60 : w6.cell? ⟨bx, 0, none⟩ = some (.slice ka kn kc) := (j6.cell (p := ⟨bx, 0, none⟩) hbx).trans w50; have w61 : w6.cell? ⟨bx, 1, none⟩ = some (.slice na nn nc) := (j6.cell (p := ⟨bx, 1, none⟩) hbx).trans w51; have w62 : w6.cell? ⟨bx, 2, none⟩ = some (.slice aa an ac) := (j6.cell (p := ⟨bx, 2, none⟩) hbx).trans w52; have w63 : w6.cell? ⟨bx, 3, none⟩ = some (.slice da dn dc) := (j6.cell (p := ⟨bx, 3, none⟩) hbx).trans w53; have I6 := hid i6; have C6 := hid (Row.cap r6); clear i6 r6 n6)
            | (go_at_call 22; (with_reducible show Calls Try.prog 22 #[.slice (some ⟨w5.heap.size, 0, none⟩) 2 2] _ _); refine (join_q w5 _ [⟨some ⟨sb_, so, none⟩, dn, sc⟩, ⟨oa, 16, oc⟩] (by repeat (first | exact Q.refl _ | apply Q.drew | apply Q.drewN | apply Q.alloc | (refine Q.trans ?_ q3a) | (refine Q.trans ?_ q3n) | (refine Q.trans ?_ q3k))) [ovl ks ns ds, os] rfl (in2 (OV5.out.q (by repeat (first | exact Q.refl _ | apply Q.drew | apply Q.drewN | apply Q.alloc | (refine Q.trans ?_ q3a) | (refine Q.trans ?_ q3n) | (refine Q.trans ?_ q3k)))) (OS5.out.q (by repeat (first | exact Q.refl _ | apply Q.drew | apply Q.drewN | apply Q.alloc | (refine Q.trans ?_ q3a) | (refine Q.trans ?_ q3n) | (refine Q.trans ?_ q3k))))) (by show 2 ≤ 100; omega) HJL.out).mono ?_; rintro e w6 ⟨⟨ja, jn, jc⟩, rfl, q6, i6, r6, n6⟩; have j6 : Q w5 w6 := Q.trans (by repeat (first | assumption | exact Q.refl _ | apply Q.drew | apply Q.drewN | apply Q.alloc)) q6; have w60 : w6.cell? ⟨bx, 0, none⟩ = some (.slice ka kn kc) := (j6.cell (p := ⟨bx, 0, none⟩) hbx).trans w50; have w61 : w6.cell? ⟨bx, 1, none⟩ = some (.slice na nn nc) := (j6.cell (p := ⟨bx, 1, none⟩) hbx).trans w51; have w62 : w6.cell? ⟨bx, 2, none⟩ = some (.slice aa an ac) := (j6.cell (p := ⟨bx, 2, none⟩) hbx).trans w52; have w63 : w6.cell? ⟨bx, 3, none⟩ = some (.slice da dn dc) := (j6.cell (p := ⟨bx, 3, none⟩) hbx).trans w53; have I6 := hid i6; have C6 := hid (Row.cap r6); clear i6 r6 n6)
            | (go_at_call 19; refine (open_any ⟨some ⟨g3k, 0, none⟩, kn, kn⟩ ⟨some ⟨g3n, 0, none⟩, nn, nn⟩ ⟨some ⟨g3a, 0, none⟩, an, an⟩ ⟨ja, jn, jc⟩ ks ns az (([ovl ks ns ds, os] : List (List Int)).flatten) _ (I3k.out.q (by repeat (first | exact Q.refl _ | apply Q.drew | apply Q.drewN | apply Q.alloc | (refine Q.trans ?_ q6) | (refine Q.trans ?_ q3a) | (refine Q.trans ?_ q3n) | (refine Q.trans ?_ q3k)))) (I3n.out.q (by repeat (first | exact Q.refl _ | apply Q.drew | apply Q.drewN | apply Q.alloc | (refine Q.trans ?_ q6) | (refine Q.trans ?_ q3a) | (refine Q.trans ?_ q3n) | (refine Q.trans ?_ q3k)))) (I3a.out.q (by repeat (first | exact Q.refl _ | apply Q.drew | apply Q.drewN | apply Q.alloc | (refine Q.trans ?_ q6) | (refine Q.trans ?_ q3a) | (refine Q.trans ?_ q3n) | (refine Q.trans ?_ q3k)))) (I6.out.q (by repeat (first | exact Q.refl _ | apply Q.drew | apply Q.drewN | apply Q.alloc | (refine Q.trans ?_ q6) | (refine Q.trans ?_ q3a) | (refine Q.trans ?_ q3n) | (refine Q.trans ?_ q3k)))) (by have h1 := I6.out.l; have h2 := HJL.out; show jn ≤ _; dsimp only at h1; omega) C6.out).mono ?_; rintro e w7 ⟨⟨ta, tn, tc⟩, rfl, q7, r7⟩; have j7 : Q w5 w7 := Q.trans (by repeat (first | assumption | exact Q.refl _ | apply Q.drew | apply Q.drewN | apply Q.alloc)) q7; have w70 : w7.cell? ⟨bx, 0, none⟩ = some (.slice ka kn kc) := (j7.cell (p := ⟨bx, 0, none⟩) hbx).trans w50; have w71 : w7.cell? ⟨bx, 1, none⟩ = some (.slice na nn nc) := (j7.cell (p := ⟨bx, 1, none⟩) hbx).trans w51; have w72 : w7.cell? ⟨bx, 2, none⟩ = some (.slice aa an ac) := (j7.cell (p := ⟨bx, 2, none⟩) hbx).trans w52; have w73 : w7.cell? ⟨bx, 3, none⟩ = some (.slice da dn dc) := (j7.cell (p := ⟨bx, 3, none⟩) hbx).trans w53; have R7 := hid r7; clear r7))
        all_goals (
          have hfl : ([ovl ks ns ds, os] : List (List Int)).flatten = ovl ks ns ds ++ os := by simp
          rw [hfl] at R7
          rw [HBAD.out.2] at R7
          (try rw [hfl])
          rw [HBAD.out.1]
          have htn : tn = 0 := by have h1 : ([] : List Int).length = tn := Row.len R7.out; exact h1.symm
          subst htn
          have Q7 := hid (Q5.out.trans j7)
          clear s5 hbx hb5 j6 j7 I6 C6 R7 hfl q6 q7 w50 w51 w52 w53 w60 w61 w62 w63 w70 w71 w72 w73
          clear C3k q3k j3k I3k w3k0 w3k1 w3k2 w3k3 C3n q3n j3n I3n w3n0 w3n1 w3n2 w3n3 C3a q3a j3a I3a w3a0 w3a1 w3a2 w3a3
          go_wp2_with fail
          refine (awake_any w7).mono ?_
          rintro r w9 ⟨rfl, q9⟩
          have Q9 := hid (Q7.out.trans q9)
          clear q9
          go_wp2
          go_ret
          exact ⟨by first | rfl | simp, Q9.out⟩
        )
    · have hne2 : ((on_ : Int) != 16) = true := by simp; omega
      go_wp2_with fail
      refine (awake_any w4).mono ?_
      rintro r w9 ⟨rfl, q9⟩
      have Q9 := hid (Q4.out.trans q9)
      clear q9
      go_wp2
      go_ret
      exact ⟨by first | rfl | simp, Q9.out⟩
  · rw [if_neg hE0] at R2
    have hne : (E != 0) = true := by simp [hE0]
    have hsn : sn = 0 := by have h1 : ([] : List Int).length = sn := Row.len R2.out; exact h1.symm
    subst hsn
    go_wp2_with fail
    refine (awake_any w2).mono ?_
    rintro r w9 ⟨rfl, q9⟩
    have Q9 := hid (Q2.out.trans q9)
    clear q9
    go_wp2
    go_ret
    exact ⟨by first | rfl | simp, Q9.out⟩

set_option maxRecDepth 100000 in
theorem lifted (os : Os) (started : os.Started) (H : Type) (enc : TypeId × Value → H) :
    ReturnsInHanded {} Try.checked os 6 .any (Rows.primOpensSpec.pre6 enc Try.prog Try.f6 Rows.primOpensRow.domain false) (Rows.primOpensSpec.post enc Try.prog Try.f6 false true false false) := by
  refine returnsInHanded_of_change_sized (C := Try.checked) own_knob started (by kernel_rfl) Try.func6
    (ChangeSpec.witness6 (enc := enc) (C := Try.checked) false ⟨#[], #[.agg #[.slice none 0 0, .slice none 0 0, .slice none 0 0, .slice none 0 0], .slice none 0 0], []⟩ 8 (by kernel_rfl) (by kernel_rfl) (by kernel_rfl) (by kernel_rfl)) ?_
  intro W base args ds gs before hval0 hW hcnd hsz0 _
  have hval : ∀ (j : Nat) t v, Try.f6.params[j]? = some t → args[j]? = some v → Value.okWide Try.prog W .any base t v := hval0
  have hsz : (DataW.weightsEach Try.prog (Try.f6.params.toList ++ Rows.primOpensSpec.plain.varTypes Try.prog) (ds ++ gs)).all (· ≤ reachBytes) = true := hsz0
  have hW' := hW
  obtain ⟨p, q, hA0, hV, rfl, hfz, hnd⟩ := hW
  have hA : DataW.TrodAll enc Try.prog W 0 (fun _ => true) true Try.f6.params.toList args.toList ds p := hA0
  rw [Try.params6] at hA hval hsz
  obtain ⟨v0, vs0, d0, ds0, p0, q0, hargs, rfl, rfl, h0, r0⟩ := trodAll_cons hA
  obtain ⟨v1, vs1, d1, ds1, p1, q1, rfl, rfl, rfl, h1, r1⟩ := trodAll_cons r0
  obtain ⟨rfl, rfl, rfl⟩ := trodAll_nil r1
  obtain rfl : args = #[v0, v1] := by cases args; simp_all
  obtain ⟨rfl, rfl⟩ := trodVars_none hV
  obtain ⟨cs0, rfl, hcs0⟩ := okWide_struct Try.underlying36 (hval 0 36 v0 rfl rfl)
  have k0 := h0
  have lt0 : ∀ x ∈ p0, x.block < W.heap.size := by obtain ⟨m, hm⟩ := k0; exact DataW.trod_lt m _ _ _ hm
  obtain ⟨kb0, nb0, ab0, db0, kz0, nz0, az0, dz0, rfl, hc0⟩ := open_box h0 hcs0
  have ft0 := box_fit hsz (j := 0) rfl rfl hc0
  obtain ⟨a1, len1, cap1, rfl⟩ := okWide_slice Try.underlying22 (hval 1 22 v1 rfl rfl)
  have k1 := h1
  have lt1 : ∀ x ∈ p1, x.block < W.heap.size := by obtain ⟨m, hm⟩ := k1; exact DataW.trod_lt m _ _ _ hm
  obtain ⟨z1, zl1, zs1, zb1, zc1, ze1, zd1⟩ := open_bytes h1
  have zn1 := len_le_bytes hsz (j := 1) rfl rfl zd1
  clear hA0 hval0
  refine (walk kb0 nb0 ab0 db0 ⟨a1, len1, cap1⟩ kz0 nz0 az0 dz0 z1 W hc0.h ⟨zs1, zl1, zb1⟩ ft0.1 ft0.2.1 ft0.2.2.1 ft0.2.2.2 zn1).mono fun e W' ⟨he, bel⟩ => ?_
  subst he
  exact ⟨_, rfl, _, _, _, [], _, [], hW', trodAll_mk1 (shut_bool Try.underlying4 _), (trodAll_cons_mk (Below.trod laid_out (by kernel_rfl) (of_decide_eq_true (by kernel_rfl)) k0 bel lt0) (trodAll_cons_mk (Below.trod laid_out (by kernel_rfl) (of_decide_eq_true (by kernel_rfl)) k1 bel lt1) trodAll_mk0)), rfl, bel.frame _, fun h => by cases h⟩

theorem over : Rows.primOpensRow.holds Try.pinned (OpenSpec.ofChange Rows.primOpensSpec) :=
  OpenClaim.holds_of_wide 6 Try.f6 rfl rfl rfl rfl rfl rfl rfl ⟨rfl, rfl, rfl, rfl, rfl⟩ rfl rfl rfl rfl rfl (by kernel_rfl) Try.func6 (by kernel_rfl)
    (of_decide_eq_true (by kernel_rfl)) (by unfold Func.isWrapper; first | (rw [if_pos (by decide +kernel)]; kernel_rfl) | (rw [if_neg (by decide +kernel)]; exact ⟨rfl, rfl⟩))
    (fun os started H enc _ => lifted os started H enc)

end Go.Proofs.Ytnoapfhbckebiaa.primOpens
namespace Go.Proofs.Ytnoapfhbckebiaa

/-- The statement. -/
theorem primOpens_holds : Rows.PrimOpensSaid := primOpens.over
#print axioms primOpens_holds
end Go.Proofs.Ytnoapfhbckebiaa
