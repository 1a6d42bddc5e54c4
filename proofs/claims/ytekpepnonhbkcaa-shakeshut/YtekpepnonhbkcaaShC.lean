/-
  A side's Config in memory; what prim's Public and shake's greeting do: contracts that the statements' walks use.
-/
import Derived.Test.YtekpepnonhbkcaaShO
import Derived.Test.YtekpepnonhbkcaaPow
import Derived.Deep.RegionHeld3
namespace Go.Proofs.Ytekpepnonhbkcaa
open Go.RowKit
set_option linter.unusedVariables false
set_option maxRecDepth 20000

theorem dcel {W : World} {p : Addr} {v : Value} (h : W.cell? p = some v) : W.drew.cell? p = some v := h
theorem dcelN {W : World} {p : Addr} {v : Value} {n : Nat} (h : W.cell? p = some v) : (W.drewN n).cell? p = some v := h
theorem acel {W : World} {b j : Nat} {v : Value} {o : Obj} (h : W.cell? ⟨b, j, none⟩ = some v) : (W.alloc o).cell? ⟨b, j, none⟩ = some v := (((Q.refl W).alloc o).cell (p := ⟨b, j, none⟩) (lt_of_cell h)).trans h
/-- The words of a Config: whether it is a server's, its Random, its Private, its Protos, its Params. -/
def ccells (sv : Bool) (rs : List Int) (pv : Int) (t p : Sv) : List Value := .bool sv :: (u8s rs ++ [.int .i64 pv, .slice t.a t.n t.c, .slice p.a p.n p.c])
theorem ccells_len {sv : Bool} {rs : List Int} {pv : Int} {t p : Sv} (h : rs.length = 32) : (ccells sv rs pv t p).length = 36 := by simp [ccells, h]
def CB (w : World) (cb : Nat) (sv : Bool) (rs : List Int) (pv : Int) (t p : Sv) : Prop := w.heap[cb]? = some (.cells (ccells sv rs pv t p).toArray 26 (0, 0))
section
variable {w w' : World} {cb : Nat} {sv : Bool} {rs : List Int} {pv : Int} {t p : Sv}
theorem CB.q (h : CB w cb sv rs pv t p) (q : Q w w') : CB w' cb sv rs pv t p := (Below.block q _ (lt_of_block h)).trans h
theorem CB.cell (h : CB w cb sv rs pv t p) (i : Nat) : w.cell? ⟨cb, i, none⟩ = (ccells sv rs pv t p)[i]? := by rw [cell_of_row w cb i _ 26 (0, 0) h]; simp
theorem CB.c0 (h : CB w cb sv rs pv t p) : w.cell? ⟨cb, 0, none⟩ = some (.bool sv) := by rw [h.cell]; rfl
theorem CB.end_ (h : CB w cb sv rs pv t p) (hl : rs.length = 32) (i : Nat) : w.cell? ⟨cb, 33 + i, none⟩ = [.int .i64 pv, .slice t.a t.n t.c, .slice p.a p.n p.c][i]? := by
  rw [h.cell, ccells, show 33 + i = (32 + i) + 1 by omega, List.getElem?_cons_succ, List.getElem?_append_right (by simp [hl]), List.length_map, hl, Nat.add_sub_cancel_left]
theorem CB.c33 (h : CB w cb sv rs pv t p) (hl : rs.length = 32) : w.cell? ⟨cb, 33, none⟩ = some (.int .i64 pv) := h.end_ hl 0
theorem CB.c34 (h : CB w cb sv rs pv t p) (hl : rs.length = 32) : w.cell? ⟨cb, 34, none⟩ = some (.slice t.a t.n t.c) := h.end_ hl 1
theorem CB.c35 (h : CB w cb sv rs pv t p) (hl : rs.length = 32) : w.cell? ⟨cb, 35, none⟩ = some (.slice p.a p.n p.c) := h.end_ hl 2
theorem CB.rnd (h : CB w cb sv rs pv t p) (hl : rs.length = 32) : Seg w (some ⟨cb, 1, none⟩) rs := by
  intro _
  refine ⟨cb, 1, rfl, fun i hi => ?_⟩
  rw [h.cell, ccells, show 1 + i = i + 1 by omega, List.getElem?_cons_succ, List.getElem?_append_left (by simp [hi]), List.getElem?_map, List.getElem?_eq_getElem hi, List.getD_eq_getElem?_getD, List.getElem?_eq_getElem hi]
  rfl
end
theorem pwr_bd (b e : Int) : 0 ≤ pwr b e ∧ pwr b e < 2305843009213693951 := by
  unfold pwr
  split
  · omega
  · have := Nat.mod_lt (b.toNat ^ e.toNat) (show 0 < 2305843009213693951 by decide)
    omega
/-- With what both hellos begin. -/
def grL (rs : List Int) (pv : Int) : List Int := rs ++ be 8 (pwr 37 pv)
set_option maxHeartbeats 8000000 in
theorem greeting_any (sv : Bool) (rs : List Int) (pv : Int) (t p : Sv) (w : World) (hl : rs.length = 32) (hpv : pv ≤ 9223372036854775807) :
    Calls Try.prog 37 #[.agg (ccells sv rs pv t p).toArray] w fun e w' => ∃ x : Sv, e = .returned (.slice x.a x.n x.c) ∧ Q w w' ∧ Row w' x (grL rs pv) := by
  have PB := hid (fun u => public_any pv u hpv)
  have NB := hid (fun u => num_any (pwr 37 pv) 8 u (pwr_bd 37 pv).1 (by have := (pwr_bd 37 pv).2; omega) (by omega) (by omega))
  have HL := hid hl
  clear hpv hl
  go_enter Try.func37, Try.ntmps37
  go_wp2
  generalize hw1 : World.alloc w _ = v1
  have q1 : Q w v1 := by rw [← hw1]; exact (Q.refl w).alloc _
  have b1 : CB v1 w.heap.size sv rs pv t p := by
    rw [← hw1]
    exact heap_alloc_new w _
  clear hw1
  generalize w.heap.size = cb at *
  have Q1 := hid q1
  have B1 := hid b1
  have c33 := b1.c33 HL.out
  have s0 : Q v1 v1 := Q.refl _
  have CC := hid (fun (g8 : Nat) u (hq : Q v1 u) (h8 : Seg u (some ⟨g8, 0, none⟩) (be 8 (pwr 37 pv))) => concat2 u ⟨some ⟨cb, 1, none⟩, 32, 32⟩ ⟨some ⟨g8, 0, none⟩, 8, 8⟩ rs (be 8 (pwr 37 pv)) ⟨(B1.out.q hq).rnd HL.out, HL.out⟩ ⟨h8, be_length _ _⟩ (by rw [HL.out, be_length]; omega))
  clear q1 b1
  dsimp only at CC
  go_region_held3 (fun u => Q v1 u ∧ u.cell? ⟨cb, 33, none⟩ = some (.int .i64 pv)) (repeat (first | (with_reducible assumption) | (with_reducible apply Q.drew) | (with_reducible apply Q.drewN) | (with_reducible apply Q.alloc) | (with_reducible refine dcel ?_) | (with_reducible refine dcelN ?_) | (with_reducible refine acel ?_) | (with_reducible apply And.intro)))
    (first
      | (go_at_call 57; refine (PB.out _).mono ?_; rintro e w2 ⟨rfl, q2⟩; have j2 : Q v1 w2 := Q.trans (by repeat (first | (with_reducible assumption) | (with_reducible exact Q.refl _) | (with_reducible apply Q.drew) | (with_reducible apply Q.drewN) | (with_reducible apply Q.alloc))) q2; have t2 := (B1.out.q j2).c33 HL.out)
      | (go_at_call 56; refine (NB.out _).mono ?_; rintro e w3 ⟨g8, rfl, q3, o3⟩; have j3 : Q v1 w3 := Q.trans (by repeat (first | (with_reducible assumption) | (with_reducible exact Q.refl _) | (with_reducible apply Q.drew) | (with_reducible apply Q.drewN) | (with_reducible apply Q.alloc))) q3; have t3 := (B1.out.q j3).c33 HL.out; have O3 := hid o3)
      | (go_at_call 55; refine (CC.out g8 _ j3 O3.out.seg).mono ?_; rintro e w4 ⟨⟨xa, xn, xc⟩, rfl, q4, r4⟩; have j4 : Q v1 w4 := j3.trans q4; have t4 := (B1.out.q j4).c33 HL.out))
  have HX := hid (show Q w w4 ∧ Row w4 ⟨xa, xn, xc⟩ (grL rs pv) from ⟨Q1.out.trans j4, r4⟩)
  clear q2 j2 t2 q3 o3 j3 t3 q4 r4 j4 t4 O3 c33 s0 CC
  go_wp2
  go_ret
  exact ⟨⟨xa, xn, xc⟩, rfl, HX.out⟩
end Go.Proofs.Ytekpepnonhbkcaa
