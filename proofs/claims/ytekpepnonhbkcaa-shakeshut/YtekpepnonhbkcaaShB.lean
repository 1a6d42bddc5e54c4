/-
  What shake's own sized and build do: contracts that the statements' walks use.
-/
import Derived.Test.YtekpepnonhbkcaaShN
namespace Go.Proofs.Ytekpepnonhbkcaa
open Go.RowKit
set_option linter.unusedVariables false
set_option maxRecDepth 20000

/-- Concat of two pieces that are laid for it. -/
theorem concat2 (W : World) (x y : Sv) (X Y : List Int) (hx : Seg W x.a X ∧ X.length = x.n) (hy : Seg W y.a Y ∧ Y.length = y.n) (hb : X.length + Y.length ≤ 1000000) :
    Calls Try.prog 55 #[.slice (some ⟨W.heap.size, 0, none⟩) 2 2] (W.alloc (.cells #[.slice x.a x.n x.c, .slice y.a y.n y.c] 24)) fun e w' => ∃ t : Sv, e = .returned (.slice t.a t.n t.c) ∧ Q W w' ∧ Row w' t (X ++ Y) := by
  have e2 : cat (fun j => if j = 0 then X else Y) 2 = X ++ Y := by simp [cat]
  have qa : Q W (W.alloc (.cells #[.slice x.a x.n x.c, .slice y.a y.n y.c] 24)) := (Q.refl W).alloc _
  refine (concat_any W.heap.size 2 2 (fun j => if j = 0 then x else y) (fun j => if j = 0 then X else Y) _ (fun j hj => ?_) (fun j hj => ?_) (by omega) (by rw [e2]; simp only [List.length_append]; omega)).mono ?_
  · rw [cell_of_row _ W.heap.size j _ 24 (0, 0) (heap_alloc_new W _)]
    rcases (show j = 0 ∨ j = 1 by omega) with rfl | rfl <;> rfl
  · rcases (show j = 0 ∨ j = 1 by omega) with rfl | rfl
    · exact ⟨hx.1.q qa, hx.2⟩
    · exact ⟨hy.1.q qa, hy.2⟩
  · rintro e w' ⟨t, rfl, q, r, -⟩
    rw [e2] at r
    exact ⟨t, rfl, qa.trans q, r⟩
set_option maxHeartbeats 4000000 in
theorem sized_any' (x : Sv) (zs : List Int) (s : Nat) (w : World) (hx : Seg w x.a zs ∧ zs.length = x.n) (hs0 : 0 < s) (hs8 : s ≤ 8) (hb : x.n ≤ 900000) :
    Calls Try.prog 35 #[.slice x.a x.n x.c, .int .i64 (s : Int)] w fun e w' => ∃ t : Sv, e = .returned (.slice t.a t.n t.c) ∧ Q w w' ∧ Row w' t (be s (x.n : Int) ++ zs) := by
  obtain ⟨xa, xn, xc⟩ := x
  dsimp only at *
  have HX := hid hx
  have HN := hid (num_any (xn : Int) s w (by omega) (by omega) hs0 hs8)
  have HBL := hid (be_length s (xn : Int))
  have HS := hid hs8
  clear hx hs0 hs8
  generalize be s (xn : Int) = bs at *
  go_enter Try.func35, Try.ntmps35
  go_wp2_with (first
    | (go_at_call 56; refine HN.out.mono ?_; rintro e w1 ⟨g1, rfl, q1, o1⟩; have Q1 := hid q1; have O1 := hid o1; clear q1 o1)
    | (go_at_call 55; refine (concat2 w1 ⟨some ⟨g1, 0, none⟩, s, s⟩ ⟨xa, xn, xc⟩ bs zs ⟨O1.out.seg, HBL.out⟩ ⟨HX.out.1.q Q1.out, HX.out.2⟩ (by have := HBL.out; have := HX.out.2; have := HS.out; omega)).mono ?_; rintro e w2 ⟨t, rfl, q2, r2⟩; have Q2 := hid (Q1.out.trans q2); have R2 := hid r2; clear q2 r2))
  go_ret
  exact ⟨t, rfl, Q2.out, R2.out⟩
/-- A message: its type, its length, its body. -/
def msgL (kind : Int) (body : List Int) : List Int := [kind] ++ (be 3 (body.length : Int) ++ body)
set_option maxHeartbeats 4000000 in
theorem build_any (kind : Int) (pb m c : Nat) (P : Nat → Sv) (Z : Nat → List Int) (w : World) (hp : ∀ j, j < m → w.cell? ⟨pb, j, none⟩ = some (.slice (P j).a (P j).n (P j).c)) (hz : ∀ j, j < m → Seg w (P j).a (Z j) ∧ (Z j).length = (P j).n) (hm : m ≤ 100) (ht : (cat Z m).length ≤ 800000) :
    Calls Try.prog 36 #[.int .u8 kind, .slice (some ⟨pb, 0, none⟩) m c] w fun e w' => ∃ t : Sv, e = .returned (.slice t.a t.n t.c) ∧ Q w w' ∧ Row w' t (msgL kind (cat Z m)) := by
  have HC := hid (fun (W : World) (q : Q w W) => concat_any pb m c P Z W (fun j hj => by rw [q.cell (lt_of_cell (hp j hj))]; exact hp j hj) (fun j hj => ⟨(hz j hj).1.q q, (hz j hj).2⟩) hm (by omega))
  have HT := hid ht
  clear hp hz ht
  generalize hcz : cat Z m = zs at *
  clear hcz
  go_enter Try.func36, Try.ntmps36
  go_wp2_with (first
    | (go_at_call 55; first
        | (refine (HC.out _ ((Q.refl w).alloc _)).mono ?_; rintro e w1 ⟨x, rfl, q1, r1, -⟩; have Q1 := hid q1; have R1 := hid r1; have K1 := hid (show Seg w1 (some ⟨w.heap.size, 0, none⟩) [kind] from (seg_lit1 w kind).q q1); clear q1 r1 HC)
        | (refine (concat2 w2 ⟨some ⟨w.heap.size, 0, none⟩, 1, 1⟩ t [kind] _ ⟨K2.out, rfl⟩ ⟨R2.out.seg, Row.len R2.out⟩ (by rw [List.length_append, be_length]; have := HT.out; simp; omega)).mono ?_; rintro e w3 ⟨y, rfl, q3, r3⟩; have Q3 := hid (((Q.refl w).alloc _).trans ((Q1.out.trans Q2.out).trans q3)); have R3 := hid r3; clear q3 r3))
    | (go_at_call 35; refine (sized_any' x zs 3 w1 ⟨R1.out.seg, Row.len R1.out⟩ (by omega) (by omega) (by rw [← Row.len R1.out]; have := HT.out; omega)).mono ?_; rintro e w2 ⟨t, rfl, q2, r2⟩; have Q2 := hid q2; have R2 := hid r2; have K2 := hid (K1.out.q q2); clear q2 r2))
  go_ret
  refine ⟨y, rfl, Q3.out, ?_⟩
  unfold msgL
  have h5 := R3.out
  rw [← Row.len R1.out] at h5
  exact h5
end Go.Proofs.Ytekpepnonhbkcaa
