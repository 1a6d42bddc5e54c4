/-
  What route's Next and retry do with a table that lies in memory: contracts that the statement's walk uses.
-/
import Derived.Test.YtnnjogfpapndaaaTbl
import Derived.Deep.RegionHeld3
namespace Go.Proofs.Ytnnjogfpapndaaa
open Go.RowKit
set_option linter.unusedVariables false
set_option maxRecDepth 20000

set_option maxHeartbeats 8000000 in
theorem next_any (tb mi mc : Nat) (k : Sv) (ser : Int) (w : World) (hT : Tb w tb mi mc k ser) (s0 : 0 ≤ ser) (s1 : ser < 1000000) :
    Calls Try.prog 92 #[.pointer (some ⟨tb, 0, none⟩)] w fun e w' => ∃ x : Sv, e = .returned (.slice x.a x.n x.c) ∧ Keep (fun i => i = tb) w w' ∧ Tb w' tb mi mc k (ser + 1) ∧ Row w' x (mkL secL 9 ser) ∧ New w.heap.size x := by
  have hn := hT.n
  obtain ⟨ka, kn, kc⟩ := k
  dsimp only at hn
  subst hn
  have HT := hid hT
  have c0 := hT.c0
  have c1 := hT.c1
  have c4 := hT.c4
  dsimp only at c0
  have MK := hid (fun u (hu : Q w u) => make_any ⟨ka, 16, kc⟩ secL 9 ser u (HT.out.i.q hu))
  dsimp only at MK
  have q0 : Q w w := Q.refl _
  have hw1 : IntKind.i64.wrap (ser + 1) = ser + 1 := by rw [wrap_i64]; omega
  have HS := hid (And.intro s0 s1)
  clear hT s0 s1
  go_enter Try.func92, Try.ntmps92
  go_wp2
  go_region_held3 (fun u => Q w u ∧ u.cell? ⟨tb, 0, none⟩ = some (.slice ka 16 kc) ∧ u.cell? ⟨tb, 1, none⟩ = some (.int .i64 9) ∧ u.cell? ⟨tb, 4, none⟩ = some (.int .i64 ser)) (repeat (first | (with_reducible assumption) | (with_reducible apply Q.drew) | (with_reducible apply Q.drewN) | (with_reducible refine dcel ?_) | (with_reducible refine dcelN ?_) | (with_reducible apply And.intro)))
    (first | (go_at_call 8; refine (MK.out _ (by repeat (first | (with_reducible assumption) | (with_reducible apply Q.drew) | (with_reducible apply Q.drewN)))).mono ?_; rintro e w1 ⟨⟨xa, xn, xc⟩, rfl, q1, r1, n1⟩; have j1 : Q w w1 := Q.trans (by repeat (first | (with_reducible assumption) | (with_reducible apply Q.drew) | (with_reducible apply Q.drewN))) q1; have t0 := (HT.out.q j1).c0; have t1 := (HT.out.q j1).c1; have t4 := (HT.out.q j1).c4; dsimp only at t0))
  have T1 := hid (HT.out.q j1)
  have Q1 := hid j1
  have R1 := hid r1
  have N1 := hid (show New w.heap.size ⟨xa, xn, xc⟩ from n1.mono (by simp))
  have fz := T1.out.free 4
  have FIN := hid (show Keep (fun i => i = tb) w (w1.setCell ⟨tb, 4, none⟩ (.int .i64 (ser + 1))) ∧ Tb (w1.setCell ⟨tb, 4, none⟩ (.int .i64 (ser + 1))) tb mi mc ⟨ka, 16, kc⟩ (ser + 1) ∧ Row (w1.setCell ⟨tb, 4, none⟩ (.int .i64 (ser + 1))) ⟨xa, xn, xc⟩ (mkL secL 9 ser) from
    ⟨(Keep.ofQ Q1.out).setCell tb _ _ (.inl rfl), T1.out.set _, Sub.keep R1.out ((Keep.refl (fun i => i = tb) w1).setCell tb _ _ (.inl rfl)) (fun i e e2 => by have := N1.out i e; have := HT.out.lt; omega)⟩)
  clear q1 r1 n1 j1 c0 c1 c4 t0 t1 q0 MK R1
  go_wp2
  go_ret
  exact ⟨⟨xa, xn, xc⟩, rfl, FIN.out.1, FIN.out.2.1, FIN.out.2.2, N1.out⟩
end Go.Proofs.Ytnnjogfpapndaaa
