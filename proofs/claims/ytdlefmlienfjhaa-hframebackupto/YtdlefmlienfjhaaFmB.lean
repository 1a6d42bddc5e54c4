/-
  framed: a contract that the statements' walks use.
-/
import Derived.Test.YtdlefmlienfjhaaBkM
import Derived.Test.YtdlefmlienfjhaaSeW
namespace Go.Proofs.Ytdlefmlienfjhaa
open Go.RowKit
set_option linter.unusedVariables false
set_option maxRecDepth 20000

theorem frB_frW {k : Int} {p : List Int} (hk : okN k) (hp : p.length ≤ 1048576) : frB k p = frW k p ∧ frE k p.length = 0 := by
  have h : frE k p.length = 0 := by unfold frE; rw [if_neg (by intro h; exact h hk), if_neg (by omega)]
  exact ⟨by unfold frB frW; rw [if_pos h], h⟩
set_option maxHeartbeats 4000000 in
theorem framed_any (x z : Sv) (J p : List Int) (k : Int) (w : World) (hx : Seg w x.a J ∧ J.length = x.n) (hz : Seg w z.a p ∧ p.length = z.n) (hk : okN k) (hp : p.length ≤ 1048576) (hJ : J.length ≤ 10000000) :
    Calls Try.prog 28 #[.slice x.a x.n x.c, .int .i64 k, .slice z.a z.n z.c] w fun e w' => ∃ y : Sv, e = .returned (.slice y.a y.n y.c) ∧ Q w w' ∧ Row w' y (J ++ frW k p) ∧ New w.heap.size y := by
  obtain ⟨xa, xn, xc⟩ := x
  obtain ⟨za, zn, zc⟩ := z
  dsimp only at hx hz
  have HX := hid hx
  have HZ := hid hz
  have HJL := hid hJ
  have HFW := hid (frB_frW hk hp)
  have HWL := hid (frW_len k p)
  have HPL := hid hp
  have HC := hid (rcopy_any za zn zc p w hz.2 (by have := hz.2; omega) hz.1)
  have HF := hid (fun (W : World) (g : Nat) (o : Seg W (some ⟨g, 0, none⟩) p) => frame_any k (some ⟨g, 0, none⟩) zn zn p W hz.2 (by have := hz.2; omega) o)
  have hzn := hz.2
  rw [← hzn, HFW.out.1, HFW.out.2] at HF
  subst hzn
  clear hx hz hk hp hJ
  go_enter Try.func28, Try.ntmps28
  go_wp2_with fail
  refine HC.out.mono ?_
  rintro e w1 ⟨g, rfl, q1, o1, n1⟩
  have Q1 := hid q1
  have HF1 := hid (HF.out w1 g (Own.seg o1))
  clear q1 o1 n1 HC HF
  go_wp2_with fail
  refine HF1.out.mono ?_
  rintro e w2 ⟨⟨ya, yn, yc⟩, rfl, q2, r2, n2⟩
  have Q2 := hid (Q1.out.trans q2)
  have HJ2 := hid (join_two w2 ⟨xa, xn, xc⟩ ⟨ya, yn, yc⟩ J (frW k p) ⟨HX.out.1.q Q2.out, HX.out.2⟩ (Row.segl r2) (by have := HJL.out; have := HWL.out; have := HPL.out; omega))
  dsimp only at HJ2
  clear q2 r2 n2 HF1
  go_wp2_with fail
  refine HJ2.out.mono ?_
  rintro e w3 ⟨⟨ra, rn, rc⟩, rfl, q3, r3, n3⟩
  have Q3 := hid (Q2.out.trans q3)
  have R3 := hid r3
  have N3 := hid (show New w.heap.size ⟨ra, rn, rc⟩ from fun b e => by have h1 := n3 b e; have h2 := Q2.out.size; omega)
  clear q3 r3 n3 HJ2
  go_wp2_with fail
  go_ret
  exact ⟨⟨ra, rn, rc⟩, rfl, Q3.out, R3.out, N3.out⟩
end Go.Proofs.Ytdlefmlienfjhaa
