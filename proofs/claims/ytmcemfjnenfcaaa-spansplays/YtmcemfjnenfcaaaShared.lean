/-
  What the inner function shared of layer 2 does: how many numbers are in both spans. A contract that the walk of Add uses.
-/
import Derived.Test.YtmcemfjnenfcaaaSet
import Derived.Lib.MinMax
namespace Go.Proofs.Ytmcemfjnenfcaaa
open Go.RowKit
set_option linter.unusedVariables false

set_option maxHeartbeats 1000000 in
theorem shared_any (x y : Sp) (w : World) (h0 : 0 ≤ x.1) (h1 : x.1 ≤ 4611686018427387904) (h2 : 0 ≤ x.2) (h3 : x.2 ≤ 4611686018427387904) (k0 : 0 ≤ y.1) (k1 : y.1 ≤ 4611686018427387904) (k2 : 0 ≤ y.2) (k3 : y.2 ≤ 4611686018427387904) :
    Calls Try.prog 25 #[.agg #[.int .i64 x.1, .int .i64 x.2], .agg #[.int .i64 y.1, .int .i64 y.2]] w fun e w' => e = .returned (.int .i64 (ov y x)) ∧ Q w w' := by
  have HL := hid (fun w => length_any (max x.1 y.1, min x.2 y.2) w (by simp only; omega) (by simp only; omega) (by simp only; omega) (by simp only; omega))
  go_enter Try.func25, Try.ntmps25
  go_wp2_with fail
  refine (HL.out _).mono ?_
  rintro e w' ⟨rfl, hq⟩
  have HQ := hid (Q.trans (((Q.refl w).alloc _).alloc _) hq)
  clear hq
  go_wp2
  go_ret
  exact ⟨rfl, HQ.out⟩

end Go.Proofs.Ytmcemfjnenfcaaa
