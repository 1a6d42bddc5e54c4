/-
  The law on cuts, walked.
-/
import Derived.Test.YtdlefmlienfjhaaCuA
import Derived.Test.YtdlefmlienfjhaaCuB
namespace Go.Proofs.Ytdlefmlienfjhaa
open Go.RowKit
set_option linter.unusedVariables false
set_option maxRecDepth 100000

set_option maxHeartbeats 32000000 in
theorem cuts_walk (st : Int) (ba : Option Addr) (bn bc : Nat) (bs : List Int) (ca : Option Addr) (cn cc : Nat) (cs : List Int) (w : World) (hl : bs.length = bn) (hn : bn ≤ 1000000000000) (hz : ∀ y ∈ bs, 0 ≤ y ∧ y < 256) (hs : Seg w ba bs) (hcl : cs.length = cn) (hcn : cn ≤ 140737488355328) (hcs : SegN w ca cs) :
    Calls Try.prog 5 #[.int .i64 st, .slice ba bn bc, .slice ca cn cc] w fun e w' => e = .returned (.bool true) ∧ Q w w' := by
  by_cases h1 : st = 1
  · subst h1
    exact cuts_k1 ba bn bc bs ca cn cc cs w hl hn hz hs hcl hcn hcs
  · by_cases h2 : st = 2
    · subst h2
      exact cuts_k2 ba bn bc bs ca cn cc cs w hl hn hz hs hcl hcn hcs
    · have hb1 : (st != 1) = true := by simp [h1]
      have hb2 : (st != 2) = true := by simp [h2]
      clear hl hn hz hs hcl hcn hcs
      go_enter Try.func5, Try.ntmps5
      go_wp2_with (go_at_call 10; refine (awake_any _).mono ?_; rintro e w9 ⟨rfl, q9⟩; have X9 := hid q9; clear q9)
      go_ret
      exact ⟨rfl, X9.out⟩
end Go.Proofs.Ytdlefmlienfjhaa
