/-
  The law on messages, walked whole.
-/
import Derived.Test.YtdlefmlienfjhaaBaA
import Derived.Test.YtdlefmlienfjhaaBaB
import Derived.Test.YtdlefmlienfjhaaBaC
namespace Go.Proofs.Ytdlefmlienfjhaa
open Go.RowKit
set_option linter.unusedVariables false

theorem back_walk (h p t j : Sv) (has : Bool) (odd : Int) (HD TR JS : List Int) (L : List (Sv × List Int)) (w : World)
    (hh : Seg w h.a HD ∧ HD.length = h.n ∧ HD.length ≤ 1048576 ∧ byt HD) (ht : Seg w t.a TR ∧ TR.length = t.n ∧ TR.length ≤ 1048576 ∧ byt TR) (hj : Seg w j.a JS ∧ JS.length = j.n ∧ JS.length ≤ 1048576 ∧ byt JS)
    (hp : SegP w p.a L ∧ L.length = p.n) (hpl : ∀ q ∈ L, q.2.length = q.1.n ∧ q.2.length ≤ 1048576 ∧ byt q.2) (hT : tot JS.length HD L TR ≤ 900000000000) :
    Calls Try.prog 6 #[.agg #[.slice h.a h.n h.c, .slice p.a p.n p.c, .slice t.a t.n t.c, .bool has, .int .i64 odd, .slice j.a j.n j.c]] w fun e w' => e = .returned (.bool true) ∧ Q w w' := by
  by_cases hok : okN odd
  · by_cases h13 : odd ≤ 13
    · exact back_a h p t j has odd HD TR JS L w hh ht hj hp hpl hT hok h13
    · exact back_b h p t j has odd HD TR JS L w hh ht hj hp hpl hT hok h13
  · exact back_c h p t j has odd HD TR JS L w hh ht hj hp hpl hT hok

end Go.Proofs.Ytdlefmlienfjhaa
