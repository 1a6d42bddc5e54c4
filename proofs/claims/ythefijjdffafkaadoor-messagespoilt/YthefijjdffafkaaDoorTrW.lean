/-
  The law on trailers, walked whole.
-/
import Derived.Test.YthefijjdffafkaaDoorDoC
import Derived.Test.YthefijjdffafkaaDoorDoD
import Derived.Deep.RegionHeld3
namespace Go.Proofs.YthefijjdffafkaaDoor
open Go.RowKit
set_option linter.unusedVariables false
set_option maxRecDepth 100000

theorem RowG.fin {w : World} {x : Sv} {l : List Fd} (h : RowG w x l) (hc : x.n ≤ x.c) (hb : l.length ≤ 4398046511104) (hd : BdF l) : Fin w x l := ⟨h.seg, h.len, hc, hb, hd⟩
end Go.Proofs.YthefijjdffafkaaDoor
