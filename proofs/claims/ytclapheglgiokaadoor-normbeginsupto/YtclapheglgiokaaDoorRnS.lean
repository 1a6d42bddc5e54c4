/-
  The method, the target, the authority: contracts that the statements' walks use.
-/
import Derived.Test.YtclapheglgiokaaDoorRnR
namespace Go.Proofs.YtclapheglgiokaaDoor
open Go.RowKit
set_option linter.unusedVariables false
set_option maxRecDepth 20000

theorem vaA_none : vaA none = .tuple #[.string ⟨#[]⟩, .bool false] := rfl
theorem vaA_some (m : ByteArray) : vaA (some m) = .tuple #[.string m, .bool true] := rfl
structure Fin (w : World) (x : Sv) (l : List Fd) : Prop where
  s : SegF w x.a l
  len : l.length = x.n
  c : x.n ≤ x.c
  b : l.length ≤ 4398046511104
  d : BdF l
theorem Fin.q {w w' : World} {x : Sv} {l : List Fd} (h : Fin w x l) (k : Q w w') : Fin w' x l := ⟨h.s.q k, h.len, h.c, h.b, h.d⟩
theorem fnd_some (l : List Fd) (n : ByteArray) : ∃ v, vaA (fnd l n) = .tuple #[.string v, .bool (fnd l n).isSome] ∧ v = (fnd l n).getD ⟨#[]⟩ := ⟨_, rfl, rfl⟩
theorem star_pt (p : ByteArray) (h : eqS p kStar = true) : allB ptB p = true := by
  have := (eqS_iff p kStar).1 h
  subst this
  decide
end Go.Proofs.YtclapheglgiokaaDoor
