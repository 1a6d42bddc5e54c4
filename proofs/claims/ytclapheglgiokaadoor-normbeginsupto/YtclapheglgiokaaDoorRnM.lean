/-
  Fields in memory; the first field of a name: contracts that the statements' walks use.
-/
import Derived.Test.YtclapheglgiokaaDoorRnL
namespace Go.Proofs.YtclapheglgiokaaDoor
open Go.RowKit
set_option linter.unusedVariables false
set_option maxRecDepth 20000

/-- The fields that a slice of fields holds. -/
def SegF (w : World) (a : Option Addr) (l : List Fd) : Prop :=
  l ≠ [] → ∃ g off, a = some ⟨g, off, none⟩ ∧ ∀ k p, l[k]? = some p → w.cell? ⟨g, off + k * 2, none⟩ = some (.string p.1) ∧ w.cell? ⟨g, off + k * 2 + 1, none⟩ = some (.string p.2)
theorem SegF.q {w w' : World} {a : Option Addr} {l : List Fd} (h : SegF w a l) (hq : Q w w') : SegF w' a l := by
  intro hne
  obtain ⟨g, off, ha, hc⟩ := h hne
  refine ⟨g, off, ha, fun k p hk => ?_⟩
  obtain ⟨c0, c1⟩ := hc k p hk
  exact ⟨by rw [hq.cell (lt_of_cell c0)]; exact c0, by rw [hq.cell (lt_of_cell c1)]; exact c1⟩
theorem SegF.keep {F : Nat → Prop} {w w' : World} {a : Option Addr} {l : List Fd} (h : SegF w a l) (k : Keep F w w') (hF : ∀ b, blk a = some b → ¬ F b) : SegF w' a l := by
  intro hne
  obtain ⟨g, off, ha, hc⟩ := h hne
  have hg : ¬ F g := hF g (by rw [ha]; rfl)
  exact ⟨g, off, ha, fun i p hi => ⟨k.cell (hc i p hi).1 hg, k.cell (hc i p hi).2 hg⟩⟩
theorem SegF.at {w : World} {a : Option Addr} {l : List Fd} (h : SegF w a l) {k : Nat} (hk : k < l.length) : ∃ g off p, a = some ⟨g, off, none⟩ ∧ l[k]? = some p ∧ w.cell? ⟨g, off + k * 2, none⟩ = some (.string p.1) ∧ w.cell? ⟨g, off + k * 2 + 1, none⟩ = some (.string p.2) := by
  obtain ⟨g, off, ha, hc⟩ := h (by intro e; subst e; simp at hk)
  have he : l[k]? = some l[k] := List.getElem?_eq_getElem hk
  exact ⟨g, off, l[k], ha, he, (hc k _ he).1, (hc k _ he).2⟩
theorem SegF.take {w : World} {a : Option Addr} {l : List Fd} (h : SegF w a l) (n : Nat) : SegF w a (l.take n) := by
  intro hne
  obtain ⟨g, off, ha, hc⟩ := h (by intro e; subst e; simp at hne)
  refine ⟨g, off, ha, fun k p hk => hc k p ?_⟩
  rw [List.getElem?_take] at hk
  split at hk
  · exact hk
  · cases hk
theorem fnd_at {l : List Fd} {n : ByteArray} {k : Nat} {p : Fd} (h : l[k]? = some p) (h0 : fnd (l.take k) n = none) : (eqS p.1 n = true → fnd l n = some p.2) ∧ (eqS p.1 n = false → fnd (l.take (k + 1)) n = none) := by
  have hk : k < l.length := (List.getElem?_eq_some_iff.1 h).1
  have hp : l[k] = p := (List.getElem?_eq_some_iff.1 h).2
  have h0' : (l.take k).find? (fun f => eqS f.1 n) = none := by
    unfold fnd at h0
    simpa using h0
  constructor
  · intro e
    have hl : l = l.take k ++ p :: l.drop (k + 1) := by
      conv => lhs; rw [← List.take_append_drop k l]
      rw [List.drop_eq_getElem_cons hk, hp]
    unfold fnd
    rw [hl, List.find?_append, h0']
    simp [e]
  · intro e
    unfold fnd
    rw [List.take_add_one, h, List.find?_append, h0']
    simp [e]
theorem fnd_end {l : List Fd} {n : ByteArray} {k : Nat} (hk : l.length ≤ k) (h0 : fnd (l.take k) n = none) : fnd l n = none := by
  rw [List.take_of_length_le hk] at h0; exact h0
/-- What valueOf tells. -/
def vaA (o : Option ByteArray) : Value := .tuple #[.string (o.getD ⟨#[]⟩), .bool o.isSome]
end Go.Proofs.YtclapheglgiokaaDoor
