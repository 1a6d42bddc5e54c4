/-
  Fields in memory; the first field of a name: contracts that the statements' walks use.
-/
import Derived.Test.YthefijjdffafkaaDoorRnL
namespace Go.Proofs.YthefijjdffafkaaDoor
open Go.RowKit
set_option linter.unusedVariables false
set_option maxRecDepth 20000

/-- The fields that a slice of fields holds. -/
def SegF (w : World) (a : Option Addr) (l : List Fd) : Prop :=
  l ≠ [] → ∃ g off, a = some ⟨g, off, none⟩ ∧ ∀ k p, l[k]? = some p → w.cell? ⟨g, off + k * 2, none⟩ = some (.string p.1) ∧ w.cell? ⟨g, off + k * 2 + 1, none⟩ = some (.string p.2)
theorem SegF.q {w w' : World} {a : Option Addr} {l : List Fd} (h : SegF w a l) (hq : Q w w') : SegF w' a l := by
  intro hne
  obtain ⟨g, off, ha, hc⟩ := h hne
  refine ⟨g, off, ha, fun k p hk => ?_⟩
  obtain ⟨c0, c1⟩ := hc k p hk
  exact ⟨by rw [hq.cell (lt_of_cell c0)]; exact c0, by rw [hq.cell (lt_of_cell c1)]; exact c1⟩
theorem SegF.keep {F : Nat → Prop} {w w' : World} {a : Option Addr} {l : List Fd} (h : SegF w a l) (k : Keep F w w') (hF : ∀ b, blk a = some b → ¬ F b) : SegF w' a l := by
  intro hne
  obtain ⟨g, off, ha, hc⟩ := h hne
  have hg : ¬ F g := hF g (by rw [ha]; rfl)
  exact ⟨g, off, ha, fun i p hi => ⟨k.cell (hc i p hi).1 hg, k.cell (hc i p hi).2 hg⟩⟩
theorem SegF.at {w : World} {a : Option Addr} {l : List Fd} (h : SegF w a l) {k : Nat} (hk : k < l.length) : ∃ g off p, a = some ⟨g, off, none⟩ ∧ l[k]? = some p ∧ w.cell? ⟨g, off + k * 2, none⟩ = some (.string p.1) ∧ w.cell? ⟨g, off + k * 2 + 1, none⟩ = some (.string p.2) := by
  obtain ⟨g, off, ha, hc⟩ := h (by intro e; subst e; simp at hk)
  have he : l[k]? = some l[k] := List.getElem?_eq_getElem hk
  exact ⟨g, off, l[k], ha, he, (hc k _ he).1, (hc k _ he).2⟩
theorem SegF.take {w : World} {a : Option Addr} {l : List Fd} (h : SegF w a l) (n : Nat) : SegF w a (l.take n) := by
  intro hne
  obtain ⟨g, off, ha, hc⟩ := h (by intro e; subst e; simp at hne)
  refine ⟨g, off, ha, fun k p hk => hc k p ?_⟩
  rw [List.getElem?_take] at hk
  split at hk
  · exact hk
  · cases hk
theorem fnd_at {l : List Fd} {n : ByteArray} {k : Nat} {p : Fd} (h : l[k]? = some p) (h0 : fnd (l.take k) n = none) : (eqS p.1 n = true → fnd l n = some p.2) ∧ (eqS p.1 n = false → fnd (l.take (k + 1)) n = none) := by
  have hk : k < l.length := (List.getElem?_eq_some_iff.1 h).1
  have hp : l[k] = p := (List.getElem?_eq_some_iff.1 h).2
  have h0' : (l.take k).find? (fun f => eqS f.1 n) = none := by
    unfold fnd at h0
    simpa using h0
  constructor
  · intro e
    have hl : l = l.take k ++ p :: l.drop (k + 1) := by
      conv => lhs; rw [← List.take_append_drop k l]
      rw [List.drop_eq_getElem_cons hk, hp]
    unfold fnd
    rw [hl, List.find?_append, h0']
    simp [e]
  · intro e
    unfold fnd
    rw [List.take_add_one, h, List.find?_append, h0']
    simp [e]
theorem fnd_end {l : List Fd} {n : ByteArray} {k : Nat} (hk : l.length ≤ k) (h0 : fnd (l.take k) n = none) : fnd l n = none := by
  rw [List.take_of_length_le hk] at h0; exact h0
/-- What valueOf tells. -/
def vaA (o : Option ByteArray) : Value := .tuple #[.string (o.getD ⟨#[]⟩), .bool o.isSome]
set_option maxHeartbeats 4000000 in
theorem valueOf_any (x : Sv) (n : ByteArray) (l : List Fd) (w : World) (hx : SegF w x.a l) (hl : l.length = x.n) (hb : l.length ≤ 8796093022208) : Calls Tryd.prog 39 #[.slice x.a x.n x.c, .string n] w fun e w' => e = .returned (vaA (fnd l n)) ∧ Q w w' := by
  obtain ⟨xa, xn, xc⟩ := x
  dsimp only at *
  subst hl
  have HX := hid hx
  have HB := hid hb
  clear hx hb
  go_enter Tryd.func39, Tryd.ntmps39
  go_wp2
  go_loopw [10] (fun i wr => ∃ k : Nat, k ≤ l.length ∧ i = .int .i64 (k : Int) ∧ fnd (l.take k) n = none ∧ Q w wr) (fun i _ => l.length - (intOf i).toNat)
  case atStart => exact ⟨0, by omega, rfl, rfl, Q.refl w⟩
  case round =>
    obtain ⟨k, hk, rfl, h0, hq⟩ := hrel
    have HQ := hid hq
    by_cases hlt : k < l.length
    · obtain ⟨g, off, ⟨p1, p2⟩, ha, hp, c0, c1⟩ := (HX.out.q hq).at hlt
      subst ha
      have hF := fnd_at hp h0
      have HF := hid hF
      dsimp only at HF c0 c1
      have hqs := beq_eqS p1 n
      have HA := hid (hq.alloc (.cells #[.string p1, .string p2] 37))
      have hki : (k : Int) < (l.length : Int) := by omega
      have hk0 : (0 : Int) ≤ (k : Int) := by omega
      have hkb : (k : Int) < 8796093022208 := by have := HB.out; omega
      clear hq h0 hF hp
      cases he : eqS p1 n with
      | true =>
        rw [he] at hqs HF
        have HFF := hid (HF.out.1 rfl)
        clear HF he
        go_wp2
        go_ret2
        exact ⟨by rw [HFF.out]; rfl, HA.out⟩
      | false =>
        rw [he] at hqs HF
        have HFF := hid (HF.out.2 rfl)
        clear HF he
        go_wp2
        go_roundw
        case rel => exact ⟨k + 1, by omega, by go_num, HFF.out, HA.out⟩
        case measure => simp [intOf]; omega
    · have hki : ¬ (k : Int) < (l.length : Int) := by omega
      have HF := hid (fnd_end (by omega) h0)
      clear hq h0
      go_wp2
      go_ret2
      exact ⟨by rw [HF.out]; rfl, HQ.out⟩
end Go.Proofs.YthefijjdffafkaaDoor
