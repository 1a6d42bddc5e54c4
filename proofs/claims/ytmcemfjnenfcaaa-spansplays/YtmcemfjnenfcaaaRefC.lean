/-
  What the document's own Add does, in the words of the program's: a contract that the walk of SpansPlays uses.
-/
import Derived.Test.YtmcemfjnenfcaaaRefA
import Derived.Test.YtmcemfjnenfcaaaRefB
namespace Go.Proofs.Ytmcemfjnenfcaaa
open Go.RowKit
set_option linter.unusedVariables false

theorem radd_any (rd : Nat) (a : Option Addr) (n c : Nat) (most floor : Int) (xs : List Sp) (f t : Int) (w : World) (hs : Rt w rd a n c most floor xs) (hok : Ok most floor xs) :
    Calls Try.prog 16 #[.pointer (some ⟨rd, 0, none⟩), .int .i64 f, .int .i64 t] w fun e w' => e = .returned (.tuple #[.int .i64 (adN floor f t xs), .int .i64 (adE f t)]) ∧
      (∃ a' n' c', Rt w' rd a' n' c' most (adF most floor f t xs) (adL most floor f t xs) ∧ (blk a' = blk a ∨ ∀ b, blk a' = some b → w.heap.size ≤ b)) ∧ Keep (fun k => k = rd) w w' := by
  unfold adN adF adL adE
  by_cases hb : f < 0 ∨ t < f ∨ 4611686018427387903 < t
  · have hl : ¬ lays floor f t := by unfold lays; omega
    rw [if_pos hb, if_neg hl, if_neg hl, if_neg hl]
    refine (radd_bad rd f t w hb).mono ?_
    rintro e w' ⟨rfl, rfl⟩
    exact ⟨rfl, ⟨a, n, c, hs, .inl rfl⟩, Keep.refl _ _⟩
  · rw [if_neg hb]
    by_cases hl : lays floor f t
    · rw [if_pos hl, if_pos hl, if_pos hl]
      have h2 := hl.2
      rw [← ovs_eq hok.ap h2, ← pl_eq hok.ap h2, ← jnc_eq hok.ap h2]
      by_cases hff : floor ≤ f
      · rw [show max f floor = f by omega]
        refine (radd_lay1 rd a n c most floor xs f t w hs hok (by omega) (by omega) (by omega) (by omega) hff).mono ?_
        rintro e w' ⟨rfl, ⟨a', n', c', h3, h4⟩, h5⟩
        exact ⟨rfl, ⟨a', n', c', h3, .inr h4⟩, h5⟩
      · rw [show max f floor = floor by omega]
        refine (radd_lay2 rd a n c most floor xs f t w hs hok (by omega) (by omega) (by omega) (by omega) (by omega)).mono ?_
        rintro e w' ⟨rfl, ⟨a', n', c', h3, h4⟩, h5⟩
        exact ⟨rfl, ⟨a', n', c', h3, .inr h4⟩, h5⟩
    · rw [if_neg hl, if_neg hl, if_neg hl]
      refine (radd_low rd most floor a n c f t w hs.hd (by omega) (by omega) (by omega) (by unfold lays at hl; omega)).mono ?_
      rintro e w' ⟨rfl, rfl⟩
      exact ⟨rfl, ⟨a, n, c, hs, .inl rfl⟩, Keep.refl _ _⟩

end Go.Proofs.Ytmcemfjnenfcaaa
