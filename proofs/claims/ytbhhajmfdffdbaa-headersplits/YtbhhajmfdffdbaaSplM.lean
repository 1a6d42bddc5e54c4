/-
  The pieces of a datagram are few, and no part of one is longer than the datagram. Plain mathematics. Nothing is proved of a statement here.
-/
import Derived.Test.YtbhhajmfdffdbaaTileM
import Derived.Test.YtbhhajmfdffdbaaLenM
namespace Go.Proofs.Ytbhhajmfdffdbaa
open Go.RowKit
set_option linter.unusedVariables false

def Lens (zs : List Int) (H : Hd) : Prop := H.dst.length ≤ zs.length ∧ H.src.length ≤ zs.length ∧ H.tok.length ≤ zs.length ∧ H.vers.length ≤ zs.length
theorem spl_lens {zs : List Int} {cid : Int} (hz : ∀ y ∈ zs, 0 ≤ y ∧ y < 256) : ∀ (k : Nat) (P : Int) (acc : List Pc), 0 ≤ P → P ≤ zs.length → (∀ t ∈ acc, Lens zs t.1) → ∀ t ∈ (spl zs cid k P acc).1, Lens zs t.1 := by
  intro k
  induction k with
  | zero => intro P acc _ _ h; exact h
  | succ k ih =>
    intro P acc h0 h1 h
    rw [spl]
    by_cases hP : (zs.length : Int) ≤ P
    · rw [if_pos hP]; exact h
    rw [if_neg hP]
    cases ho : hdrO zs cid P with
    | bad x =>
      dsimp only
      by_cases ha : acc = []
      · rw [if_pos ha]; intro t ht; cases ht
      · rw [if_neg ha]; exact h
    | ok H q =>
      dsimp only
      obtain ⟨pq, h2, h3, h4⟩ := hdrO_pl ⟨hz, h0, h1⟩ ho
      refine ih _ _ (by omega) h4 (fun t ht => ?_)
      rcases List.mem_append.1 ht with ht | ht
      · exact h t ht
      · rw [List.mem_singleton.1 ht]; exact hdrO_len ⟨hz, h0, h1⟩ ho
theorem splA_len {zs : List Int} {cid : Int} (hz : ∀ y ∈ zs, 0 ≤ y ∧ y < 256) : (splA zs cid).1.length ≤ 16384 ∧ ∀ j, j < (splA zs cid).1.length → Lens zs ((splA zs cid).1.getD j zp.1).1 := by
  have ht := splA_tiled (cid := cid) hz
  unfold splA at ht ⊢
  split
  · exact ⟨by simp, fun j hj => by simp at hj⟩
  rename_i h1
  rw [if_neg h1] at ht
  split
  · exact ⟨by simp, fun j hj => by simp at hj⟩
  rename_i h2
  rw [if_neg h2] at ht
  constructor
  · by_cases he : (spl zs cid zs.length 0 []).2 = 0
    · obtain ⟨⟨P, hT⟩, hne⟩ := ht.1 he
      have hle := tiled_le hT _ (Nat.le_refl _)
      have hpos : 0 < (spl zs cid zs.length 0 []).1.length := List.length_pos_iff.2 hne
      have := hle.2 hpos
      omega
    · rw [ht.2 he]; simp
  · intro j hj
    refine spl_lens (cid := cid) hz zs.length 0 [] (by omega) (by omega) (fun t h => by cases h) _ ?_
    rw [List.getD_eq_getElem?_getD, List.getElem?_eq_getElem hj]
    exact List.getElem_mem _
end Go.Proofs.Ytbhhajmfdffdbaa
