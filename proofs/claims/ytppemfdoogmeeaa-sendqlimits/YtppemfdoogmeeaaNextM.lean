/-
  How the document's own Next gathers its chunk, with no Go in it.
-/
import Derived.Test.YtppemfdoogmeeaaMath
namespace Go.Proofs.Ytppemfdoogmeeaa
set_option linter.unusedVariables false

/-- The mark that is gone over. -/
def nxV (s : S) : Int := if fs 2 s.ms < s.ms.length then 2 else 0
theorem fs0 {room : Int} {s : S} (h : Ok room s) : fs 0 s.ms = s.sent :=
  fs_uniq h.sent (fun i hi e => by have := (h.fr i (by have := h.sent; omega)).1 e; omega) (fun hk => (h.fr _ hk).2 (Nat.le_refl _))
theorem lp_in {room : Int} {s : S} (h : Ok room s) (most limit : Int) (j : Nat) (hj : j < nxN s most limit) :
    nxA s + j < s.ms.length ∧ at_ s.ms (nxA s + j) = nxV s ∧ (j : Int) < most ∧ (nxV s = 2 ∨ ((nxA s + j : Nat) : Int) < limit) := by
  have h1 := nx_in h most limit
  have h2 := nx_mark h most limit (nxA s + j) (by omega) (by omega)
  have h3 := nxN_most s most limit
  refine ⟨by omega, ?_, by omega, ?_⟩
  · unfold nxV
    split
    · next hf =>
      rcases h2 with h2 | h2
      · exact h2.1
      · have hA : nxA s = fs 2 s.ms := by unfold nxA; rw [if_pos hf]
        have hN : nxN s most limit = min (ld 2 (s.ms.drop (fs 2 s.ms))) most.toNat := by unfold nxN; rw [if_pos hf]
        have := ld_at 2 (s.ms.drop (fs 2 s.ms)) j (by omega)
        rw [at_drop, ← hA] at this
        exact this
    · next hf =>
      rcases h2 with h2 | h2
      · exfalso
        have := fs_le 2 s.ms
        have := fs_lt 2 s.ms (nxA s + j) (by omega)
        exact this h2.1
      · exact h2.1
  · unfold nxV
    split
    · exact .inl rfl
    · next hf =>
      right
      rcases h2 with h2 | h2
      · exfalso
        have := fs_le 2 s.ms
        have := fs_lt 2 s.ms (nxA s + j) (by omega)
        exact this h2.1
      · exact h2.2.2
theorem lp_out {room : Int} {s : S} (h : Ok room s) (most limit : Int) (h1 : nxA s + nxN s most limit < s.ms.length) (h2 : at_ s.ms (nxA s + nxN s most limit) = nxV s) (h3 : (nxN s most limit : Int) < most) : nxV s ≠ 2 ∧ limit ≤ ((nxA s + nxN s most limit : Nat) : Int) := by
  unfold nxV at h2 ⊢
  unfold nxN nxA at *
  split
  · next hf =>
    rw [if_pos hf, if_pos hf] at h1 h2
    rw [if_pos hf] at h3
    exfalso
    have hl : min (ld 2 (s.ms.drop (fs 2 s.ms))) most.toNat = ld 2 (s.ms.drop (fs 2 s.ms)) := by omega
    rw [hl] at h1 h2
    have := ld_end 2 (s.ms.drop (fs 2 s.ms)) (by rw [List.length_drop]; omega)
    rw [at_drop] at this
    rw [if_pos hf] at h2
    exact this h2
  · next hf =>
    rw [if_neg hf, if_neg hf] at h1
    rw [if_neg hf] at h3
    refine ⟨by omega, ?_⟩
    have := h.sent
    omega
theorem nx_none {room : Int} {s : S} (h : Ok room s) (most limit : Int) (hf : ¬ fs 2 s.ms < s.ms.length) (hs : ¬ s.sent < s.ms.length) : nxN s most limit = 0 := by
  unfold nxN
  rw [if_neg hf]
  have := h.sent
  omega
end Go.Proofs.Ytppemfdoogmeeaa
