/-
  Which bytes went out and were not lost since, beside a queue of which nothing is done, with no Go in it: for the walk of the law SendqLimits.
-/
import Derived.Test.YtppemfdoogmeeaaMath
namespace Go.Proofs.Ytppemfdoogmeeaa
set_option linter.unusedVariables false

/-- Nothing is done; a bool says of each byte whether it is out. -/
structure LS (gs : List Bool) (s : S) : Prop where
  no3 : ∀ i, i < s.ms.length → at_ s.ms i ≠ 3
  gl : gs.length = s.ms.length
  eq : ∀ i, i < s.ms.length → (gs.getD i false = true ↔ at_ s.ms i = 1)
theorem ls0 : LS [] s0 := ⟨fun i hi => by simp [s0] at hi, rfl, fun i hi => by simp [s0] at hi⟩
theorem LS.bas {gs : List Bool} {s : S} (h : LS gs s) : bas s = 0 := ld_uniq (Nat.zero_le _) (fun i hi => by omega) (fun hk => h.no3 0 hk)
theorem getD_append (gs hs : List Bool) (i : Nat) : (gs ++ hs).getD i false = if i < gs.length then gs.getD i false else hs.getD (i - gs.length) false := by
  simp only [List.getD_eq_getElem?_getD, List.getElem?_append]; split <;> rfl
theorem getD_rep (n i : Nat) : (List.replicate n false).getD i false = false := by
  simp only [List.getD_eq_getElem?_getD, List.getElem?_replicate]; split <;> rfl
theorem LS.wr {gs : List Bool} {s : S} (h : LS gs s) (room : Int) (zs : List Int) : LS (gs ++ List.replicate (wrN room s zs.length) false) (wrS room s zs) := by
  refine ⟨fun i hi => ?_, ?_, fun i hi => ?_⟩
  · show at_ (s.ms ++ _) i ≠ 3
    rw [at_append]; split
    · next hh => exact h.no3 i hh
    · rw [at_rep]; split <;> omega
  · rw [wr_len, List.length_append, h.gl, List.length_replicate]
  · show _ ↔ at_ (s.ms ++ _) i = 1
    rw [getD_append, at_append, h.gl]
    split
    · next hh => exact h.eq i hh
    · rw [getD_rep, at_rep]
      constructor
      · intro e; cases e
      · intro e; split at e <;> omega
theorem LS.fi {gs : List Bool} {s : S} (h : LS gs s) : LS gs (fiS s) := ⟨h.no3, h.gl, h.eq⟩
theorem LS.nx {gs gs' : List Bool} {room : Int} {s : S} (h : LS gs s) (o : Ok room s) (most limit : Int) (hl : gs'.length = gs.length)
    (h1 : ∀ q, nxP s most limit ≤ q → q < nxP s most limit + nxN s most limit → gs'.getD q false = true) (h2 : ∀ q, q < nxP s most limit ∨ nxP s most limit + nxN s most limit ≤ q → gs'.getD q false = gs.getD q false) : LS gs' (nxS s most limit) := by
  have hP : nxN s most limit ≠ 0 → nxP s most limit = nxA s := fun hk => by unfold nxP; rw [if_neg hk]
  refine ⟨fun i hi => ?_, ?_, fun i hi => ?_⟩
  · rw [nxS_ms, rg_len] at hi
    rw [nxS_ms, at_rg hi]
    split
    · omega
    · exact h.no3 i hi
  · rw [nxS_ms, rg_len, hl]; exact h.gl
  · rw [nxS_ms, rg_len] at hi
    rw [nxS_ms, at_rg hi]
    by_cases hk : nxN s most limit = 0
    · rw [if_neg (by omega), h2 i (by omega)]; exact h.eq i hi
    · have hp := hP hk
      by_cases c : nxA s ≤ i ∧ i < nxA s + nxN s most limit
      · rw [if_pos c, h1 i (by omega) (by omega)]; simp
      · rw [if_neg c, h2 i (by omega)]; exact h.eq i hi
theorem LS.tu {gs gs' : List Bool} {s : S} (h : LS gs s) {A N : Nat} {f : Bool} (hB : tuB s A N f = false) (hl : gs'.length = gs.length)
    (h1 : ∀ q, A ≤ q → q < A + N → gs'.getD q false = false) (h2 : ∀ q, q < A ∨ A + N ≤ q → gs'.getD q false = gs.getD q false) : LS gs' (tuS s false A N f) := by
  have hms : (tuS s false A N f).ms = rg (tm false) s.ms A (A + N) := by
    unfold tuS; rw [if_neg (by rw [hB]; simp)]
    show rg _ _ _ _ = _
    congr 1
  have t1 : ∀ v, v ≠ 3 → tm false v ≠ 3 := fun v hv => by unfold tm; rw [if_neg (by simp)]; split <;> omega
  have t2 : ∀ v, tm false v ≠ 1 := fun v => by unfold tm; rw [if_neg (by simp)]; split <;> omega
  refine ⟨fun i hi => ?_, ?_, fun i hi => ?_⟩
  · rw [hms, rg_len] at hi
    rw [hms, at_rg hi]
    split
    · exact t1 _ (h.no3 i hi)
    · exact h.no3 i hi
  · rw [hms, rg_len, hl]; exact h.gl
  · rw [hms, rg_len] at hi
    rw [hms, at_rg hi]
    by_cases c : A ≤ i ∧ i < A + N
    · rw [if_pos c, h1 i c.1 c.2]
      constructor
      · intro e; cases e
      · intro e; exact absurd e (t2 _)
    · rw [if_neg c, h2 i (by omega)]; exact h.eq i hi
/-- What is told of a chunk. -/
theorem ls_chunk {gs : List Bool} {room : Int} {s : S} (h : LS gs s) (o : Ok room s) (most limit : Int) (hok : nxO s most limit = true) :
    nxP s most limit + nxN s most limit ≤ s.ms.length ∧ (nxN s most limit : Int) ≤ max most 0 ∧ (nxN s most limit ≠ 0 → ((nxP s most limit + nxN s most limit : Nat) : Int) ≤ max (s.sent : Int) limit) ∧ (∀ q, nxP s most limit ≤ q → q < nxP s most limit + nxN s most limit → gs.getD q false = false) := by
  have hin := nx_in o most limit
  have hm := nxN_most s most limit
  by_cases hk : nxN s most limit = 0
  · have hP : nxP s most limit ≤ s.ms.length := by unfold nxP; rw [if_pos hk]; split <;> omega
    exact ⟨by omega, by omega, fun h => absurd hk h, fun q h1 h2 => by omega⟩
  · have hP : nxP s most limit = nxA s := by unfold nxP; rw [if_neg hk]
    rw [hP]
    refine ⟨hin, by omega, fun _ => ?_, fun q h1 h2 => ?_⟩
    · have := nx_mark o most limit (nxA s + nxN s most limit - 1) (by omega) (by omega)
      omega
    · have hm := nx_mark o most limit q h1 h2
      have he := h.eq q (by omega)
      cases hg : gs.getD q false
      · rfl
      · have := he.1 hg; omega
theorem ls_none {s : S} {most limit : Int} (hok : nxO s most limit = false) : nxP s most limit = 0 ∧ nxN s most limit = 0 ∧ nxF s most limit = false ∧ nxS s most limit = s := by
  unfold nxO at hok
  simp at hok
  obtain ⟨hk, hF⟩ := hok
  refine ⟨by unfold nxP; rw [if_pos hk, hF]; simp, hk, hF, ?_⟩
  unfold nxS
  rw [if_pos hk]
  unfold nxF at hF
  rw [hF]
  rfl
end Go.Proofs.Ytppemfdoogmeeaa
