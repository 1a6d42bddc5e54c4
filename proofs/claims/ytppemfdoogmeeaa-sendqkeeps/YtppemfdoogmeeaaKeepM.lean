/-
  A queue whose bytes below sent are done and whose others are fresh, with no Go in it: for the walk of the law SendqKeeps.
-/
import Derived.Test.YtppemfdoogmeeaaMath
namespace Go.Proofs.Ytppemfdoogmeeaa
set_option linter.unusedVariables false

/-- Below sent all is done, from there on all is fresh; the end is not set. -/
structure KS (s : S) : Prop where
  fin : s.fin = false
  ms : ∀ i, i < s.ms.length → at_ s.ms i = if i < s.sent then 3 else 0

theorem ks0 : KS s0 := ⟨rfl, fun i hi => by simp [s0] at hi⟩
theorem KS.bas {room : Int} {s : S} (h : KS s) (o : Ok room s) : bas s = s.sent :=
  ld_uniq o.sent (fun i hi => by rw [h.ms i (by have := o.sent; omega), if_pos hi]) (fun hk => by rw [h.ms _ hk, if_neg (by omega)]; omega)
theorem KS.fs {s : S} (h : KS s) : fs 2 s.ms = s.ms.length :=
  fs_uniq (Nat.le_refl _) (fun i hi => by rw [h.ms i hi]; split <;> omega) (fun hk => by omega)
theorem KS.wr {room : Int} {s : S} (h : KS s) (o : Ok room s) (zs : List Int) : KS (wrS room s zs) := by
  refine ⟨h.fin, fun i hi => ?_⟩
  show at_ (s.ms ++ _) i = if i < s.sent then 3 else 0
  rw [at_append]
  split
  · next hh => exact h.ms i hh
  · next hh =>
    have := o.sent
    rw [if_neg (by omega), at_rep]; split <;> rfl
theorem KS.nxA {s : S} (h : KS s) : nxA s = s.sent := by
  unfold Go.Proofs.Ytppemfdoogmeeaa.nxA; rw [if_neg (by rw [h.fs]; omega)]
theorem KS.nxF {s : S} (h : KS s) (most limit : Int) : nxF s most limit = false := by
  unfold Go.Proofs.Ytppemfdoogmeeaa.nxF eo opn; rw [h.fin]; rfl
theorem KS.none {s : S} (h : KS s) {most limit : Int} (hk : nxN s most limit = 0) : nxS s most limit = s ∧ nxO s most limit = false := by
  have hf := h.nxF most limit
  unfold nxS nxO
  rw [hf, if_pos hk]
  unfold Go.Proofs.Ytppemfdoogmeeaa.nxF at hf
  rw [hf, hk]
  exact ⟨rfl, rfl⟩
theorem KS.some {room : Int} {s : S} (h : KS s) (o : Ok room s) {most limit : Int} (hk : nxN s most limit ≠ 0) :
    nxP s most limit = s.sent ∧ nxO s most limit = true ∧ tuB (nxS s most limit) s.sent (nxN s most limit) false = false ∧ KS (tuS (nxS s most limit) true s.sent (nxN s most limit) false) ∧ (tuS (nxS s most limit) true s.sent (nxN s most limit) false).sent = s.sent + nxN s most limit ∧ (tuS (nxS s most limit) true s.sent (nxN s most limit) false).ms.length = s.ms.length := by
  have hA := h.nxA
  have hin := nx_in o most limit
  have hse := nxS_sent o most limit
  rw [hA] at hin hse
  have hB : tuB (nxS s most limit) s.sent (nxN s most limit) false = false := by
    unfold tuB
    rw [hse]
    simp
  refine ⟨?_, ?_, hB, ⟨?_, ?_⟩, ?_, ?_⟩
  · unfold nxP; rw [if_neg hk, hA]
  · unfold nxO; simp [hk]
  · rw [tu_fin, nxS_fin]; exact h.fin
  · intro i hi
    rw [tu_len, nxS_ms, rg_len] at hi
    rw [tu_sent, hse]
    unfold tuS
    rw [if_neg (by rw [hB]; simp)]
    show at_ (rg _ _ _ _) i = _
    rw [at_rg (by rw [nxS_ms, rg_len]; exact hi), nxS_ms, at_rg hi, h.ms i hi, hA]
    have e1 : ((s.sent : Int)).toNat = s.sent := by omega
    have e2 : ((s.sent : Int) + (nxN s most limit : Int)).toNat = s.sent + nxN s most limit := by omega
    rw [e1, e2]
    by_cases c : s.sent ≤ i ∧ i < s.sent + nxN s most limit
    · rw [if_pos c, if_pos c, if_pos (by omega)]; rfl
    · rw [if_neg c, if_neg c]
      by_cases c2 : i < s.sent
      · rw [if_pos c2, if_pos (by omega)]
      · rw [if_neg c2, if_neg (by omega)]
  · rw [tu_sent, hse]; omega
  · rw [tu_len, nxS_ms, rg_len]
end Go.Proofs.Ytppemfdoogmeeaa
