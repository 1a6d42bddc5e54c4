/-
  A header that is read has no part that is longer than the bytes. Plain mathematics. Nothing is proved of a statement here.
-/
import Derived.Test.YtbhhajmfdffdbaaPar
namespace Go.Proofs.Ytbhhajmfdffdbaa
open Go.RowKit
set_option linter.unusedVariables false
set_option maxRecDepth 20000

theorem lenO_tok {zs tk : List Int} {p q : Int} {x : List Int × Int} (h : lenO zs tk p = .ok x q) : x.1 = tk := by
  obtain ⟨l, q', ho, h2⟩ := Out.bind_ok h
  split at h2
  · cases h2
  · cases h2; rfl
theorem fillO_tok {zs : List Int} {kind p q : Int} {x : List Int × Int} (hp : Pl zs p) (h : fillO zs kind p = .ok x q) : x.1.length ≤ zs.length := by
  have hp0 := hp.h0
  unfold fillO at h
  split at h
  · split at h
    · cases h
    · obtain ⟨tk, q', ho, h2⟩ := Out.bind_ok h
      obtain ⟨_, _, _, hl, hle⟩ := someO_pl hp (by omega) ho
      cases h2
      dsimp only
      omega
  · split at h
    · obtain ⟨m, q1, ho1, h2⟩ := Out.bind_ok h
      obtain ⟨tk, q2, ho2, h3⟩ := Out.bind_ok h2
      obtain ⟨a1, b1, c1, d1⟩ := numO_pl hp ho1
      obtain ⟨_, _, _, hl, hle⟩ := someO_pl a1 c1 ho2
      rw [lenO_tok h3]
      have := a1.h0
      omega
    · rw [lenO_tok h]; simp
theorem hdrO_len {zs : List Int} {cid p q : Int} {H : Hd} (hp : Pl zs p) (h : hdrO zs cid p = .ok H q) : H.dst.length ≤ zs.length ∧ H.src.length ≤ zs.length ∧ H.tok.length ≤ zs.length ∧ H.vers.length ≤ zs.length := by
  have hp0 := hp.h0
  unfold hdrO at h
  by_cases hc : cid < 0 ∨ 20 < cid
  · rw [if_pos hc] at h; cases h
  rw [if_neg hc] at h
  obtain ⟨m, q1, ho, h2⟩ := Out.bind_ok h
  obtain ⟨p1, e1, _, _, m0, m1⟩ := oneO_pl hp ho
  have hp1 := p1.h0
  by_cases hL : 128 ≤ m
  · rw [if_pos hL] at h2
    unfold longO at h2
    obtain ⟨ve, q2, o2, h3⟩ := Out.bind_ok h2
    obtain ⟨d, q3, o3, h4⟩ := Out.bind_ok h3
    obtain ⟨s, q4, o4, h5⟩ := Out.bind_ok h4
    obtain ⟨p2, e2, _⟩ := verO_pl p1 o2
    obtain ⟨p3, e3, _⟩ := idO_pl p2 o3
    obtain ⟨p4, e4, _⟩ := idO_pl p3 o4
    have hp3 := p3.h1
    have hp4 := p4.h1
    have hp40 := p4.h0
    by_cases h0 : ve = 0
    · rw [if_pos h0] at h5
      obtain ⟨vs, q5, o5, h6⟩ := Out.bind_ok h5
      unfold versO at o5
      split at o5
      · cases o5
      · cases o5
        cases h6
        refine ⟨by dsimp only; omega, by dsimp only; omega, by simp, ?_⟩
        simp only [List.length_map, List.length_range]
        omega
    rw [if_neg h0] at h5
    by_cases h1 : ve = 1
    · rw [if_pos h1] at h5
      by_cases hF : m / 64 % 2 = 0
      · rw [if_pos hF] at h5; cases h5
      rw [if_neg hF] at h5
      obtain ⟨tl, q5, o5, h6⟩ := Out.bind_ok h5
      have ht := fillO_tok p4 o5
      cases h6
      exact ⟨by dsimp only; omega, by dsimp only; omega, ht, by simp⟩
    · rw [if_neg h1] at h5
      cases h5
      exact ⟨by dsimp only; omega, by dsimp only; omega, by simp, by simp⟩
  · rw [if_neg hL] at h2
    by_cases hF : m / 64 % 2 = 0
    · rw [if_pos hF] at h2; cases h2
    rw [if_neg hF] at h2
    obtain ⟨d, q2, o2, h3⟩ := Out.bind_ok h2
    obtain ⟨p2, e2, _, hl, _⟩ := someO_pl p1 (by omega) o2
    cases h3
    exact ⟨by dsimp only; omega, by simp, by simp, by simp⟩
theorem parM_len {zs : List Int} {cid : Int} (hz : ∀ y ∈ zs, 0 ≤ y ∧ y < 256) : (parM zs cid).1.dst.length ≤ zs.length ∧ (parM zs cid).1.src.length ≤ zs.length ∧ (parM zs cid).1.tok.length ≤ zs.length ∧ (parM zs cid).1.vers.length ≤ zs.length := by
  unfold parM
  cases ho : hdrO zs cid 0 with
  | ok H q => exact hdrO_len ⟨hz, by omega, by omega⟩ ho
  | bad x => simp [zh]
end Go.Proofs.Ytbhhajmfdffdbaa
