/-
  The bytes of frames that were read are bytes. Plain mathematics. Nothing is proved of a statement here.
-/
import Derived.Test.YtdoodbaogmdloaaRt
namespace Go.Proofs.Ytdoodbaogmdloaa
open Go.RowKit
set_option linter.unusedVariables false
set_option maxRecDepth 20000

section
variable {zs : List Int} {p q : Int}
/-- A frame's bytes are among these. -/
def Among (zs : List Int) (f : Fr) : Prop := (∀ y ∈ f.data, y ∈ zs) ∧ (∀ y ∈ f.cid, y ∈ zs)
theorem someO_mem {k : Int} {d : List Int} (hp : Pl zs p) (h : someO zs p k = .ok d q) : ∀ y ∈ d, y ∈ zs := by
  have := (someO_pl hp h).2.2.2.2.1
  intro y hy
  rw [this] at hy
  exact List.mem_of_mem_drop (List.mem_of_mem_take hy)
theorem strmO_mem {fin at_ ln : Bool} {f : Fr} (hp : Pl zs p) (h : strmO zs p fin at_ ln = .ok f q) : Among zs f := by
  obtain ⟨id, q1, h1, h⟩ := Out.bind_ok h
  have g1 := numO_pl hp h1
  obtain ⟨pl, q2, h2, h⟩ := Out.bind_ok h
  have g2 : Pl zs q2 := by
    cases at_ with
    | true => exact (numO_pl g1.1 (show numO zs q1 = .ok pl q2 from h2)).1
    | false => cases h2; exact g1.1
  obtain ⟨d, q3, h3, h⟩ := Out.bind_ok h
  cases h
  refine ⟨?_, by intro y hy; cases hy⟩
  cases ln with
  | true =>
    obtain ⟨n, q4, h4, h5⟩ := Out.bind_ok (show (numO zs q2).bind (fun n q => someO zs q n) = .ok d q from h3)
    exact someO_mem (numO_pl g2 h4).1 h5
  | false => exact someO_mem g2 (show someO zs q2 _ = .ok d q from h3)
theorem lastO_mem {k : Int} {f f' : Fr} (hp : Pl zs p) (h1 : f.data = []) (h2 : f.cid = []) (h : lastO zs k f p = .ok f' q) : Among zs f' := by
  have e1 : ∀ y ∈ f.data, y ∈ zs := by rw [h1]; intro y hy; cases hy
  have e2 : ∀ y ∈ f.cid, y ∈ zs := by rw [h2]; intro y hy; cases hy
  unfold lastO at h
  by_cases h6 : k = 6 ∨ k = 7 ∨ k = 28 ∨ k = 29
  · rw [if_pos h6] at h
    obtain ⟨n, q1, g1, h⟩ := Out.bind_ok h
    have k1 := numO_pl hp g1
    obtain ⟨d, q2, g2, h⟩ := Out.bind_ok h
    cases h
    exact ⟨someO_mem k1.1 g2, e2⟩
  rw [if_neg h6] at h
  by_cases h24 : k = 24
  · rw [if_pos h24] at h
    obtain ⟨n, q1, g1, h⟩ := Out.bind_ok h
    have k1 := oneO_pl hp g1
    obtain ⟨c, q2, g2, h⟩ := Out.bind_ok h
    have k2 := someO_pl k1.1 g2
    obtain ⟨d, q3, g3, h⟩ := Out.bind_ok h
    cases h
    exact ⟨someO_mem k2.1 g3, someO_mem k1.1 g2⟩
  rw [if_neg h24] at h
  by_cases h26 : k = 26 ∨ k = 27
  · rw [if_pos h26] at h
    obtain ⟨d, q2, g2, h⟩ := Out.bind_ok h
    cases h
    exact ⟨someO_mem hp g2, e2⟩
  · rw [if_neg h26] at h
    cases h
    exact ⟨e1, e2⟩
theorem itemsO_mem {P : Nat} {k : Int} {f : Fr} (hp : Pl zs p) (h : itemsO zs P p k = .ok f q) : Among zs f := by
  unfold itemsO at h
  by_cases hk0 : k = 0
  · rw [if_pos hk0] at h
    cases h
    exact ⟨by intro y hy; simp [zf] at hy, by intro y hy; simp [zf] at hy⟩
  rw [if_neg hk0] at h
  by_cases hk2 : k = 2 ∨ k = 3
  · rw [if_pos hk2] at h
    have := ackO_pl hp h
    exact ⟨(by rw [this.2.2.1]; intro y hy; cases hy), (by rw [this.2.2.2]; intro y hy; cases hy)⟩
  rw [if_neg hk2] at h
  by_cases hk8 : 8 ≤ k ∧ k ≤ 15
  · rw [if_pos hk8] at h
    exact strmO_mem hp h
  · rw [if_neg hk8] at h
    obtain ⟨f1, q1, g1, h⟩ := Out.bind_ok h
    have k1 := leadsO_pl hp g1
    exact lastO_mem k1.1 (by rw [k1.2.2.1]; rfl) (by rw [k1.2.2.2.1]; rfl) h
end
theorem dec_mem {zs : List Int} (hz : ∀ y ∈ zs, 0 ≤ y ∧ y < 256) : ∀ {n P : Nat} {acc : List Fr}, P ≤ zs.length → (∀ f ∈ acc, Among zs f) → ∀ f ∈ (dec zs n P acc).1, Among zs f := by
  intro n
  induction n with
  | zero => intro P acc _ ha; rw [dec]; exact ha
  | succ n ih =>
    intro P acc hP ha
    rw [dec]
    split
    · exact ha
    · cases hf : frameO zs P with
      | cut => intro f hf'; cases hf'
      | bad x => intro f hf'; cases hf'
      | ok f q =>
        have hp : Pl zs P := ⟨hz, by omega, by omega⟩
        obtain ⟨g1, g2, g3, k, g4, g5, g6⟩ := frameO_pl hp hf
        have hk := kindO_pl hp g4
        have hq1 := g1.h1
        refine ih (P := q.toNat) (by omega) ?_
        intro f' hf'
        rcases List.mem_append.1 hf' with h | h
        · exact ha f' h
        · rw [List.mem_singleton.1 h]; exact itemsO_mem hk.1 g5
theorem decA_mem {zs : List Int} (hz : ∀ y ∈ zs, 0 ≤ y ∧ y < 256) : ∀ f ∈ (decA zs).1, Among zs f := by
  unfold decA
  split
  · intro f hf; cases hf
  split
  · intro f hf; cases hf
  · exact dec_mem hz (Nat.zero_le _) (by intro f hf; cases hf)
theorem forms_bytes (l : List Int) : ∀ y ∈ forms l, 0 ≤ y ∧ y < 256 := by
  intro y hy
  simp only [forms, List.mem_flatMap] at hy
  obtain ⟨n, _, hn⟩ := hy
  exact form_bytes n y hn
theorem enc_bytes {zs : List Int} (hz : ∀ y ∈ zs, 0 ≤ y ∧ y < 256) {f : Fr} (hc : chk f = 0 ∧ bare f = f) (hm : Among zs f) : ∀ y ∈ enc f, 0 ≤ y ∧ y < 256 := by
  have hs := bare_small hc.1 hc.2
  have hd : ∀ y ∈ f.data, 0 ≤ y ∧ y < 256 := fun y hy => hz y (hm.1 y hy)
  have hcid : ∀ y ∈ f.cid, 0 ≤ y ∧ y < 256 := fun y hy => hz y (hm.2 y hy)
  intro y hy
  unfold enc at hy
  split at hy
  · have := List.eq_of_mem_replicate hy; omega
  split at hy
  · rcases List.mem_append.1 hy with h | h
    · exact forms_bytes _ y h
    · exact forms_bytes _ y h
  split at hy
  · rcases List.mem_append.1 hy with h | h
    · unfold shead at h
      split at h
      · exact forms_bytes _ y h
      · exact forms_bytes _ y h
    · rcases List.mem_append.1 h with h | h
      · exact form_bytes _ y h
      · exact hd y h
  · rcases List.mem_append.1 hy with h | h
    · rcases List.mem_append.1 h with h | h
      · exact forms_bytes _ y h
      · exact forms_bytes _ y h
    · unfold last at h
      split at h
      · rcases List.mem_append.1 h with h | h
        · exact form_bytes _ y h
        · exact hd y h
      split at h
      · rcases List.mem_append.1 h with h | h
        · rcases List.mem_append.1 h with h | h
          · have := List.mem_singleton.1 h; omega
          · exact hcid y h
        · exact hd y h
      split at h
      · exact hd y h
      · cases h
end Go.Proofs.Ytdoodbaogmdloaa
