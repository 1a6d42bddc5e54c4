/-
  A buffer that is fed with pieces of one source: what it holds is the source's, what is read is its beginning. No Go in it.
-/
import Derived.Test.YtdgkeidpoodmeaaMathTwo
namespace Go.Proofs.Ytdgkeidpoodmeaa
set_option linter.unusedVariables false

/-- What the buffer holds are bytes of the source, each in its place. -/
structure Fed (zs : List Int) (o : Nat) (s : S) : Prop where
  ok : Ok 65536 s
  small : zs.length ≤ 65536
  off : s.off = o
  byte : ∀ j v, at_ s.xs j = some v → v = zs.getD (o + j) 0
  high : s.high ≤ zs.length
  fin : s.known = true → s.fin = zs.length

theorem fed0 {zs : List Int} (h : zs.length ≤ 65536) : Fed zs 0 s0 :=
  ⟨ok0 (by omega) (by omega), h, rfl, fun j v h => by simp [s0, at_nil] at h, by simp [s0], fun h => by simp [s0] at h⟩

section
variable {zs : List Int} {o : Nat} {s : S} {p n : Nat}
theorem Fed.cut_len (hpn : p + n ≤ zs.length) : ((zs.drop p).take n).length = n := by rw [List.length_take, List.length_drop]; omega

theorem Fed.err (h : Fed zs o s) (hpn : p + n ≤ zs.length) {f : Bool} (hf : f = true → p + n = zs.length) : errOf 65536 s p n f = 0 := by
  have h1 := h.small
  have h2 := h.off
  have h3 := h.high
  have h4 := h.fin
  refine err_zero.2 ⟨by omega, by omega, ?_, by omega⟩
  cases hk : s.known
  · rw [brk_f hk]
    cases f
    · rfl
    · have := hf rfl
      simp; omega
  · rw [brk_t hk, h4 hk]
    cases f
    · simp; omega
    · have := hf rfl
      simp; omega

theorem Fed.put (h : Fed zs o s) (hpn : p + n ≤ zs.length) {f : Bool} (hf : f = true → p + n = zs.length) : Fed zs o (putAll 65536 s p ((zs.drop p).take n) f) := by
  have he := h.err hpn hf
  have hl := Fed.cut_len hpn
  have hp : putAll 65536 s p ((zs.drop p).take n) f = putSt s p ((zs.drop p).take n) f := by unfold putAll; rw [hl, if_pos he]
  have hO := ok_putAll h.ok p ((zs.drop p).take n) f
  rw [hp] at hO ⊢
  have h3 := h.high
  refine ⟨hO, h.small, h.off, ?_, ?_, ?_⟩
  · intro j v hv
    have hv' : at_ (putX s.off s.xs p ((zs.drop p).take n)) j = some v := hv
    unfold putX at hv'
    rw [putS_at] at hv'
    split at hv'
    · next hc =>
      obtain ⟨_, hk1, hk2⟩ := hc
      rw [rest_len] at hk2
      rw [hl] at hv' hk1 hk2
      have hsk : skip s.off p n < n := by have := skip_le s.off p n; omega
      have hfe := (fst_eq hsk).1
      have ho := h.off
      simp only [Option.some.injEq] at hv'
      rw [← hv', List.getD_eq_getElem?_getD, List.getD_eq_getElem?_getD, List.getElem?_drop, List.getElem?_take, if_pos (by omega), List.getElem?_drop]
      congr 2
      omega
    · exact h.byte j v hv'
  · show max s.high (p + (((zs.drop p).take n).length : Int)) ≤ _
    rw [hl]; omega
  · intro hk
    show (if f then (p : Int) + (((zs.drop p).take n).length : Int) else s.fin) = _
    rw [hl]
    have hk' : (s.known || f) = true := hk
    cases hff : f
    · rw [hff] at hk'
      simp at hk'
      simpa using h.fin hk'
    · have := hf hff
      simp; omega
theorem putAll_known (h : Fed zs o s) (hpn : p + n ≤ zs.length) {f : Bool} (hf : f = true → p + n = zs.length) : (putAll 65536 s p ((zs.drop p).take n) f).known = (s.known || f) := by
  unfold putAll
  rw [Fed.cut_len hpn, if_pos (h.err hpn hf)]
  rfl

theorem Fed.offle (h : Fed zs o s) : o + s.xs.length ≤ zs.length := by
  have := h.ok.hi; have := h.off; have := h.high; omega

theorem Fed.vals (h : Fed zs o s) (m : Nat) (hm : m ≤ rdy s.xs) : vals (s.xs.take m) = (zs.drop o).take m := by
  have h1 := h.offle
  have h2 := rdy_le s.xs
  apply List.ext_getElem?
  intro j
  by_cases hj : j < m
  · obtain ⟨v, hv⟩ := rdy_some (xs := s.xs) (j := j) (by omega)
    have hb := h.byte j v hv
    have e1 : (Go.Proofs.Ytdgkeidpoodmeaa.vals (s.xs.take m))[j]? = some v := by
      unfold Go.Proofs.Ytdgkeidpoodmeaa.vals
      rw [List.getElem?_map, List.getElem?_take, if_pos hj, at_eq (by omega), hv]; rfl
    rw [e1, List.getElem?_take, if_pos hj, List.getElem?_drop, hb, List.getD_eq_getElem?_getD, List.getElem?_eq_getElem (by omega)]
    rfl
  · rw [List.getElem?_eq_none (by unfold Go.Proofs.Ytdgkeidpoodmeaa.vals; simp; omega), List.getElem?_eq_none (by simp; omega)]

theorem Fed.read (h : Fed zs o s) (q : Int) : Fed zs (o + readM s q) (readSt s q) := by
  refine ⟨ok_read h.ok q, h.small, ?_, ?_, h.high, h.fin⟩
  · show s.off + (readM s q : Int) = _
    rw [h.off]; omega
  · intro j v hv
    have hv' : at_ (s.xs.drop (readM s q)) j = some v := hv
    rw [at_drop] at hv'
    rw [h.byte _ v hv']
    congr 1
    omega
theorem take_more (m : Nat) : zs.take o ++ (zs.drop o).take m = zs.take (o + m) := by
  rw [List.take_add]
/-- The end is told just where all was read. -/
theorem Fed.endOf (h : Fed zs o s) : endOf s = (s.known && decide (o = zs.length)) := by
  unfold Go.Proofs.Ytdgkeidpoodmeaa.endOf
  cases hk : s.known
  · rfl
  · rw [h.fin hk, h.off]
    have : decide ((o : Int) = (zs.length : Int)) = decide (o = zs.length) := by
      by_cases e : o = zs.length
      · simp [e]
      · have e' : ¬ (o : Int) = (zs.length : Int) := by omega
        simp [e, e']
    rw [this]
end
end Go.Proofs.Ytdgkeidpoodmeaa
