/-
  A buffer's state and what its calls make of it, by lists and numbers alone. No Go in it.
-/
import Derived.Test.YtdgkeidpoodmeaaMath
namespace Go.Proofs.Ytdgkeidpoodmeaa
set_option linter.unusedVariables false

/-- What a buffer is. -/
structure S where
  off : Int
  high : Int
  fin : Int
  known : Bool
  xs : Sl

/-- What holds of every buffer. -/
structure Ok (room : Int) (s : S) : Prop where
  r0 : 1 ≤ room
  r1 : room ≤ 65536
  o0 : 0 ≤ s.off
  len : (s.xs.length : Int) ≤ room
  hi : s.off + s.xs.length ≤ s.high
  h1 : s.high ≤ 4611686018427387903
  f0 : 0 ≤ s.fin
  f1 : s.fin ≤ 4611686018427387903
  kn : s.known = true → s.high ≤ s.fin
  un : s.known = false → s.fin = 0

def s0 : S := ⟨0, 0, 0, false, []⟩
theorem ok0 {room : Int} (h0 : 1 ≤ room) (h1 : room ≤ 65536) : Ok room s0 := ⟨h0, h1, by simp [s0], by simp [s0]; omega, by simp [s0], by simp [s0], by simp [s0], by simp [s0], by simp [s0], by simp [s0]⟩

def brk (s : S) (e : Int) (f : Bool) : Bool := if s.known then decide (s.fin < e) || (f && decide (e ≠ s.fin)) else f && decide (e < s.high)
def errOf (room : Int) (s : S) (p : Int) (n : Nat) (f : Bool) : Int :=
  if p < 0 ∨ 4611686018427387903 - (n : Int) < p then 30 else if brk s (p + n) f = true then 31 else if s.off + room < p + n then 32 else 0
def skip (off p : Int) (n : Nat) : Nat := min (off - p).toNat n
def fstP (off p : Int) (n : Nat) : Nat := (p + skip off p n - off).toNat
def putX (off : Int) (xs : Sl) (p : Int) (zs : List Int) : Sl := putS xs (fstP off p zs.length) (zs.drop (skip off p zs.length))
def putSt (s : S) (p : Int) (zs : List Int) (f : Bool) : S := ⟨s.off, max s.high (p + zs.length), if f then p + zs.length else s.fin, s.known || f, putX s.off s.xs p zs⟩
/-- Put: the state behind it. -/
def putAll (room : Int) (s : S) (p : Int) (zs : List Int) (f : Bool) : S := if errOf room s p zs.length f = 0 then putSt s p zs f else s
/-- Put: what is fresh. -/
def freshOf (room : Int) (s : S) (p : Int) (zs : List Int) (f : Bool) : Int := (heldN (putAll room s p zs f).xs : Int) - heldN s.xs
def readM (s : S) (n : Int) : Nat := min n.toNat (rdy s.xs)
def readSt (s : S) (n : Int) : S := ⟨s.off + readM s n, s.high, s.fin, s.known, s.xs.drop (readM s n)⟩
def endOf (s : S) : Bool := s.known && decide (s.off = s.fin)

theorem brk_t {s : S} {e : Int} {f : Bool} (hk : s.known = true) : brk s e f = (decide (s.fin < e) || (f && decide (e ≠ s.fin))) := by unfold brk; rw [if_pos hk]
theorem brk_f {s : S} {e : Int} {f : Bool} (hk : s.known = false) : brk s e f = (f && decide (e < s.high)) := by unfold brk; rw [if_neg (by rw [hk]; simp)]
theorem err_zero {room : Int} {s : S} {p : Int} {n : Nat} {f : Bool} : errOf room s p n f = 0 ↔ 0 ≤ p ∧ p + n ≤ 4611686018427387903 ∧ brk s (p + n) f = false ∧ p + n ≤ s.off + room := by
  unfold errOf
  split
  · omega
  · split
    · next h => rw [h]; simp
    · next h =>
      split
      · omega
      · have h' : brk s (p + n) f = false := by simpa using h
        rw [h']
        constructor
        · intro _; exact ⟨by omega, by omega, rfl, by omega⟩
        · intro _; rfl
theorem skip_le (off p : Int) (n : Nat) : skip off p n ≤ n := Nat.min_le_right _ _
theorem rest_len (off p : Int) (zs : List Int) : (zs.drop (skip off p zs.length)).length = zs.length - skip off p zs.length := List.length_drop
/-- Where something is left of a piece: its first place. -/
theorem fst_eq {off p : Int} {n : Nat} (h : skip off p n < n) : (fstP off p n : Int) = p + skip off p n - off ∧ (skip off p n : Int) = max 0 (off - p) := by
  unfold fstP
  have : skip off p n = (off - p).toNat := by unfold skip at h ⊢; omega
  omega
theorem putX_len (off : Int) (xs : Sl) (p : Int) (zs : List Int) : (putX off xs p zs).length = xs.length ∨ ((putX off xs p zs).length : Int) = max (xs.length : Int) (p + zs.length - off) := by
  unfold putX
  rw [putS_len, rest_len]
  split
  · exact .inl rfl
  · next h =>
    refine .inr ?_
    have := fst_eq (off := off) (p := p) (n := zs.length) (by omega)
    omega
theorem ok_put {room : Int} {s : S} (h : Ok room s) {p : Int} {zs : List Int} {f : Bool} (he : errOf room s p zs.length f = 0) : Ok room (putSt s p zs f) := by
  obtain ⟨e0, e1, e2, e3⟩ := err_zero.1 he
  obtain ⟨r0, r1, o0, len, hi, h1, f0, f1, kn, un⟩ := h
  have hl := putX_len s.off s.xs p zs
  refine ⟨r0, r1, o0, ?_, ?_, ?_, ?_, ?_, ?_, ?_⟩
  · show ((putX s.off s.xs p zs).length : Int) ≤ room
    omega
  · show s.off + ((putX s.off s.xs p zs).length : Int) ≤ max s.high (p + zs.length)
    omega
  · show max s.high (p + zs.length) ≤ _
    omega
  · show 0 ≤ if f then p + (zs.length : Int) else s.fin
    split <;> omega
  · show (if f then p + (zs.length : Int) else s.fin) ≤ _
    split <;> omega
  · show (s.known || f) = true → max s.high (p + zs.length) ≤ if f then p + (zs.length : Int) else s.fin
    intro hk
    cases hs : s.known
    · rw [hs] at hk
      have hf : f = true := by simpa using hk
      rw [brk_f hs, hf] at e2
      rw [hf]
      simp at e2
      rw [if_pos rfl]
      omega
    · have := kn hs
      rw [brk_t hs] at e2
      simp at e2
      cases hf : f
      · simp; omega
      · have h2 := e2.2 hf
        simp; omega
  · show (s.known || f) = false → (if f then p + (zs.length : Int) else s.fin) = 0
    intro hk
    simp at hk
    rw [hk.2, un hk.1]; rfl
theorem ok_putAll {room : Int} {s : S} (h : Ok room s) (p : Int) (zs : List Int) (f : Bool) : Ok room (putAll room s p zs f) := by
  unfold putAll
  split
  · next he => exact ok_put h he
  · exact h
theorem readM_le (s : S) (n : Int) : readM s n ≤ rdy s.xs := Nat.min_le_right _ _
theorem ok_read {room : Int} {s : S} (h : Ok room s) (n : Int) : Ok room (readSt s n) := by
  have h1 := readM_le s n
  have h2 := rdy_le s.xs
  have h3 : (s.xs.drop (readM s n)).length = s.xs.length - readM s n := List.length_drop
  obtain ⟨r0, r1, o0, len, hi, hh, f0, f1, kn, un⟩ := h
  exact ⟨r0, r1, by show 0 ≤ s.off + _; omega, by show ((s.xs.drop (readM s n)).length : Int) ≤ room; omega, by show s.off + _ + ((s.xs.drop (readM s n)).length : Int) ≤ s.high; omega, hh, f0, f1, kn, un⟩

end Go.Proofs.Ytdgkeidpoodmeaa
