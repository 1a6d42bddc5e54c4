/-
  Expanding a secret as plain mathematics, and a string's bytes. Nothing is proved of a statement here.
-/
import Derived.Test.YtekpepnonhbkcaaInB
import Derived.Laws.IdiomStrings
namespace Go.Proofs.Ytekpepnonhbkcaa
open Go.RowKit
set_option linter.unusedVariables false

/-- A string's bytes. -/
def sb (s : ByteArray) : List Int := s.data.toList.map fun b => (b.toNat : Int)
theorem sb_len (s : ByteArray) : (sb s).length = s.size := by unfold sb; rw [List.length_map]; rfl
theorem sb_lt (s : ByteArray) : ∀ y ∈ sb s, 0 ≤ y ∧ y < 256 := by
  intro y hy
  obtain ⟨b, _, rfl⟩ := List.mem_map.1 hy
  have := b.toNat_lt
  omega
theorem conv_any (s : ByteArray) (w : World) : ∃ (c : Nat) (w' : World), (convert 9 24 (.string s)).run Try.prog w = .ok (.slice (some ⟨w.heap.size, 0, none⟩) s.size c) w' ∧ Q w w' ∧ In w' ⟨some ⟨w.heap.size, 0, none⟩, s.size, c⟩ (sb s) := by
  have h := run_bytes_of_string (P := Try.prog) w 9 24 5 s Try.underlying9 Try.underlying24 Try.underlying5
  refine ⟨_, _, h, ((Q.refl w).drew).alloc _, ?_, sb_len s, sb_lt s⟩
  intro _
  refine ⟨_, 0, rfl, fun i hi => ?_⟩
  rw [sb_len] at hi
  have hi' : i < s.data.size := hi
  rw [Nat.zero_add]
  have hc := World.cell?_alloc_mark w.drew (bytesRow s (grownCap w s.size 0 5)) 5 ((bytesRow s (grownCap w s.size 0 5)).size, (bytesRow s (grownCap w s.size 0 5)).size + 1) i
  rw [show w.drew.heap.size = w.heap.size from rfl] at hc
  rw [hc, bytesRow_at s _ i hi']
  rw [List.getD_eq_getElem?_getD, sb, List.getElem?_map, Array.getElem?_toList, Array.getElem?_eq_getElem hi']; rfl

/-- The block of an expansion, the first i of them, the first n bytes. -/
def eb (ks ls : List Int) (j : Nat) : List Int := dg (tx ks ++ tx ls ++ [(j : Int) % 256])
def catE (ks ls : List Int) : Nat → List Int
  | 0 => []
  | i + 1 => catE ks ls i ++ eb ks ls i
theorem eb_len (ks ls : List Int) (j : Nat) : (eb ks ls j).length = 16 := dg_len _
theorem catE_len (ks ls : List Int) (i : Nat) : (catE ks ls i).length = 16 * i := by
  induction i with
  | zero => rfl
  | succ i ih => rw [catE, List.length_append, ih, eb_len]; omega
theorem catE_lt (ks ls : List Int) (i : Nat) : ∀ y ∈ catE ks ls i, 0 ≤ y ∧ y < 256 := by
  induction i with
  | zero => intro y hy; cases hy
  | succ i ih =>
    intro y hy
    rcases List.mem_append.1 hy with h | h
    · exact ih y h
    · exact dg_lt _ y h
theorem catE_take (ks ls : List Int) (i n : Nat) (h : n ≤ 16 * i) : ∀ k, (catE ks ls (i + k)).take n = (catE ks ls i).take n := by
  intro k
  induction k with
  | zero => rfl
  | succ k ih =>
    rw [show i + (k + 1) = (i + k) + 1 from rfl, catE, List.take_append_of_le_length (by rw [catE_len]; omega)]
    exact ih
def exL (ks ls : List Int) (n : Nat) : List Int := (catE ks ls ((n + 15) / 16)).take n
theorem exL_len (ks ls : List Int) (n : Nat) : (exL ks ls n).length = n := by
  unfold exL
  rw [List.length_take, catE_len]; omega
theorem exL_eq (ks ls : List Int) (n i : Nat) (h : n ≤ 16 * i) : (catE ks ls i).take n = exL ks ls n := by
  unfold exL
  have := catE_take ks ls ((n + 15) / 16) n (by omega) (i - (n + 15) / 16)
  rw [show (n + 15) / 16 + (i - (n + 15) / 16) = i by omega] at this
  exact this
theorem exL_take (ks ls : List Int) (n m : Nat) (h : n ≤ m) : (exL ks ls m).take n = exL ks ls n := by
  rw [← exL_eq ks ls m ((m + 15) / 16) (by omega), List.take_take, Nat.min_eq_left h, exL_eq ks ls n _ (by omega)]
theorem exL_lt (ks ls : List Int) (n : Nat) : ∀ y ∈ exL ks ls n, 0 ≤ y ∧ y < 256 := fun y hy => catE_lt _ _ _ y (List.mem_of_mem_take hy)
theorem ex_step (ks ls : List Int) (i n : Nat) (h : 16 * i < n) : (catE ks ls (i + 1)).take n = (catE ks ls i).take n ++ (eb ks ls i).take (min 16 (n - 16 * i)) := by
  rw [catE, List.take_append, catE_len]
  congr 1
  rcases Nat.le_total 16 (n - 16 * i) with h1 | h1
  · rw [Nat.min_eq_left h1, List.take_of_length_le (by rw [eb_len]; omega), List.take_of_length_le (by rw [eb_len]; omega)]
  · rw [Nat.min_eq_right h1]
/-- What is refused. -/
def expE (kl ll : Nat) (n : Int) : Int := if 255 < kl ∨ 255 < ll then 70 else if n < 0 ∨ 1024 < n then 52 else 0
def expR (ks ls : List Int) (n : Int) : List Int := if expE ks.length ls.length n = 0 then exL ks ls n.toNat else []
theorem exp_ok {kl ll : Nat} {n : Int} (h : expE kl ll n = 0) : kl ≤ 255 ∧ ll ≤ 255 ∧ 0 ≤ n ∧ n ≤ 1024 := by
  unfold expE at h
  split at h
  · simp at h
  split at h
  · simp at h
  omega
theorem eb_eq (ks ls : List Int) (j : Nat) : eb ks ls j = sumL (mix (mix (mix st0 (tx ks)) (tx ls)) [(j : Int) % 256]) := by
  simp only [mix_append, eb, dg]
end Go.Proofs.Ytekpepnonhbkcaa
