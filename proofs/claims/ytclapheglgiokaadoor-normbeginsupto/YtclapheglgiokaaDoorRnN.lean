/-
  Atoi at a few digits, lengthOf: contracts that the statements' walks use.
-/
import Derived.Test.YtclapheglgiokaaDoorRnM
import Derived.Laws.IdiomStrings
namespace Go.Proofs.YtclapheglgiokaaDoor
open Go.RowKit
set_option linter.unusedVariables false
set_option maxRecDepth 20000

theorem conv_any (s : ByteArray) (w : World) : ∃ (c : Nat) (w' : World), (convert 9 28 (.string s)).run Tryd.prog w = .ok (.slice (some ⟨w.heap.size, 0, none⟩) s.size c) w' ∧ Q w w' ∧ ∀ i (hi : i < s.size), w'.cell? ⟨w.heap.size, i, none⟩ = some (.int .u8 (s[i]'hi).toNat) := by
  have h := run_bytes_of_string (P := Tryd.prog) w 9 28 5 s Tryd.underlying9 Tryd.underlying28 Tryd.underlying5
  refine ⟨_, _, h, ((Q.refl w).drew).alloc _, fun i hi => ?_⟩
  have hi' : i < s.data.size := hi
  have hc := World.cell?_alloc_mark w.drew (bytesRow s (grownCap w s.size 0 5)) 5 ((bytesRow s (grownCap w s.size 0 5)).size, (bytesRow s (grownCap w s.size 0 5)).size + 1) i
  rw [show w.drew.heap.size = w.heap.size from rfl] at hc
  rw [hc, bytesRow_at s _ i hi']
  rfl
theorem numL_snoc (l : List UInt8) (b : UInt8) : numL (l ++ [b]) = numL l * 10 + (b.toNat - 48) := by simp [numL, List.foldl_append]
theorem numL_lt (l : List UInt8) (h : ∀ b ∈ l, b.toNat ≤ 57) : numL l < 10 ^ l.length := by
  have : ∀ (m : List UInt8) (n k : Nat), (∀ b ∈ m, b.toNat ≤ 57) → n < 10 ^ k → m.foldl (fun n b => n * 10 + (b.toNat - 48)) n < 10 ^ (k + m.length) := by
    intro m
    induction m with
    | nil => intro n k _ hn; simpa using hn
    | cons b r ih =>
      intro n k hm hn
      rw [List.foldl_cons, List.length_cons, show k + (r.length + 1) = (k + 1) + r.length by omega]
      refine ih _ _ (fun c hc => hm c (by simp [hc])) ?_
      have := hm b (by simp)
      rw [Nat.pow_succ]
      omega
  simpa [numL] using this l 0 0 h (by simp)
theorem neS_size (s : ByteArray) : neS s = decide (1 ≤ s.size) := by
  unfold neS
  rw [Bool.eq_iff_iff]
  have : s.data.toList.length = s.size := rfl
  cases hl : s.data.toList with
  | nil =>
    rw [hl] at this
    have h0 : 0 = s.size := this
    rw [← h0]; decide
  | cons b r =>
    rw [hl] at this
    have h0 : r.length + 1 = s.size := this
    rw [← h0]; simp
end Go.Proofs.YtclapheglgiokaaDoor
