/-
  What reading back wants besides: a string is its bytes, the first byte's bits above the prefix, and what is read of what was joined. Nothing is proved of a statement here.
-/
import Derived.Test.YtchkiohmjgmmbaaPfH
import Derived.Test.YtchkiohmjgmmbaaByE
namespace Go.Proofs.Ytchkiohmjgmmbaa
open Go.RowKit
set_option linter.unusedVariables false
set_option maxRecDepth 20000

theorem str_sb (s : ByteArray) : strOfNums (sb s) = s := by
  apply ByteArray.ext
  unfold strOfNums sb
  rw [List.map_map]
  have e : ((fun n : Int => UInt8.ofNat n.toNat) ∘ fun b : UInt8 => (b.toNat : Int)) = id := by
    funext b
    simp
  rw [e, List.map_id]
theorem above_div {f z t : Int} (hz : 1 ≤ z) (t0 : 0 ≤ t) (t1 : t < z) : (f / z * z + t) / z = f / z := by
  rw [Int.add_comm, Int.add_mul_ediv_right _ _ (by omega), Int.ediv_eq_zero_of_lt t0 t1, Int.zero_add]
theorem pu_first {n f : Int} {k : Nat} (hk1 : 1 ≤ k) (hk : k ≤ 8) (h0 : 0 ≤ f) (h1 : f < 256) (hn : 0 ≤ n) : ∃ y r, pfP n (2 ^ k) (f / 2 ^ k * 2 ^ k) = y :: r ∧ 0 ≤ y ∧ y < 256 ∧ y / 2 ^ k = f / 2 ^ k := by
  have hz := two_k k hk
  have hH := high_ok hk h0 h1
  obtain ⟨t, r, e, t0, t1⟩ := pf_head n (2 ^ k) (f / 2 ^ k * 2 ^ k) (two_k2 k hk1) hn
  exact ⟨_, r, e, by omega, by omega, above_div hz.2 t0 t1⟩
theorem pt_first {f : Int} {k : Nat} (s : List Int) (hk1 : 1 ≤ k) (hk : k ≤ 7) (h0 : 0 ≤ f) (h1 : f < 256) : ∃ y r, ptT s (2 ^ k) (f / (2 * 2 ^ k) * (2 * 2 ^ k)) = y :: r ∧ 0 ≤ y ∧ y < 256 ∧ y / 2 ^ (k + 1) = f / 2 ^ (k + 1) := by
  have hz := two_k k (by omega)
  have hH := high_ok (k := k + 1) (f := f) (by omega) h0 h1
  have e2 : (2 : Int) ^ (k + 1) = 2 * 2 ^ k := by rw [Int.pow_succ, Int.mul_comm]
  rw [e2] at hH ⊢
  unfold ptT
  split
  · obtain ⟨t, r, e, t0, t1⟩ := pf_head (hM (hN s) : Nat) (2 ^ k) (f / (2 * 2 ^ k) * (2 * 2 ^ k) + 2 ^ k) (two_k2 k hk1) (by omega)
    refine ⟨_, r ++ hE s, by rw [e]; rfl, by omega, by omega, ?_⟩
    rw [Int.add_assoc]
    exact above_div (by omega) (by omega) (by omega)
  · obtain ⟨t, r, e, t0, t1⟩ := pf_head (s.length : Nat) (2 ^ k) (f / (2 * 2 ^ k) * (2 * 2 ^ k)) (two_k2 k hk1) (by omega)
    refine ⟨_, r ++ s, by rw [e]; rfl, by omega, by omega, ?_⟩
    exact above_div (by omega) (by omega) (by omega)
theorem pf_bytes {n h : Int} {z : Int} (hn : 0 ≤ n) (hm : n ≤ mxN) (h0 : 0 ≤ h) (hz : 2 ≤ z) (hh : h + z ≤ 256) : ∀ y ∈ pfP n z h, 0 ≤ y ∧ y < 256 := by
  have hmx : mxN = 4611686018427387903 := rfl
  intro y hy
  unfold pfP at hy
  split at hy
  · rw [List.mem_singleton] at hy; omega
  · rcases List.mem_cons.1 hy with rfl | hy
    · omega
    · exact ct_bytes 8 (n - (z - 1)) (by omega) (by rw [show (128 : Int) * 128 ^ 8 = 9223372036854775808 by decide]; omega) y hy
theorem pu_bytes {n f : Int} {k : Nat} (hk1 : 1 ≤ k) (hk : k ≤ 8) (h0 : 0 ≤ f) (h1 : f < 256) (hn : 0 ≤ n) (hm : n ≤ mxN) : ∀ y ∈ pfP n (2 ^ k) (f / 2 ^ k * 2 ^ k), 0 ≤ y ∧ y < 256 := by
  have hH := high_ok hk h0 h1
  exact pf_bytes hn hm hH.1 (two_k2 k hk1) (by omega)
theorem pt_bytes {f : Int} {k : Nat} {s : List Int} (hk1 : 1 ≤ k) (hk : k ≤ 7) (h0 : 0 ≤ f) (h1 : f < 256) (hs : ∀ y ∈ s, 0 ≤ y ∧ y < 256) (hl : s.length ≤ 16384) : ∀ y ∈ ptT s (2 ^ k) (f / (2 * 2 ^ k) * (2 * 2 ^ k)), 0 ≤ y ∧ y < 256 := by
  have hz := two_k k (by omega)
  have hH := high_ok (k := k + 1) (f := f) (by omega) h0 h1
  have e2 : (2 : Int) ^ (k + 1) = 2 * 2 ^ k := by rw [Int.pow_succ, Int.mul_comm]
  have hmx : mxN = 4611686018427387903 := rfl
  rw [e2] at hH
  intro y hy
  unfold ptT at hy
  have hml := hM_le s
  split at hy
  · rcases List.mem_append.1 hy with h | h
    · exact pf_bytes (by omega) (by omega) (by omega) (two_k2 k hk1) (by omega) y h
    · exact bytes_hE _ y h
  · rcases List.mem_append.1 hy with h | h
    · exact pf_bytes (by omega) (by omega) (by omega) (two_k2 k hk1) (by omega) y h
    · exact hs y h
theorem pg_back {n f : Int} {k : Nat} (xs ys : List Int) (hk1 : 1 ≤ k) (hk : k ≤ 8) (hn : 0 ≤ n) (hm : n ≤ mxN) : pgA (xs ++ (pfP n (2 ^ k) (f / 2 ^ k * 2 ^ k) ++ ys)) (xs.length : Nat) k = (n, xs.length + (pfP n (2 ^ k) (f / 2 ^ k * 2 ^ k)).length, 0) := by
  unfold pgA
  rw [if_neg (by omega), if_neg (by rw [List.length_append]; omega), Int.toNat_natCast, Int.toNat_natCast]
  exact pf_back xs ys n (2 ^ k) _ (two_k2 k hk1) hn hm (Int.mul_emod_left _ _)
theorem gt_eq {zs : List Int} {p k : Nat} (hk1 : 1 ≤ k) (hk : k ≤ 7) (hp : p ≤ zs.length) : gtB zs p k = gtT zs p (2 ^ k) := by
  unfold gtB gtT pgA
  rw [if_neg (by omega), if_neg (by omega), if_neg (by omega), Int.toNat_natCast, Int.toNat_natCast]
theorem gt_back {f : Int} {k : Nat} (xs ys s : List Int) (hk1 : 1 ≤ k) (hk : k ≤ 7) (hs : ∀ y ∈ s, 0 ≤ y ∧ y < 256) (hl : s.length ≤ 16384) : gtB (xs ++ (ptT s (2 ^ k) (f / (2 * 2 ^ k) * (2 * 2 ^ k)) ++ ys)) (xs.length : Nat) k = (s, xs.length + (ptT s (2 ^ k) (f / (2 * 2 ^ k) * (2 * 2 ^ k))).length, 0) := by
  rw [gt_eq hk1 hk (by rw [List.length_append]; omega)]
  exact pt_back xs ys s (2 ^ k) _ (two_k2 k hk1) (Int.mul_emod_left _ _) hs hl
end Go.Proofs.Ytchkiohmjgmmbaa
