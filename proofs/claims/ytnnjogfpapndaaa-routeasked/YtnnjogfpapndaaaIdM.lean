/-
  Ids of a worker and a serial number: plain mathematics.
-/
import Derived.Test.YtnnjogfpapndaaaDgs
namespace Go.Proofs.Ytnnjogfpapndaaa
open Go.RowKit
set_option linter.unusedVariables false
set_option maxRecDepth 20000

/-- Bytes xor bytes. -/
def xr (zs ms : List Int) : List Int := List.zipWith (fun x y => bits .xor .u8 x y) zs ms
theorem xr_len (zs ms : List Int) : (xr zs ms).length = min zs.length ms.length := by simp [xr]
theorem xr_by {zs ms : List Int} (h : By zs) (k : By ms) : By (xr zs ms) := by
  induction zs generalizing ms with
  | nil => intro y hy; simp [xr] at hy
  | cons x r ih =>
    cases ms with
    | nil => intro y hy; simp [xr] at hy
    | cons m t =>
      intro y hy
      rw [show xr (x :: r) (m :: t) = bits .xor .u8 x m :: xr r t from rfl] at hy
      rcases List.mem_cons.1 hy with rfl | hy
      · exact xor_lt x m (h x (by simp)).1 (h x (by simp)).2 (k m (by simp)).1 (k m (by simp)).2
      · exact ih (fun z hz => h z (by simp [hz])) (fun z hz => k z (by simp [hz])) y hy
theorem xr_xr {zs ms : List Int} (h : By zs) (k : By ms) (hl : zs.length = ms.length) : xr (xr zs ms) ms = zs := by
  induction zs generalizing ms with
  | nil => simp [xr]
  | cons x r ih =>
    cases ms with
    | nil => simp at hl
    | cons m t =>
      rw [show xr (x :: r) (m :: t) = bits .xor .u8 x m :: xr r t from rfl, show xr (bits .xor .u8 x m :: xr r t) (m :: t) = bits .xor .u8 (bits .xor .u8 x m) m :: xr (xr r t) t from rfl]
      rw [xor_xor x m (h x (by simp)).1 (h x (by simp)).2 (k m (by simp)).1 (k m (by simp)).2, ih (fun z hz => h z (by simp [hz])) (fun z hz => k z (by simp [hz])) (by simpa using hl)]
theorem xor_byte (a b : Nat) (k : Nat) : ((a ^^^ b : Nat) / 256 ^ k) % 256 = (a / 256 ^ k % 256) ^^^ (b / 256 ^ k % 256) := by
  have e : 256 ^ k = 2 ^ (8 * k) := by rw [Nat.pow_mul]
  rw [e, ← Nat.shiftRight_eq_div_pow, ← Nat.shiftRight_eq_div_pow, ← Nat.shiftRight_eq_div_pow, Nat.shiftRight_xor_distrib]
  exact Nat.xor_mod_two_pow (n := 8)
theorem be_xor (a b : Nat) : ∀ k, be k ((a ^^^ b : Nat) : Int) = xr (be k a) (be k b)
  | 0 => rfl
  | k + 1 => by
    rw [show be (k + 1) ((a ^^^ b : Nat) : Int) = (((a ^^^ b : Nat) : Int) / 256 ^ k) % 256 :: be k ((a ^^^ b : Nat) : Int) from rfl, be_xor a b k]
    rw [show xr (be (k + 1) (a : Int)) (be (k + 1) (b : Int)) = bits .xor .u8 ((a : Int) / 256 ^ k % 256) ((b : Int) / 256 ^ k % 256) :: xr (be k a) (be k b) from rfl]
    congr 1
    have h := xor_byte a b k
    have ha : (a : Int) / 256 ^ k % 256 = ((a / 256 ^ k % 256 : Nat) : Int) := by simp
    have hb : (b : Int) / 256 ^ k % 256 = ((b / 256 ^ k % 256 : Nat) : Int) := by simp
    rw [ha, hb, u8_xor_nat _ _ (Nat.mod_lt _ (by decide)) (Nat.mod_lt _ (by decide)), ← h]
    simp
theorem xor64 {a b : Int} (ha : 0 ≤ a) (ha' : a < 18446744073709551616) (hb : 0 ≤ b) (hb' : b < 18446744073709551616) : (0 ≤ bits .xor .u64 a b ∧ bits .xor .u64 a b < 18446744073709551616) ∧ ∀ k, be k (bits .xor .u64 a b) = xr (be k a) (be k b) := by
  obtain ⟨a, rfl⟩ := Int.eq_ofNat_of_zero_le ha
  obtain ⟨b, rfl⟩ := Int.eq_ofNat_of_zero_le hb
  rw [u64_xor_nat a b (by omega) (by omega)]
  have : a ^^^ b < 2 ^ 64 := Nat.xor_lt_two_pow (by omega) (by omega)
  exact ⟨by omega, be_xor a b⟩
theorem be8_inj {a b : Int} (ha : 0 ≤ a) (ha' : a < 18446744073709551616) (hb : 0 ≤ b) (hb' : b < 18446744073709551616) (h : be 8 a = be 8 b) : a = b := by
  have h1 := val_be_of (s := 8) ha ha'
  have h2 := val_be_of (s := 8) hb hb'
  rw [← h1, ← h2, h]
theorem xor8_zero {x : Int} (h0 : 0 ≤ x) (h1 : x < 256) : bits .xor .u8 x 0 = x ∧ bits .xor .u8 0 x = x := by
  obtain ⟨n, rfl⟩ := Int.eq_ofNat_of_zero_le h0
  have e1 := u8_xor_nat n 0 (by omega) (by omega)
  have e2 := u8_xor_nat 0 n (by omega) (by omega)
  constructor
  · simpa using e1
  · simpa using e2
theorem be_zero : ∀ k, be k 0 = List.replicate k 0
  | 0 => rfl
  | k + 1 => by rw [be, be_zero k]; simp [List.replicate_succ]
theorem xr_zeros {zs : List Int} (h : By zs) : xr (List.replicate zs.length 0) zs = zs := by
  induction zs with
  | nil => rfl
  | cons x r ih =>
    rw [List.length_cons, List.replicate_succ, show xr (0 :: List.replicate r.length 0) (x :: r) = bits .xor .u8 0 x :: xr (List.replicate r.length 0) r from rfl, ih (fun z hz => h z (by simp [hz])), (xor8_zero (h x (by simp)).1 (h x (by simp)).2).2]
/-- The worker above the serial number. -/
theorem be8_up {w : Int} (h0 : 0 ≤ w) (h1 : w < 256) : be 8 (w * 72057594037927936) = w :: List.replicate 7 0 := by
  have e : ∀ k, k ≤ 7 → be k (w * 72057594037927936) = List.replicate k 0 := by
    intro k hk
    rcases (show k = 0 ∨ k = 1 ∨ k = 2 ∨ k = 3 ∨ k = 4 ∨ k = 5 ∨ k = 6 ∨ k = 7 by omega) with rfl | rfl | rfl | rfl | rfl | rfl | rfl | rfl <;> simp [be, List.replicate_succ] <;> omega
  rw [be, e 7 (by omega)]
  congr 1
  omega
theorem be8_low {s : Int} (h0 : 0 ≤ s) (h1 : s < 72057594037927936) : be 8 s = 0 :: be 7 s := by
  rw [be]
  congr 1
  omega
/-- An id ahead of what lies over it. -/
def idL (w s : Int) : List Int := w :: be 7 s
theorem idL_by {w s : Int} (h0 : 0 ≤ w) (h1 : w < 256) : By (idL w s) := by
  intro y hy
  rcases List.mem_cons.1 hy with rfl | hy
  · exact ⟨h0, h1⟩
  · exact be_bound 7 s y hy
theorem id_num {w s : Int} (h0 : 0 ≤ w) (h1 : w < 256) (s0 : 0 ≤ s) (s1 : s < 72057594037927936) : be 8 (bits .xor .u64 (w * 72057594037927936) s) = idL w s := by
  rw [(xor64 (a := w * 72057594037927936) (b := s) (by omega) (by omega) s0 (by omega)).2 8, be8_up h0 h1, be8_low s0 s1]
  rw [show xr (w :: List.replicate 7 0) (0 :: be 7 s) = bits .xor .u8 w 0 :: xr (List.replicate 7 0) (be 7 s) from rfl, (xor8_zero h0 h1).1]
  have := xr_zeros (be_bound 7 s)
  rw [be_length] at this
  rw [this]; rfl
theorem veN_bd (ks : List Int) : 0 ≤ veN ks ∧ veN ks < 18446744073709551616 := by
  have := val_bound (veL ks) 0 (by omega) (veL_by ks)
  rw [veL_len] at this
  exact ⟨this.1, by have := this.2; show val 0 (veL ks) < _; simpa using this⟩
theorem be_veN (ks : List Int) : be 8 (veN ks) = veL ks := be_val (veL ks) (veL_by ks) 0
/-- What Make writes. -/
theorem make_num (ks : List Int) {w s : Int} (h0 : 0 ≤ w) (h1 : w < 256) (s0 : 0 ≤ s) (s1 : s < 72057594037927936) :
    (0 ≤ bits .xor .u64 (bits .xor .u64 (w * 72057594037927936) s) (veN ks) ∧ bits .xor .u64 (bits .xor .u64 (w * 72057594037927936) s) (veN ks) < 18446744073709551616) ∧ be 8 (bits .xor .u64 (bits .xor .u64 (w * 72057594037927936) s) (veN ks)) = xr (idL w s) (veL ks) := by
  have h := xor64 (a := w * 72057594037927936) (b := s) (by omega) (by omega) s0 (by omega)
  have k := xor64 h.1.1 h.1.2 (veN_bd ks).1 (veN_bd ks).2
  exact ⟨k.1, by rw [k.2 8, id_num h0 h1 s0 s1, be_veN]⟩
/-- What Read tells. -/
def rdW (zs ks : List Int) : Int := (xr zs (veL ks)).getD 0 0
def rdS (zs ks : List Int) : Int := val 0 ((xr zs (veL ks)).drop 1)
theorem read_num {zs ks : List Int} (hz : By zs) (hl : zs.length = 8) :
    (0 ≤ bits .xor .u64 (val 0 zs) (veN ks) ∧ bits .xor .u64 (val 0 zs) (veN ks) < 18446744073709551616) ∧ bits .xor .u64 (val 0 zs) (veN ks) / 72057594037927936 = rdW zs ks ∧ bits .xor .u64 (val 0 zs) (veN ks) % 72057594037927936 = rdS zs ks ∧ 0 ≤ rdW zs ks ∧ rdW zs ks < 256 ∧ 0 ≤ rdS zs ks ∧ rdS zs ks < 72057594037927936 := by
  have hv := val_bound zs 0 (by omega) hz
  rw [hl] at hv
  have h := xor64 (a := val 0 zs) (b := veN ks) hv.1 (by have := hv.2; simpa using this) (veN_bd ks).1 (veN_bd ks).2
  have hb : be 8 (bits .xor .u64 (val 0 zs) (veN ks)) = xr zs (veL ks) := by
    rw [h.2 8, be_veN]
    congr 1
    have := be_val zs hz 0
    rwa [hl] at this
  have hxb := xr_by hz (veL_by ks)
  have hxl : (xr zs (veL ks)).length = 8 := by rw [xr_len, hl, veL_len]; rfl
  have hN := val_be_of (s := 8) h.1.1 h.1.2
  rw [hb] at hN
  unfold rdW rdS
  refine ⟨h.1, ?_⟩
  generalize bits .xor .u64 (val 0 zs) (veN ks) = N at *
  generalize xr zs (veL ks) = X at *
  cases X with
  | nil => simp at hxl
  | cons x r =>
    have hr : r.length = 7 := by simpa using hxl
    have hx := hxb x (by simp)
    have hrb : ∀ y ∈ r, 0 ≤ y ∧ y < 256 := fun y hy => hxb y (by simp [hy])
    have hd := val_div r hrb x
    have hs := val_split r x
    have hvb := val_bound r 0 (by omega) hrb
    rw [hr] at hd hs hvb
    rw [val, show (0 : Int) * 256 + x = x by omega] at hN
    rw [show (x :: r).getD 0 0 = x from rfl, show (x :: r).drop 1 = r from rfl]
    rw [hN] at hd hs
    have e7 : (256 : Int) ^ 7 = 72057594037927936 := by decide
    rw [e7] at hd hs hvb
    omega
/-- Read behind Make. -/
theorem read_make (ks : List Int) {w s : Int} (h0 : 0 ≤ w) (h1 : w < 256) (s0 : 0 ≤ s) (s1 : s < 72057594037927936) : rdW (xr (idL w s) (veL ks)) ks = w ∧ rdS (xr (idL w s) (veL ks)) ks = s := by
  unfold rdW rdS
  rw [xr_xr (idL_by h0 h1) (veL_by ks) (by rw [veL_len, idL, List.length_cons, be_length])]
  exact ⟨rfl, val_be_of (s := 7) s0 s1⟩
/-- Make behind Read. -/
theorem make_read {zs : List Int} (ks : List Int) (hz : By zs) (hl : zs.length = 8) : xr (idL (rdW zs ks) (rdS zs ks)) (veL ks) = zs := by
  have hxb := xr_by hz (veL_by ks)
  have hxl : (xr zs (veL ks)).length = 8 := by rw [xr_len, hl, veL_len]; rfl
  have e : idL (rdW zs ks) (rdS zs ks) = xr zs (veL ks) := by
    unfold rdW rdS idL
    generalize xr zs (veL ks) = X at *
    cases X with
    | nil => simp at hxl
    | cons x r =>
      have hr : r.length = 7 := by simpa using hxl
      rw [show (x :: r).getD 0 0 = x from rfl, show (x :: r).drop 1 = r from rfl]
      have := be_val r (fun y hy => hxb y (by simp [hy])) 0
      rw [hr] at this
      rw [this]
  rw [e, xr_xr hz (veL_by ks) (by rw [hl, veL_len])]
end Go.Proofs.Ytnnjogfpapndaaa
