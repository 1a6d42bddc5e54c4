/-
  Sealing as plain mathematics: the stream, what it makes of bytes, the tag; that it undoes itself. Nothing is proved of a statement here.
-/
import Derived.Test.YtekpepnonhbkcaaSzd
namespace Go.Proofs.Ytekpepnonhbkcaa
open Go.RowKit

theorem by8_lt (a : Int) : ∀ y ∈ by8 a, 0 ≤ y ∧ y < 256 := by
  intro y hy
  simp only [by8, List.mem_cons, List.not_mem_nil, or_false] at hy
  omega
theorem sumL_lt (m : Mx) : ∀ y ∈ sumL m, 0 ≤ y ∧ y < 256 := by
  intro y hy
  rcases List.mem_append.1 hy with h | h
  · exact by8_lt _ y h
  · exact by8_lt _ y h
theorem dg_lt (zs : List Int) : ∀ y ∈ dg zs, 0 ≤ y ∧ y < 256 := sumL_lt _
theorem getD_lt {l : List Int} (h : ∀ y ∈ l, 0 ≤ y ∧ y < 256) (i : Nat) : 0 ≤ l.getD i 0 ∧ l.getD i 0 < 256 := by
  rw [List.getD_eq_getElem?_getD]
  rcases Nat.lt_or_ge i l.length with hi | hi
  · rw [List.getElem?_eq_getElem hi]; exact h _ (List.getElem_mem hi)
  · rw [List.getElem?_eq_none hi]; simp
theorem tx_lt {zs : List Int} (h : ∀ y ∈ zs, 0 ≤ y ∧ y < 256) : ∀ y ∈ tx zs, 0 ≤ y ∧ y < 256 := by
  intro y hy
  rcases List.mem_cons.1 hy with rfl | hy
  · omega
  · exact h y hy

/-- What stands ahead of a number in the stream, and of the bytes in a tag. -/
def pre (t : Int) (k n : List Int) : List Int := t :: (tx k ++ tx n)
/-- The stream's block, its byte at a place. -/
def blkS (k n : List Int) (j : Nat) : List Int := dg (pre 1 k n ++ wrd j)
def strm (k n : List Int) (i : Nat) : Int := (blkS k n (i / 16)).getD (i % 16) 0
theorem blkS_len (k n : List Int) (j : Nat) : (blkS k n j).length = 16 := dg_len _
theorem strm_lt (k n : List Int) (i : Nat) : 0 ≤ strm k n i ∧ strm k n i < 256 := getD_lt (dg_lt _) _
/-- Each byte xor the stream's at its place. -/
def ovl (k n zs : List Int) : List Int := zs.mapIdx fun i x => bits .xor .u8 x (strm k n i)
theorem ovl_len (k n zs : List Int) : (ovl k n zs).length = zs.length := by simp [ovl]
theorem xor_lt (x y : Int) (h0 : 0 ≤ x) (h1 : x < 256) (h2 : 0 ≤ y) (h3 : y < 256) : 0 ≤ bits .xor .u8 x y ∧ bits .xor .u8 x y < 256 := by
  rw [u8_xor x y h0 h1 h2 h3]
  have : x.toNat ^^^ y.toNat < 2 ^ 8 := Nat.xor_lt_two_pow (by omega) (by omega)
  omega
theorem xor_xor (x y : Int) (h0 : 0 ≤ x) (h1 : x < 256) (h2 : 0 ≤ y) (h3 : y < 256) : bits .xor .u8 (bits .xor .u8 x y) y = x := by
  have h := xor_lt x y h0 h1 h2 h3
  rw [u8_xor (bits .xor .u8 x y) y h.1 h.2 h2 h3, u8_xor x y h0 h1 h2 h3, Int.toNat_natCast, Nat.xor_assoc, Nat.xor_self, Nat.xor_zero]
  omega
theorem ovl_lt {k n zs : List Int} (h : ∀ y ∈ zs, 0 ≤ y ∧ y < 256) : ∀ y ∈ ovl k n zs, 0 ≤ y ∧ y < 256 := by
  intro y hy
  obtain ⟨i, hi, rfl⟩ := List.mem_mapIdx.1 hy
  have hx := h _ (List.getElem_mem hi)
  have hs := strm_lt k n i
  exact xor_lt _ _ hx.1 hx.2 hs.1 hs.2
theorem ovl_ovl {k n zs : List Int} (h : ∀ y ∈ zs, 0 ≤ y ∧ y < 256) : ovl k n (ovl k n zs) = zs := by
  apply List.ext_getElem
  · rw [ovl_len, ovl_len]
  · intro i h1 h2
    have hx := h _ (List.getElem_mem h2)
    have hs := strm_lt k n i
    simp only [ovl, List.getElem_mapIdx]
    exact xor_xor _ _ hx.1 hx.2 hs.1 hs.2
theorem ovl_snoc (k n zs : List Int) (i : Nat) (h : i < zs.length) : (ovl k n zs).take (i + 1) = (ovl k n zs).take i ++ [bits .xor .u8 (zs.getD i 0) (strm k n i)] := by
  have hl : i < (ovl k n zs).length := by rw [ovl_len]; exact h
  rw [List.take_add_one, List.getElem?_eq_getElem hl, List.getD_eq_getElem?_getD, List.getElem?_eq_getElem h]
  simp [ovl]
/-- The tag. -/
def tagL (k n ad c : List Int) : List Int := dg (pre 2 k n ++ wrd ad.length ++ ad ++ c)
theorem tagL_len (k n ad c : List Int) : (tagL k n ad c).length = 16 := dg_len _
/-- What is too long. -/
def chkE (kl nl al : Nat) (size : Int) : Int := if 255 < kl ∨ 255 < nl then 70 else if 16384 < al ∨ 16384 < size then 52 else 0
end Go.Proofs.Ytekpepnonhbkcaa
