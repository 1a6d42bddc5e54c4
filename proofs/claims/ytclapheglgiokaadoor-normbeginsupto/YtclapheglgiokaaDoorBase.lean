/-
  Small laws for layer 1: bits of bytes and ints, and three words on memory (what a slice of bytes holds, what a call leaves as it was). Nothing is proved of the statement here.
-/
import Derived.Test.YtclapheglgiokaaDoorRows
import Derived.WalkKit
import Derived.WalkSpells
import Derived.WalkLawsBesides
import Derived.Laws.BitsAllLaws
namespace Go.Proofs.YtclapheglgiokaaDoor
open Go.RowKit

theorem ret_int {k : IntKind} {a b : Int} (h : a = b) : Ending.returned (.int k a) = .returned (.int k b) := by rw [h]
theorem ret_bool {a b : Bool} (h : a = b) : Ending.returned (.bool a) = .returned (.bool b) := by rw [h]

theorem info5 : (Tryd.prog.info? 5).map (fun i => (i.zero, i.size, i.bytes)) = some (some (.int .u8 0), 1, 1) := by kernel_rfl

/-! ### bits -/
theorem ofInt_i64 (a : Nat) (ha : a < 9223372036854775808) : (BitVec.ofInt 64 (a : Int)).toNat = a := by
  rw [BitVec.ofInt_natCast, BitVec.toNat_ofNat]; exact Nat.mod_eq_of_lt (by omega)
theorem wrap_i64 (n : Int) : IntKind.i64.wrap n = (n + 9223372036854775808) % 18446744073709551616 - 9223372036854775808 := by
  simp only [IntKind.wrap, IntKind.bits, IntKind.signed]
  simp
  split <;> omega
theorem i64_and_nat (a b : Nat) (ha : a < 9223372036854775808) (hb : b < 9223372036854775808) : bits .and .i64 (a : Int) (b : Int) = ((a &&& b : Nat) : Int) := by
  have hx : a &&& b < 2 ^ 63 := Nat.and_lt_two_pow _ (by omega)
  show IntKind.i64.wrap ((BitVec.ofInt 64 (a : Int) &&& BitVec.ofInt 64 (b : Int)).toNat : Int) = _
  rw [BitVec.toNat_and, ofInt_i64 a ha, ofInt_i64 b hb, wrap_i64]
  omega
theorem i64_or_nat (a b : Nat) (ha : a < 9223372036854775808) (hb : b < 9223372036854775808) : bits .or .i64 (a : Int) (b : Int) = ((a ||| b : Nat) : Int) := by
  have hx : a ||| b < 2 ^ 63 := Nat.or_lt_two_pow (by omega) (by omega)
  show IntKind.i64.wrap ((BitVec.ofInt 64 (a : Int) ||| BitVec.ofInt 64 (b : Int)).toNat : Int) = _
  rw [BitVec.toNat_or, ofInt_i64 a ha, ofInt_i64 b hb, wrap_i64]
  omega
theorem i64_and255 (n : Int) (h0 : 0 ≤ n) (h : n < 9223372036854775808) : bits .and .i64 n 255 = n % 256 := by
  obtain ⟨m, rfl⟩ := Int.eq_ofNat_of_zero_le h0
  have := i64_and_nat m 255 (by omega) (by omega)
  rw [nat_mask8] at this
  simpa using this
theorem i64_or_low (a b : Int) (ha : 0 ≤ a) (h : a < 36028797018963968) (hb : 0 ≤ b) (hb' : b < 256) : bits .or .i64 (a * 256) b = a * 256 + b := by
  obtain ⟨x, rfl⟩ := Int.eq_ofNat_of_zero_le ha
  obtain ⟨y, rfl⟩ := Int.eq_ofNat_of_zero_le hb
  have := i64_or_nat (x * 256) y (by omega) (by omega)
  rw [nat_join 8 (x * 256) y (by omega) (by omega)] at this
  simpa using this
theorem u8_and63 (a : Int) (h0 : 0 ≤ a) (h : a < 256) : bits .and .u8 a 63 = a % 64 := by
  obtain ⟨x, rfl⟩ := Int.eq_ofNat_of_zero_le h0
  have := u8_and_nat x 63 (by omega) (by omega)
  rw [nat_mask6] at this
  simpa using this
theorem u8_or_tag (x t : Int) (h0 : 0 ≤ x) (h : x < 64) (ht : t = 0 ∨ t = 64 ∨ t = 128 ∨ t = 192) : bits .or .u8 x t = x + t := by
  obtain ⟨x, rfl⟩ := Int.eq_ofNat_of_zero_le h0
  have key : ∀ y : Nat, y < 256 → y % 64 = 0 → bits .or .u8 (x : Int) (y : Int) = (x : Int) + (y : Int) := by
    intro y hy h64
    rw [u8_or_nat x y (by omega) hy, Nat.or_comm, nat_join 6 y x (by omega) (by omega)]
    omega
  rcases ht with rfl | rfl | rfl | rfl
  · exact key 0 (by omega) (by omega)
  · exact key 64 (by omega) (by omega)
  · exact key 128 (by omega) (by omega)
  · exact key 192 (by omega) (by omega)

/-! ### memory -/
/-- Nothing that was there has turned. -/
def Q (w w' : World) : Prop := Below w.heap.size w w'
theorem Q.refl (w : World) : Q w w := Below.refl _ _
theorem Q.size {w w' : World} (h : Q w w') : w.heap.size ≤ w'.heap.size := Below.size h
theorem Q.trans {a b c : World} (h : Q a b) (k : Q b c) : Q a c := Below.trans h (Below.mono k h.size)
theorem Q.drew {a b : World} (h : Q a b) : Q a b.drew := Below.drew h
theorem Q.drewN {a b : World} (h : Q a b) (n : Nat) : Q a (b.drewN n) := below_drewN h n
theorem Q.cell {w w' : World} (h : Q w w') {p : Addr} (hp : p.block < w.heap.size) : w'.cell? p = w.cell? p := Below.cell h hp
theorem Q.alloc {a w : World} (h : Q a w) (o : Obj) : Q a (w.alloc o) := Below.alloc h h.size o
theorem Q.grown {a w w' : World} (h : Q a w) (hg : w.grownBy w' none) : Q a w' := Below.grown h hg h.size (by intro k hk; cases hk)

theorem lt_of_cell {w : World} {b o : Nat} {v : Value} (h : w.cell? ⟨b, o, none⟩ = some v) : b < w.heap.size := by
  by_cases hb : b < w.heap.size
  · exact hb
  · have : w.heap[b]? = none := by simp; omega
    simp [World.cell?, this] at h

/-- The bytes that a slice of bytes holds: its cells, where it has any. -/
def Seg (w : World) (a : Option Addr) (zs : List Int) : Prop :=
  zs ≠ [] → ∃ b off, a = some ⟨b, off, none⟩ ∧ ∀ i, i < zs.length → w.cell? ⟨b, off + i, none⟩ = some (.int .u8 (zs.getD i 0))

theorem Seg.q {w w' : World} {a : Option Addr} {zs : List Int} (h : Seg w a zs) (hq : Q w w') : Seg w' a zs := by
  intro hne
  obtain ⟨b, off, ha, hc⟩ := h hne
  refine ⟨b, off, ha, fun i hi => ?_⟩
  rw [hq.cell (lt_of_cell (hc i hi))]
  exact hc i hi

theorem seg_nil (w : World) (a : Option Addr) : Seg w a [] := fun h => absurd rfl h

theorem seg_take {w : World} {a : Option Addr} {zs : List Int} (h : Seg w a zs) (k : Nat) : Seg w a (zs.take k) := by
  intro hne
  obtain ⟨b, off, ha, hc⟩ := h (by intro e; simp [e] at hne)
  refine ⟨b, off, ha, fun i hi => ?_⟩
  have hi' : i < k ∧ i < zs.length := by simp at hi; omega
  rw [hc i hi'.2]
  simp [hi'.1]

/-- A row of bytes of the call's own. -/
def Own (w : World) (base : Nat) (a : Option Addr) (n cap : Nat) (zs : List Int) : Prop := w.ownsRow base 5 1 (.slice a n cap) n (zs.map (Value.int .u8))

theorem Own.len {w : World} {base : Nat} {a : Option Addr} {n cap : Nat} {zs : List Int} (h : Own w base a n cap zs) : zs.length = n := by
  have := h.1; simpa using this

theorem Own.q {w w' : World} {base : Nat} {a : Option Addr} {n cap : Nat} {zs : List Int} (h : Own w base a n cap zs) (hq : Q w w') : Own w' base a n cap zs := by
  refine ⟨h.1, ?_⟩
  rcases h.2 with h2 | ⟨g, cap, cur, hv, hb, hg, r⟩
  · exact .inl h2
  · refine .inr ⟨g, cap, cur, hv, hb, ?_, r⟩
    have hlt : g < w.heap.size := by
      by_cases hh : g < w.heap.size
      · exact hh
      · have : w.heap[g]? = none := by simp; omega
        rw [this] at hg; cases hg
    rw [Below.block hq g hlt]; exact hg

theorem Own.seg {w : World} {base : Nat} {a : Option Addr} {n cap : Nat} {zs : List Int} (h : Own w base a n cap zs) : Seg w a zs := by
  intro hne
  have hl := h.len
  rcases h.2 with ⟨h2, h3⟩ | ⟨g, cap', cur, hv, hb, hg, r⟩
  · exact absurd (List.length_eq_zero_iff.1 (by omega)) hne
  · simp only [Value.slice.injEq] at hv
    obtain ⟨rfl, _, rfl⟩ := hv
    refine ⟨g, 0, rfl, fun i hi => ?_⟩
    have := World.ownsRow.cellAt h i (by omega)
    rw [Nat.zero_add, this]
    simp [hi]

theorem hid {p : Prop} (h : p) : Hid p := h

theorem made_zero (s : Nat) : (madeCells (Value.int IntKind.u8 0).cells (s * 1)).toList = (List.replicate s 0).map (Value.int .u8) := by
  simp [Value.cells, toList_madeCells_one]

end Go.Proofs.YtclapheglgiokaaDoor
