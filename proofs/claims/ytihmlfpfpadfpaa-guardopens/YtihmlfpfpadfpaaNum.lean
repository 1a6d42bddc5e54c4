/-
  What guard's numberOf, first and phase do: contracts that the statements' walks use.
-/
import Derived.Test.YtihmlfpfpadfpaaChk
import Derived.BigQuiet
namespace Go.Proofs.Ytihmlfpfpadfpaa
open Go.RowKit
set_option linter.unusedVariables false
set_option maxRecDepth 20000

theorem val_take (zs : List Int) (i : Nat) (h : i < zs.length) : val 0 (zs.take (i + 1)) = val 0 (zs.take i) * 256 + zs.getD i 0 := by
  have hv : ∀ (xs : List Int) (a x : Int), val a (xs ++ [x]) = val a xs * 256 + x := by
    intro xs
    induction xs with
    | nil => intro a x; rfl
    | cons y r ih => intro a x; exact ih _ _
  rw [List.take_add_one, List.getElem?_eq_getElem h, Option.toList_some, hv, List.getD_eq_getElem?_getD, List.getElem?_eq_getElem h]; rfl
theorem val_lt {zs : List Int} (hz : By zs) (i : Nat) (h : i ≤ 4) : 0 ≤ val 0 (zs.take i) ∧ val 0 (zs.take i) < 256 ^ i := by
  induction i with
  | zero => simp [val]
  | succ i ih =>
    have hi := ih (by omega)
    rcases Nat.lt_or_ge i zs.length with hl | hl
    · rw [val_take zs i hl]
      have hx := getD_lt hz i
      have : (256 : Int) ^ (i + 1) = 256 ^ i * 256 := Int.pow_succ 256 i
      omega
    · rw [List.take_of_length_le (by omega)] at hi ⊢
      have : (256 : Int) ^ (i + 1) = 256 ^ i * 256 := Int.pow_succ 256 i
      omega
theorem pow_le4 (i : Nat) (h : i ≤ 4) : (256 : Int) ^ i ≤ 4294967296 := by
  rcases (show i = 0 ∨ i = 1 ∨ i = 2 ∨ i = 3 ∨ i = 4 by omega) with rfl | rfl | rfl | rfl | rfl <;> decide
set_option maxHeartbeats 4000000 in
theorem number_of (x : Sv) (zs : List Int) (w : World) (hx : In w x zs) (hn : x.n ≤ 4) :
    Calls Try.prog 76 #[.slice x.a x.n x.c] w fun e w' => e = .returned (.int .i64 (val 0 zs)) ∧ w = w' := by
  obtain ⟨xa, n, xc⟩ := x
  have HX := hid hx
  have HL := hid (show zs.length = n from hx.l)
  dsimp only at *
  clear hx
  go_enter Try.func76, Try.ntmps76
  go_wp2
  go_loopw [3, 8] (fun vs is wr => ∃ i : Nat, i ≤ n ∧ is = .int .i64 i ∧ vs = .int .i64 (val 0 (zs.take i)) ∧ wr = w) (fun _ is _ => ((n : Int) - intOf is).toNat)
  case atStart => exact ⟨0, Nat.zero_le _, rfl, rfl, rfl⟩
  case round =>
    obtain ⟨i, hi, rfl, rfl, rfl⟩ := hrel
    by_cases hin : i < n
    · have hin' : (i : Int) < (n : Int) := by omega
      have hmm : i < zs.length := by rw [HL.out]; exact hin
      obtain ⟨mb, mo, rfl, hmc⟩ := HX.out.s (by intro e; rw [e] at hmm; simp at hmm)
      have hy := hmc i hmm
      have hr := val_lt HX.out.z i (by omega)
      have hp := pow_le4 i (by omega)
      have HV := hid (val_take zs i hmm)
      have hg := getD_lt HX.out.z i
      have HO := hid (i64_or_low (val 0 (zs.take i)) (zs.getD i 0) hr.1 (by omega) hg.1 hg.2)
      have h0 : 0 ≤ val 0 (zs.take i) := hr.1
      have h1 : val 0 (zs.take i) < 4294967296 := by omega
      clear hmc hr hp
      generalize val 0 (zs.take i) = v at *
      generalize zs.getD i 0 = y at *
      go_wp2
      exact ⟨⟨i + 1, by omega, by go_num, by rw [HO.out, HV.out], trivial⟩, by simp [intOf]; omega⟩
    · obtain rfl : i = n := by omega
      have hin' : ¬ (i : Int) < (i : Int) := by omega
      rw [List.take_of_length_le (by rw [HL.out]; exact Nat.le_refl _)]
      go_wp2
      go_ret
      exact ⟨rfl, rfl⟩
/-- The cells of a packet without its mask. -/
abbrev bcells (b : Sv) (num : Int) (s : Sv) : Array Value := #[.slice b.a b.n b.c, .int .i64 num, .slice s.a s.n s.c]
def BB (w : World) (g : Nat) (b : Sv) (num : Int) (s : Sv) : Prop := w.heap[g]? = some (.cells (bcells b num s) 97 (0, 0))
section
variable {w w' : World} {g : Nat} {b s : Sv} {num : Int}
theorem BB.q (x : BB w g b num s) (q : Q w w') : BB w' g b num s := (Below.block q _ (lt_of_block x)).trans x
theorem BB.c0 (x : BB w g b num s) : w.cell? ⟨g, 0, none⟩ = some (.slice b.a b.n b.c) := by rw [cell_of_row w g 0 _ 97 (0, 0) x]; rfl
theorem BB.c1 (x : BB w g b num s) : w.cell? ⟨g, 1, none⟩ = some (.int .i64 num) := by rw [cell_of_row w g 1 _ 97 (0, 0) x]; rfl
theorem BB.c2 (x : BB w g b num s) : w.cell? ⟨g, 2, none⟩ = some (.slice s.a s.n s.c) := by rw [cell_of_row w g 2 _ 97 (0, 0) x]; rfl
end
theorem bc_one (b : Sv) (num : Int) (s : Sv) : (bcells b num s).all (·.oneCell') = true := by simp [Value.oneCell']
theorem binfo (b : Sv) (num : Int) (s : Sv) : (Try.prog.info? 97).map (·.size) = some (bcells b num s).size := by
  show (Try.prog.info? 97).map (·.size) = some 3
  kernel_rfl
theorem ret_bare {fn : Func} {p : Tmp} {a : Act} {w : World} {R : Ending → World → Prop} (hr : fn.results = #[.cell p 97]) (hd : a.defers = [])
    (g : Nat) (b : Sv) (num : Int) (s : Sv) (hp : a.tmps.getD p undef = .pointer (some ⟨g, 0, none⟩)) (hb : BB w g b num s) (hR : R (.returned (.agg (bcells b num s))) w) : bodyPost Try.prog fn R .ret a w :=
  ⟨hd, _, results_cell_row hr _ w g 97 _ (0, 0) _ hp hb Try.underlying97 rfl (by kernel_rfl), hR⟩
theorem in_cell {w : World} {x : Sv} {zs : List Int} (h : In w x zs) {j : Nat} (hj : j < x.n) : ∃ g o, x.a = some ⟨g, o, none⟩ ∧ w.cell? ⟨g, o + j, none⟩ = some (.int .u8 (zs.getD j 0)) := by
  have hl : j < zs.length := by rw [h.l]; exact hj
  obtain ⟨g, o, e, hc⟩ := h.s (by intro e; rw [e] at hl; simp at hl)
  exact ⟨g, o, e, hc j hl⟩
set_option maxHeartbeats 4000000 in
theorem first_any (b : Sv) (num : Int) (s : Sv) (zs : List Int) (w : World) (hb : In w b zs) (hn : 0 < b.n) :
    Calls Try.prog 53 #[.agg (bcells b num s)] w fun e w' => e = .returned (.int .u8 (zs.getD 0 0)) ∧ Q w w' := by
  obtain ⟨ba, bn, bc⟩ := b
  dsimp only at *
  obtain ⟨g, o, he, hc⟩ := in_cell hb hn
  dsimp only at he
  subst he
  rw [Nat.add_zero] at hc
  have hc' : (w.alloc (.cells (bcells ⟨some ⟨g, o, none⟩, bn, bc⟩ num s) 97)).cell? ⟨g, o, none⟩ = some (.int .u8 (zs.getD 0 0)) := (((Q.refl w).alloc _).cell (p := ⟨g, o, none⟩) (lt_of_cell hc)).trans hc
  have h0 : (0 : Int) < (bn : Int) := by omega
  generalize zs.getD 0 0 = y at *
  go_enter Try.func53, Try.ntmps53
  go_wp2
  go_ret
  exact ⟨rfl, (Q.refl w).alloc _⟩
theorem and3 (f : Int) (h0 : 0 ≤ f) (h1 : f < 256) : bits .and .u8 f 3 = f % 4 := by
  rw [u8_and f 3 h0 h1 (by omega) (by omega)]
  obtain ⟨n, rfl⟩ := Int.eq_ofNat_of_zero_le h0
  have hn : n < 256 := by omega
  have : ∀ n : Nat, n < 256 → (((n : Int).toNat &&& (3 : Int).toNat : Nat) : Int) = (n : Int) % 4 := by decide +kernel
  exact this n hn
theorem and4 (f : Int) (h0 : 0 ≤ f) (h1 : f < 256) : (bits .and .u8 f 4 != 0) = decide (f / 4 % 2 = 1) := by
  rw [u8_and f 4 h0 h1 (by omega) (by omega)]
  obtain ⟨n, rfl⟩ := Int.eq_ofNat_of_zero_le h0
  have hn : n < 256 := by omega
  have : ∀ n : Nat, n < 256 → ((((n : Int).toNat &&& (4 : Int).toNat : Nat) : Int) != 0) = decide ((n : Int) / 4 % 2 = 1) := by decide +kernel
  exact this n hn
end Go.Proofs.Ytihmlfpfpadfpaa
