/-
  What the document's In answers, and the law's book in memory: for the walk of the law LossOnce.
-/
import Derived.Test.YtjhihcmemnhbbaaDrp
namespace Go.Proofs.Ytjhihcmemnhbbaa
open Go.RowKit
set_option linter.unusedVariables false
set_option maxRecDepth 20000

set_option maxHeartbeats 1000000 in
theorem in_any {w : World} {a : Option Addr} {m c : Nat} {l : List Spn} (ht : SegS w a l) (hl : l.length = m) (hm : m ≤ 4611686018427387904) (n : Int) :
    Calls Try.prog 16 #[.slice a m c, .int .i64 n] w fun e w' => e = .returned (.bool (inS l n)) ∧ Q w w' := by
  have HT := hid ht
  have HL := hid hl
  clear ht hl
  go_enter Try.func16, Try.ntmps16
  go_wp2
  go_loopw [5] (fun i wr => ∃ j : Nat, j ≤ m ∧ i = .int .i64 j ∧ (∀ t, t < j → ¬ ((gS l t).1 ≤ n ∧ n ≤ (gS l t).2)) ∧ w = wr) (fun i _ => m - (intOf i).toNat)
  case atStart => exact ⟨0, Nat.zero_le _, rfl, fun t ht => by omega, rfl⟩
  case round =>
    obtain ⟨j, hj, rfl, hn, rfl⟩ := hrel
    have HN := hid hn
    clear hn
    by_cases hlt : j < m
    · have hlt' : (j : Int) < (m : Int) := by omega
      have hwi : IntKind.i64.wrap ((j : Int) + 1) = ((j + 1 : Nat) : Int) := by rw [IntKind.wrap_i64]; omega
      have hjl : j < l.length := by rw [HL.out]; exact hlt
      obtain ⟨g, o2, rfl, hc⟩ := HT.out (by intro e; rw [e] at hjl; simp at hjl)
      have hS := hc j hjl
      have c0 := hS.c0
      have c1 := hS.c1
      obtain ⟨x, hx⟩ : ∃ x, x = gS l j := ⟨_, rfl⟩
      have hx' : l.getD j (0, 0) = x := hx.symm
      rw [hx'] at c0 c1
      have HX := hid hx
      have HJL := hid hjl
      clear hS hc hx hx' hjl
      by_cases h1 : x.1 ≤ n
      · have d1 : decide (x.1 ≤ n) = true := by simp [h1]
        by_cases h2 : n ≤ x.2
        · have d2 : decide (n ≤ x.2) = true := by simp [h2]
          have HR := hid (show inS l n = true from (inS_iff l n).2 ⟨j, HJL.out, by rw [← HX.out]; exact ⟨h1, h2⟩⟩)
          clear h1 h2
          go_wp2
          go_ret
          exact ⟨ret_bool HR.out.symm, Q.refl w⟩
        · have d2 : decide (n ≤ x.2) = false := by simp [h2]
          have HR := hid (show ¬ ((gS l j).1 ≤ n ∧ n ≤ (gS l j).2) from by rw [← HX.out]; omega)
          clear h1 h2
          go_wp2
          go_roundw
          case rel => exact ⟨j + 1, by omega, by go_num, fun t ht => (by
            by_cases e : t = j
            · rw [e]; exact HR.out
            · exact HN.out t (by omega)), by first | rfl | trivial⟩
          case measure => simp [intOf]; omega
      · have d1 : decide (x.1 ≤ n) = false := by simp [h1]
        have HR := hid (show ¬ ((gS l j).1 ≤ n ∧ n ≤ (gS l j).2) from by rw [← HX.out]; omega)
        clear h1
        go_wp2
        go_roundw
        case rel => exact ⟨j + 1, by omega, by go_num, fun t ht => (by
          by_cases e : t = j
          · rw [e]; exact HR.out
          · exact HN.out t (by omega)), by first | rfl | trivial⟩
        case measure => simp [intOf]; omega
    · obtain rfl : j = m := by omega
      have HR := hid (show inS l n = false from by
        cases h : inS l n with
        | false => rfl
        | true =>
          obtain ⟨t, h1, h2⟩ := (inS_iff l n).1 h
          exact absurd h2 (HN.out t (by have := HL.out; omega)))
      clear hj hlt
      go_wp2
      go_ret
      exact ⟨ret_bool HR.out.symm, Q.refl w⟩

/-- A packet in the law's book: its space, number and size. -/
structure On where
  k : Int
  n : Int
  s : Int
def ocl (x : On) : List Value := [.int .i64 x.k, .int .i64 x.n, .int .i64 x.s]
theorem ocl_len (x : On) : (ocl x).length = 3 := rfl
theorem ocl_one (x : On) : ∀ v ∈ ocl x, v.oneCell' = true := by
  intro v hv
  simp only [ocl, List.mem_cons, List.not_mem_nil, or_false] at hv
  rcases hv with rfl | rfl | rfl <;> rfl
def noOn : On := ⟨0, 0, 0⟩
abbrev RowO (w : World) (d : Sv) (l : List On) : Prop := Sub w 43 3 d.a d.n d.c (flt ocl l)
theorem RowO.len {w : World} {d : Sv} {l : List On} (h : RowO w d l) : l.length = d.n := by have := h.1; rw [flt_len ocl_len] at this; omega
/-- A packet of the book at a place. -/
structure OAt (w : World) (g o : Nat) (p : On) : Prop where
  c0 : w.cell? ⟨g, o, none⟩ = some (.int .i64 p.k)
  c1 : w.cell? ⟨g, o + 1, none⟩ = some (.int .i64 p.n)
  c2 : w.cell? ⟨g, o + 2, none⟩ = some (.int .i64 p.s)
theorem RowO.at_ {w : World} {d : Sv} {l : List On} (h : RowO w d l) {k : Nat} (hk : k < d.n) : ∃ g o, d.a = some ⟨g, o, none⟩ ∧ (∀ j, w.frozen? ⟨g, j, none⟩ = false) ∧ OAt w g (o + k * 3) (l.getD k noOn) := by
  obtain ⟨g, o, ha, hf, hc⟩ := h.some_ (by omega)
  have hk' : k < l.length := by rw [h.len]; exact hk
  have hg : ∀ j, j < 3 → w.cell? ⟨g, o + k * 3 + j, none⟩ = (ocl (l.getD k noOn))[j]? := by
    intro j hj
    have e := flt_get ocl_len noOn l hk' hj
    rw [Nat.add_assoc]
    rcases (show j = 0 ∨ j = 1 ∨ j = 2 by omega) with rfl | rfl | rfl <;> exact hc _ _ e
  exact ⟨g, o, ha, hf, hg 0 (by omega), hg 1 (by omega), hg 2 (by omega)⟩
/-- The book in memory. -/
structure Bk (w : World) (bb : Nat) (d : Sv) (l : List On) (U : Int) : Prop where
  hd : w.heap[bb]? = some (.cells #[.slice d.a d.n d.c, .int .i64 U] 37 (0, 0))
  row : RowO w d l
  far : blk d.a ≠ some bb
theorem rowO_one {w : World} {d : Sv} {l : List On} (p : On) (h : RowO w d l) (hn : d.n ≤ 4398046511104) :
    ∃ d' w', (Builtin.append_ #[35, 35] 35 #[.slice d.a d.n d.c, .slice (some ⟨w.heap.size, 0, none⟩) 1 1]).run Try.prog (w.alloc (.cells #[.int .i64 p.k, .int .i64 p.n, .int .i64 p.s] 43)) = .ok (.slice d'.a d'.n d'.c) w' ∧ RowO w' d' (l ++ [p]) ∧ Keep (fun b => blk d.a = some b) w w' ∧ (∀ b, blk d'.a = some b → blk d.a = some b ∨ w.heap.size ≤ b) := by
  obtain ⟨i0, hi, hz0, hz1, hz2⟩ := info_parts info43
  obtain ⟨a', c', w', h1, h2, h3, h4⟩ := app_st (cs := #[.int .i64 p.k, .int .i64 p.n, .int .i64 p.s]) Try.underlying35 hi hz0 hz1 hz2 (by omega) rfl rfl (ocl_one p) h hn
  exact ⟨⟨a', d.n + 1, c'⟩, w', h1, by show Sub _ _ _ _ _ _ (flt ocl _); rw [flt_append]; exact h2, h3, h4⟩
end Go.Proofs.Ytjhihcmemnhbbaa
