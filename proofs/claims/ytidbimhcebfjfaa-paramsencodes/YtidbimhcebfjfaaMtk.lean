/-
  What the methods of the program's kinds of values do that write, or make bytes: contracts that the statements' walks use.
-/
import Derived.Test.YtidbimhcebfjfaaMth
import Derived.Test.YtidbimhcebfjfaaPut
namespace Go.Proofs.Ytidbimhcebfjfaa
open Go.RowKit
set_option linter.unusedVariables false
set_option maxRecDepth 20000

theorem pform_any (n : Int) (w : World) (h0 : 0 ≤ n) (h1 : n ≤ 4611686018427387903) :
    Calls Try.prog 25 #[.int .i64 n] w fun e w' => ∃ g, e = .returned (.slice (some ⟨g, 0, none⟩) (sz n) (sz n)) ∧ Q w w' ∧ Own w' w.heap.size (some ⟨g, 0, none⟩) (sz n) (sz n) (form n) := by
  generalize hs : sz n = s
  have H := hid hs
  clear hs
  go_enter Try.func25, Try.ntmps25
  go_wp2_with (go_at_call 42; refine (put_ok n _ s h0 h1 H).mono ?_; rintro e w1 ⟨g, rfl, q1, o1⟩; have Q1 := hid q1; have O1 := hid o1; clear q1 o1)
  go_ret
  exact ⟨g, rfl, Q1.out, O1.out⟩

set_option maxHeartbeats 4000000 in
theorem nbytes_any (pb c : Nat) (u l m n : Int) (w : World) (h0 : 0 ≤ n) (h1 : n ≤ 4611686018427387903) (hc : w.cell? ⟨pb, c, none⟩ = some (.int .i64 n)) :
    Calls Try.prog 71 #[numA pb c u l m] w fun e w' => ∃ g, e = .returned (.slice (some ⟨g, 0, none⟩) (sz n) (sz n)) ∧ Q w w' ∧ Own w' w.heap.size (some ⟨g, 0, none⟩) (sz n) (sz n) (form n) := by
  have hlt := lt_of_cell hc
  generalize hs : sz n = s
  have H := hid hs
  clear hs
  go_enter Try.func71, Try.ntmps71
  go_wp2_with (go_at_call 25; refine (pform_any n _ h0 h1).mono ?_; rintro e w1 ⟨g, rfl, q1, o1⟩; rw [H.out] at *; have Q1 := hid (((Q.refl w).alloc _).trans q1); have O1 := hid (o1.weak (base' := w.heap.size) (by simp)); clear q1 o1)
  go_ret
  exact ⟨g, rfl, Q1.out, O1.out⟩

/-- What a number's take tells. -/
def ntk (zs : List Int) : Bool := (rd zs 0).2.2 == 0 && (rd zs 0).2.1 == (zs.length : Int)

set_option maxHeartbeats 4000000 in
theorem ntake_no (pb c : Nat) (u l m : Int) (a : Option Addr) (n k : Nat) (zs : List Int) (w : World) (hl : zs.length = n) (hn : n ≤ 9223372036854775807) (hz : ∀ y ∈ zs, 0 ≤ y ∧ y < 256) (hs : Seg w a zs) (ht : ntk zs = false) :
    Calls Try.prog 73 #[numA pb c u l m, .slice a n k] w fun e w' => e = .returned (.bool false) ∧ Q w w' := by
  have HG := hid (fun (W : World) (q : Q w W) => get_any a n k zs 0 W hl hn hz (hs.q q))
  clear hs hz
  unfold ntk at ht
  rw [hl] at ht
  have hlt : True := trivial
  generalize (rd zs 0).1 = v at *
  generalize (rd zs 0).2.1 = en at *
  generalize (rd zs 0).2.2 = er at *
  by_cases he : er = 0
  · subst he
    have he2 : (en != (n : Int)) = true := by simpa using ht
    clear ht hl
    go_enter Try.func73, Try.ntmps73
    go_wp2_with (go_at_call 45; refine (HG.out _ ((Q.refl w).alloc _)).mono ?_; rintro e w1 ⟨rfl, rfl⟩)
    go_ret
    exact ⟨rfl, (Q.refl w).alloc _⟩
  · have he2 : (er != 0) = true := by simpa using he
    clear ht hl
    go_enter Try.func73, Try.ntmps73
    go_wp2_with (go_at_call 45; refine (HG.out _ ((Q.refl w).alloc _)).mono ?_; rintro e w1 ⟨rfl, rfl⟩)
    go_ret
    exact ⟨rfl, (Q.refl w).alloc _⟩

set_option maxHeartbeats 4000000 in
theorem ntake_ok (pb c : Nat) (u l m o : Int) (a : Option Addr) (n k : Nat) (zs : List Int) (w : World) (hl : zs.length = n) (hn : n ≤ 9223372036854775807) (hz : ∀ y ∈ zs, 0 ≤ y ∧ y < 256) (hs : Seg w a zs) (ht : ntk zs = true)
    (hc : w.cell? ⟨pb, c, none⟩ = some (.int .i64 o)) (hf : w.frozen? ⟨pb, c, none⟩ = false) :
    Calls Try.prog 73 #[numA pb c u l m, .slice a n k] w fun e w' => e = .returned (.bool true) ∧ Q (w.setCell ⟨pb, c, none⟩ (.int .i64 (rd zs 0).1)) w' := by
  have HG := hid (fun (W : World) (q : Q w W) => get_any a n k zs 0 W hl hn hz (hs.q q))
  clear hs hz
  unfold ntk at ht
  rw [hl] at ht
  have hlt := lt_of_cell hc
  generalize (rd zs 0).1 = v at *
  generalize (rd zs 0).2.1 = en at *
  generalize (rd zs 0).2.2 = er at *
  obtain ⟨rfl, rfl⟩ : er = 0 ∧ en = (n : Int) := by simpa using ht
  clear ht hl
  go_enter Try.func73, Try.ntmps73
  go_wp2_with (go_at_call 45; refine (HG.out _ ((Q.refl w).alloc _)).mono ?_; rintro e w1 ⟨rfl, rfl⟩)
  go_ret
  exact ⟨rfl, (Q.refl _).alloc _⟩

set_option maxHeartbeats 4000000 in
theorem dtake_any (pb h c : Nat) (l m : Int) (hb : Bool) (x y : Sv) (w : World) (hh : w.cell? ⟨pb, h, none⟩ = some (.bool hb)) (hc : w.cell? ⟨pb, c, none⟩ = some (sv x)) (hf : ∀ j, w.frozen? ⟨pb, j, none⟩ = false) (hne : h ≠ c) :
    Calls Try.prog 68 #[datA pb h c l m, sv y] w fun e w' => e = .returned (.bool true) ∧ Q ((w.setCell ⟨pb, h, none⟩ (.bool true)).setCell ⟨pb, c, none⟩ (sv y)) w' := by
  have hlt := lt_of_cell hc
  have f1 := hf h
  have f2 := hf c
  clear hf
  obtain ⟨xa, xn, xc⟩ := x
  obtain ⟨ya, yn, yc⟩ := y
  go_enter Try.func68, Try.ntmps68
  go_wp2
  go_region
  all_goals
    go_wp2
    go_ret
    exact ⟨rfl, ((Q.refl _).alloc _).drew⟩

set_option maxHeartbeats 4000000 in
theorem mtake_any (pb c : Nat) (b : Bool) (a : Option Addr) (n k : Nat) (w : World) (hc : w.cell? ⟨pb, c, none⟩ = some (.bool b)) (hf : w.frozen? ⟨pb, c, none⟩ = false) :
    Calls Try.prog 77 #[mrkA pb c, .slice a n k] w fun e w' => (n = 0 ∧ e = .returned (.bool true) ∧ Q (w.setCell ⟨pb, c, none⟩ (.bool true)) w') ∨ (n ≠ 0 ∧ e = .returned (.bool false) ∧ Q w w') := by
  have hlt := lt_of_cell hc
  by_cases h : n = 0
  · subst h
    go_enter Try.func77, Try.ntmps77
    go_wp2
    go_ret
    exact .inl ⟨trivial, rfl, (Q.refl _).alloc _⟩
  · have hb : ((n : Int) != 0) = true := by simp; omega
    go_enter Try.func77, Try.ntmps77
    go_wp2
    go_ret
    exact .inr ⟨h, rfl, (Q.refl w).alloc _⟩
end Go.Proofs.Ytidbimhcebfjfaa
