/-
  The decoder's entry: a drawn region, and a contract that the statements' walks use.
-/
import Derived.Test.YtehejibllkmflaaQy
namespace Go.Proofs.Ytehejibllkmflaa
open Go.RowKit
set_option linter.unusedVariables false
set_option maxRecDepth 20000

theorem st23 {w : World} {g : Nat} {u v : Value} {x y : ByteArray} (h0 : w.heap[g]? = some (.cells #[u, v] 23 (0, 0))) : (storeVar 23 ⟨g, 0, none⟩ (.agg #[.string x, .string y])).run Try.prog w = .ok () ((w.setCell ⟨g, 0, none⟩ (.string x)).setCell ⟨g, 1, none⟩ (.string y)) := by
  have c0 : w.cell? ⟨g, 0, none⟩ = some u := by rw [cell_of_row w _ 0 _ 23 (0, 0) h0]; rfl
  have c1 : w.cell? ⟨g, 1, none⟩ = some v := by rw [cell_of_row w _ 1 _ 23 (0, 0) h0]; rfl
  have f0 : w.frozen? ⟨g, 0, none⟩ = false := frozen_of_row w _ 0 _ 23 h0
  have f1 : w.frozen? ⟨g, 1, none⟩ = false := frozen_of_row w _ 1 _ 23 h0
  simp [storeVar, go_sem, c0, c1, f0, f1]
def de3g0z (db rb : Nat) (x y : ByteArray) (b : Bool) (n c c1 k : Int)  : List (Nat × Value) := [(0, .pointer (some ⟨db, 0, none⟩)), (3, .pointer (some ⟨db, 0, none⟩)), (8, .int .i64 n), (1, .pointer (some ⟨db, 0, none⟩)), (4, .pointer (some ⟨db, 0, none⟩)), (2, .pointer (some ⟨db, 3, none⟩)), (5, .pointer (some ⟨db, 3, none⟩))]
set_option maxHeartbeats 8000000 in
theorem de3g0 (db rb : Nat) (x y : ByteArray) (b : Bool) (n c c1 k : Int)  {x2 x3 x4 x5 x7 x8 x9 x10 x11 x12 x13 x14 x15 x16 x17 x18 x19 x20 x21 x22 x23 x24 x25 : Value} (w : World) (hc1 : IntKind.i64.wrap (c - 1) = c1) (hk : IntKind.i64.wrap (c1 - n) = k) (H16 : ∀ u, Q w u → Calls Try.prog 16 #[.pointer (some ⟨db, 3, none⟩)] u fun e v => e = .returned (.int .i64 c) ∧ Q w v ∧ KU u v)
    (H60 : ∀ u, Q w u → Calls Try.prog 60 #[.pointer (some ⟨db, 3, none⟩), .int .i64 k] u fun e v => e = .returned (.tuple #[.agg #[.string x, .string y], .bool b]) ∧ Q w v ∧ KU u v) (hb : ∀ u, Q w u → FB u rb ⟨#[]⟩ ⟨#[]⟩) : Chn Try.prog (RofN Try.f41 3) (fun _ => True) (de3g0z db rb x y b n c c1 k ) (#[false, false, false, false, false, false, false, false, false, false, false, false, false, false, false] : Array Bool) (⟨#[.pointer (some ⟨db, 0, none⟩), .int .i64 n, x2, x3, x4, x5, .pointer (some ⟨rb, 0, none⟩), x7, x8, x9, x10, x11, x12, x13, x14, x15, x16, x17, x18, x19, x20, x21, x22, x23, x24, x25], []⟩ : Act) :=
  ⟨⟨by kernel_rfl, by kernel_rfl, by kernel_rfl, by kernel_rfl, fun u h => by kernel_rfl⟩,
    ⟨by kernel_rfl, by kernel_rfl, by kernel_rfl, by kernel_rfl, fun u h => by kernel_rfl⟩,
    ⟨by kernel_rfl, by kernel_rfl, by kernel_rfl, by kernel_rfl, fun u h => by kernel_rfl⟩,
    ⟨by kernel_rfl, by kernel_rfl, by kernel_rfl, by kernel_rfl, fun u h => by kernel_rfl⟩,
    ⟨by kernel_rfl, by kernel_rfl, by kernel_rfl, by kernel_rfl, fun u h => by kernel_rfl⟩,
    ⟨by kernel_rfl, by kernel_rfl, by kernel_rfl, by kernel_rfl, fun u h => by kernel_rfl⟩,
    ⟨by kernel_rfl, by kernel_rfl, by kernel_rfl, by kernel_rfl, fun u h => by kernel_rfl⟩,
    trivial⟩
def de3g1z (db rb : Nat) (x y : ByteArray) (b : Bool) (n c c1 k : Int)  : List (Nat × Value) := [(7, .int .i64 c1), (9, .int .i64 k)]
set_option maxHeartbeats 8000000 in
theorem de3g1 (db rb : Nat) (x y : ByteArray) (b : Bool) (n c c1 k : Int)  {x2 x3 x4 x5 x7 x8 x9 x10 x11 x12 x20 x22 x23 x24 x25 : Value} (w : World) (hc1 : IntKind.i64.wrap (c - 1) = c1) (hk : IntKind.i64.wrap (c1 - n) = k) (H16 : ∀ u, Q w u → Calls Try.prog 16 #[.pointer (some ⟨db, 3, none⟩)] u fun e v => e = .returned (.int .i64 c) ∧ Q w v ∧ KU u v)
    (H60 : ∀ u, Q w u → Calls Try.prog 60 #[.pointer (some ⟨db, 3, none⟩), .int .i64 k] u fun e v => e = .returned (.tuple #[.agg #[.string x, .string y], .bool b]) ∧ Q w v ∧ KU u v) (hb : ∀ u, Q w u → FB u rb ⟨#[]⟩ ⟨#[]⟩) : Chn Try.prog (RofN Try.f41 3) (fun _ => True) (de3g1z db rb x y b n c c1 k ) (#[true, true, true, true, true, true, true, false, true, false, false, false, false, false, false] : Array Bool) (⟨#[.pointer (some ⟨db, 0, none⟩), .int .i64 n, x2, x3, x4, x5, .pointer (some ⟨rb, 0, none⟩), x7, x8, x9, x10, x11, x12, .pointer (some ⟨db, 0, none⟩), .pointer (some ⟨db, 0, none⟩), .pointer (some ⟨db, 3, none⟩), .pointer (some ⟨db, 0, none⟩), .pointer (some ⟨db, 0, none⟩), .pointer (some ⟨db, 3, none⟩), .int .i64 c, x20, .int .i64 n, x22, x23, x24, x25], []⟩ : Act) :=
  ⟨⟨by kernel_rfl, by kernel_rfl, by kernel_rfl, by kernel_rfl, fun u h => sub_any (.tmp 19) (.const (.int .i64 1)) c 1 (by kernel_rfl) (by kernel_rfl) (by kernel_rfl) hc1⟩,
    ⟨by kernel_rfl, by kernel_rfl, by kernel_rfl, by kernel_rfl, fun u h => sub_any (.tmp 20) (.tmp 21) c1 n (by kernel_rfl) (by kernel_rfl) (by kernel_rfl) hk⟩,
    trivial⟩
def de3g2z (db rb : Nat) (x y : ByteArray) (b : Bool) (n c c1 k : Int)   : List (Nat × Value) := [(11, .agg #[.string x, .string y]), (12, .bool b)]
set_option maxHeartbeats 8000000 in
theorem de3g2 (db rb : Nat) (x y : ByteArray) (b : Bool) (n c c1 k : Int)   {x2 x3 x4 x5 x7 x8 x9 x10 x11 x12 x24 x25 : Value} (w : World) (hc1 : IntKind.i64.wrap (c - 1) = c1) (hk : IntKind.i64.wrap (c1 - n) = k) (H16 : ∀ u, Q w u → Calls Try.prog 16 #[.pointer (some ⟨db, 3, none⟩)] u fun e v => e = .returned (.int .i64 c) ∧ Q w v ∧ KU u v)
    (H60 : ∀ u, Q w u → Calls Try.prog 60 #[.pointer (some ⟨db, 3, none⟩), .int .i64 k] u fun e v => e = .returned (.tuple #[.agg #[.string x, .string y], .bool b]) ∧ Q w v ∧ KU u v) (hb : ∀ u, Q w u → FB u rb ⟨#[]⟩ ⟨#[]⟩) : Chn Try.prog (RofN Try.f41 3) (fun _ => True) (de3g2z db rb x y b n c c1 k ) (#[true, true, true, true, true, true, true, true, true, true, true, false, false, false, false] : Array Bool) (⟨#[.pointer (some ⟨db, 0, none⟩), .int .i64 n, x2, x3, x4, x5, .pointer (some ⟨rb, 0, none⟩), x7, x8, x9, x10, x11, x12, .pointer (some ⟨db, 0, none⟩), .pointer (some ⟨db, 0, none⟩), .pointer (some ⟨db, 3, none⟩), .pointer (some ⟨db, 0, none⟩), .pointer (some ⟨db, 0, none⟩), .pointer (some ⟨db, 3, none⟩), .int .i64 c, .int .i64 c1, .int .i64 n, .int .i64 k, .tuple #[.agg #[.string x, .string y], .bool b], x24, x25], []⟩ : Act) :=
  ⟨⟨by kernel_rfl, by kernel_rfl, by kernel_rfl, by kernel_rfl, fun u h => by kernel_rfl⟩,
    ⟨by kernel_rfl, by kernel_rfl, by kernel_rfl, by kernel_rfl, fun u h => by kernel_rfl⟩,
    trivial⟩
def de3g3z (db rb : Nat) (x y : ByteArray) (b : Bool) (n c c1 k : Int)    : List (Nat × Value) := [(14, .bool b)]
set_option maxHeartbeats 8000000 in
theorem de3g3 (db rb : Nat) (x y : ByteArray) (b : Bool) (n c c1 k : Int)    {x2 x3 x4 x5 x7 x8 x9 x10 x11 x12 : Value} (w : World) (hc1 : IntKind.i64.wrap (c - 1) = c1) (hk : IntKind.i64.wrap (c1 - n) = k) (H16 : ∀ u, Q w u → Calls Try.prog 16 #[.pointer (some ⟨db, 3, none⟩)] u fun e v => e = .returned (.int .i64 c) ∧ Q w v ∧ KU u v)
    (H60 : ∀ u, Q w u → Calls Try.prog 60 #[.pointer (some ⟨db, 3, none⟩), .int .i64 k] u fun e v => e = .returned (.tuple #[.agg #[.string x, .string y], .bool b]) ∧ Q w v ∧ KU u v) (hb : ∀ u, Q w u → FB u rb ⟨#[]⟩ ⟨#[]⟩) : Chn Try.prog (RofN Try.f41 3) (fun _ => True) (de3g3z db rb x y b n c c1 k ) (#[true, true, true, true, true, true, true, true, true, true, true, true, true, true, false] : Array Bool) (⟨#[.pointer (some ⟨db, 0, none⟩), .int .i64 n, x2, x3, x4, x5, .pointer (some ⟨rb, 0, none⟩), x7, x8, x9, x10, x11, x12, .pointer (some ⟨db, 0, none⟩), .pointer (some ⟨db, 0, none⟩), .pointer (some ⟨db, 3, none⟩), .pointer (some ⟨db, 0, none⟩), .pointer (some ⟨db, 0, none⟩), .pointer (some ⟨db, 3, none⟩), .int .i64 c, .int .i64 c1, .int .i64 n, .int .i64 k, .tuple #[.agg #[.string x, .string y], .bool b], .agg #[.string x, .string y], .bool b], []⟩ : Act) :=
  ⟨⟨by kernel_rfl, by kernel_rfl, by kernel_rfl, by kernel_rfl, fun u h => by kernel_rfl⟩,
    trivial⟩
set_option maxHeartbeats 16000000 in
theorem de3_6_10_13 (db rb : Nat) (x y : ByteArray) (b : Bool) (n c c1 k : Int)    {x2 x3 x4 x5 x8 x9 x10 x11 x12 : Value} (w : World) (R : Exit → Act → World → Prop) (hQ : ∀ c a d v w, R (.panic c) (a.put d v) w → R (.panic c) a w) (hc1 : IntKind.i64.wrap (c - 1) = c1) (hk : IntKind.i64.wrap (c1 - n) = k) (H16 : ∀ u, Q w u → Calls Try.prog 16 #[.pointer (some ⟨db, 3, none⟩)] u fun e v => e = .returned (.int .i64 c) ∧ Q w v ∧ KU u v)
    (H60 : ∀ u, Q w u → Calls Try.prog 60 #[.pointer (some ⟨db, 3, none⟩), .int .i64 k] u fun e v => e = .returned (.tuple #[.agg #[.string x, .string y], .bool b]) ∧ Q w v ∧ KU u v) (hb : ∀ u, Q w u → FB u rb ⟨#[]⟩ ⟨#[]⟩)
    (h : ∀ u, Q w u → R .normal (⟨#[.pointer (some ⟨db, 0, none⟩), .int .i64 n, x2, x3, x4, x5, .pointer (some ⟨rb, 0, none⟩), .bool b, x8, x9, x10, x11, x12, .pointer (some ⟨db, 0, none⟩), .pointer (some ⟨db, 0, none⟩), .pointer (some ⟨db, 3, none⟩), .pointer (some ⟨db, 0, none⟩), .pointer (some ⟨db, 0, none⟩), .pointer (some ⟨db, 3, none⟩), .int .i64 c, .int .i64 c1, .int .i64 n, .int .i64 k, .tuple #[.agg #[.string x, .string y], .bool b], .agg #[.string x, .string y], .bool b], []⟩ : Act) ((u.setCell ⟨rb, 0, none⟩ (.string x)).setCell ⟨rb, 1, none⟩ (.string y))) (u : World) (hS : (fun _ => True) u) (z9 : ∃ u0, Q w u0 ∧ u = (u0.setCell ⟨rb, 0, none⟩ (.string x)).setCell ⟨rb, 1, none⟩ (.string y)) :
    wpAnyH Try.prog .any (RofN Try.f41 3) R (fun _ => True) 0 (#[true, true, true, true, true, true, true, true, true, true, true, true, true, true, true] : Array Bool) (⟨#[.pointer (some ⟨db, 0, none⟩), .int .i64 n, x2, x3, x4, x5, .pointer (some ⟨rb, 0, none⟩), .bool b, x8, x9, x10, x11, x12, .pointer (some ⟨db, 0, none⟩), .pointer (some ⟨db, 0, none⟩), .pointer (some ⟨db, 3, none⟩), .pointer (some ⟨db, 0, none⟩), .pointer (some ⟨db, 0, none⟩), .pointer (some ⟨db, 3, none⟩), .int .i64 c, .int .i64 c1, .int .i64 n, .int .i64 k, .tuple #[.agg #[.string x, .string y], .bool b], .agg #[.string x, .string y], .bool b], []⟩ : Act) u := by
  refine wpAnyH_done (by kernel_rfl) ?_ _
  exact by obtain ⟨u0, k0, rfl⟩ := z9; exact h u0 k0
set_option maxHeartbeats 16000000 in
theorem de3_6_10 (db rb : Nat) (x y : ByteArray) (b : Bool) (n c c1 k : Int)   {x2 x3 x4 x5 x7 x8 x9 x10 x11 x12 : Value} (w : World) (R : Exit → Act → World → Prop) (hQ : ∀ c a d v w, R (.panic c) (a.put d v) w → R (.panic c) a w) (hc1 : IntKind.i64.wrap (c - 1) = c1) (hk : IntKind.i64.wrap (c1 - n) = k) (H16 : ∀ u, Q w u → Calls Try.prog 16 #[.pointer (some ⟨db, 3, none⟩)] u fun e v => e = .returned (.int .i64 c) ∧ Q w v ∧ KU u v)
    (H60 : ∀ u, Q w u → Calls Try.prog 60 #[.pointer (some ⟨db, 3, none⟩), .int .i64 k] u fun e v => e = .returned (.tuple #[.agg #[.string x, .string y], .bool b]) ∧ Q w v ∧ KU u v) (hb : ∀ u, Q w u → FB u rb ⟨#[]⟩ ⟨#[]⟩)
    (h : ∀ u, Q w u → R .normal (⟨#[.pointer (some ⟨db, 0, none⟩), .int .i64 n, x2, x3, x4, x5, .pointer (some ⟨rb, 0, none⟩), .bool b, x8, x9, x10, x11, x12, .pointer (some ⟨db, 0, none⟩), .pointer (some ⟨db, 0, none⟩), .pointer (some ⟨db, 3, none⟩), .pointer (some ⟨db, 0, none⟩), .pointer (some ⟨db, 0, none⟩), .pointer (some ⟨db, 3, none⟩), .int .i64 c, .int .i64 c1, .int .i64 n, .int .i64 k, .tuple #[.agg #[.string x, .string y], .bool b], .agg #[.string x, .string y], .bool b], []⟩ : Act) ((u.setCell ⟨rb, 0, none⟩ (.string x)).setCell ⟨rb, 1, none⟩ (.string y))) (u : World) (hS : (fun _ => True) u) (q9 : Q w u) :
    wpAnyH Try.prog .any (RofN Try.f41 3) R (fun _ => True) 2 (#[true, true, true, true, true, true, true, true, true, true, true, true, true, false, false] : Array Bool) (⟨#[.pointer (some ⟨db, 0, none⟩), .int .i64 n, x2, x3, x4, x5, .pointer (some ⟨rb, 0, none⟩), x7, x8, x9, x10, x11, x12, .pointer (some ⟨db, 0, none⟩), .pointer (some ⟨db, 0, none⟩), .pointer (some ⟨db, 3, none⟩), .pointer (some ⟨db, 0, none⟩), .pointer (some ⟨db, 0, none⟩), .pointer (some ⟨db, 3, none⟩), .int .i64 c, .int .i64 c1, .int .i64 n, .int .i64 k, .tuple #[.agg #[.string x, .string y], .bool b], .agg #[.string x, .string y], .bool b], []⟩ : Act) u := by
  refine wpAnyH_one (i := 13) (by kernel_rfl) ?_
  have hc : (execOp (⟨#[.pointer (some ⟨db, 0, none⟩), .int .i64 n, x2, x3, x4, x5, .pointer (some ⟨rb, 0, none⟩), x7, x8, x9, x10, x11, x12, .pointer (some ⟨db, 0, none⟩), .pointer (some ⟨db, 0, none⟩), .pointer (some ⟨db, 3, none⟩), .pointer (some ⟨db, 0, none⟩), .pointer (some ⟨db, 0, none⟩), .pointer (some ⟨db, 3, none⟩), .int .i64 c, .int .i64 c1, .int .i64 n, .int .i64 k, .tuple #[.agg #[.string x, .string y], .bool b], .agg #[.string x, .string y], .bool b], []⟩ : Act).eval (((RofN Try.f41 3)[13]?).getD default)).run Try.prog u = .ok .skip ((u.setCell ⟨rb, 0, none⟩ (.string x)).setCell ⟨rb, 1, none⟩ (.string y)) := (st_op 23 (.tmp 6) (.tmp 24) rb 0 (by kernel_rfl) (by kernel_rfl) (by kernel_rfl) (st23 (hb u q9)))
  refine wpOp_skip none (by kernel_rfl) (by kernel_rfl) (by kernel_rfl) hc ?_
  clear hc
  have hS1 : (fun _ => True) ((u.setCell ⟨rb, 0, none⟩ (.string x)).setCell ⟨rb, 1, none⟩ (.string y)) := trivial
  refine ⟨hS1, ?_⟩
  have e1 : (⟨#[.pointer (some ⟨db, 0, none⟩), .int .i64 n, x2, x3, x4, x5, .pointer (some ⟨rb, 0, none⟩), x7, x8, x9, x10, x11, x12, .pointer (some ⟨db, 0, none⟩), .pointer (some ⟨db, 0, none⟩), .pointer (some ⟨db, 3, none⟩), .pointer (some ⟨db, 0, none⟩), .pointer (some ⟨db, 0, none⟩), .pointer (some ⟨db, 3, none⟩), .int .i64 c, .int .i64 c1, .int .i64 n, .int .i64 k, .tuple #[.agg #[.string x, .string y], .bool b], .agg #[.string x, .string y], .bool b], []⟩ : Act).put none undef = (⟨#[.pointer (some ⟨db, 0, none⟩), .int .i64 n, x2, x3, x4, x5, .pointer (some ⟨rb, 0, none⟩), x7, x8, x9, x10, x11, x12, .pointer (some ⟨db, 0, none⟩), .pointer (some ⟨db, 0, none⟩), .pointer (some ⟨db, 3, none⟩), .pointer (some ⟨db, 0, none⟩), .pointer (some ⟨db, 0, none⟩), .pointer (some ⟨db, 3, none⟩), .int .i64 c, .int .i64 c1, .int .i64 n, .int .i64 k, .tuple #[.agg #[.string x, .string y], .bool b], .agg #[.string x, .string y], .bool b], []⟩ : Act) := by kernel_rfl
  have l1 : (#[true, true, true, true, true, true, true, true, true, true, true, true, true, false, false] : Array Bool).setIfInBounds 13 true = (#[true, true, true, true, true, true, true, true, true, true, true, true, true, true, false] : Array Bool) := by kernel_rfl
  rw [e1, l1]
  clear e1 l1
  refine chn_take (by kernel_rfl) hQ hS1 0 (de3g3z db rb x y b n c c1 k ) _ _ (de3g3 db rb x y b n c c1 k  w hc1 hk H16 H60 hb) ?_
  have e0 : putL (RofN Try.f41 3) (de3g3z db rb x y b n c c1 k ) (⟨#[.pointer (some ⟨db, 0, none⟩), .int .i64 n, x2, x3, x4, x5, .pointer (some ⟨rb, 0, none⟩), x7, x8, x9, x10, x11, x12, .pointer (some ⟨db, 0, none⟩), .pointer (some ⟨db, 0, none⟩), .pointer (some ⟨db, 3, none⟩), .pointer (some ⟨db, 0, none⟩), .pointer (some ⟨db, 0, none⟩), .pointer (some ⟨db, 3, none⟩), .int .i64 c, .int .i64 c1, .int .i64 n, .int .i64 k, .tuple #[.agg #[.string x, .string y], .bool b], .agg #[.string x, .string y], .bool b], []⟩ : Act) = (⟨#[.pointer (some ⟨db, 0, none⟩), .int .i64 n, x2, x3, x4, x5, .pointer (some ⟨rb, 0, none⟩), .bool b, x8, x9, x10, x11, x12, .pointer (some ⟨db, 0, none⟩), .pointer (some ⟨db, 0, none⟩), .pointer (some ⟨db, 3, none⟩), .pointer (some ⟨db, 0, none⟩), .pointer (some ⟨db, 0, none⟩), .pointer (some ⟨db, 3, none⟩), .int .i64 c, .int .i64 c1, .int .i64 n, .int .i64 k, .tuple #[.agg #[.string x, .string y], .bool b], .agg #[.string x, .string y], .bool b], []⟩ : Act) := by kernel_rfl
  have l0 : setL (de3g3z db rb x y b n c c1 k ) (#[true, true, true, true, true, true, true, true, true, true, true, true, true, true, false] : Array Bool) = (#[true, true, true, true, true, true, true, true, true, true, true, true, true, true, true] : Array Bool) := by kernel_rfl
  rw [e0, l0]
  clear e0 l0
  exact de3_6_10_13 db rb x y b n c c1 k  w R hQ hc1 hk H16 H60 hb h ((u.setCell ⟨rb, 0, none⟩ (.string x)).setCell ⟨rb, 1, none⟩ (.string y)) hS1 (⟨u, q9, rfl⟩)
set_option maxHeartbeats 16000000 in
theorem de3_6 (db rb : Nat) (x y : ByteArray) (b : Bool) (n c c1 k : Int)  {x2 x3 x4 x5 x7 x8 x9 x10 x11 x12 x23 x24 x25 : Value} (w : World) (R : Exit → Act → World → Prop) (hQ : ∀ c a d v w, R (.panic c) (a.put d v) w → R (.panic c) a w) (hc1 : IntKind.i64.wrap (c - 1) = c1) (hk : IntKind.i64.wrap (c1 - n) = k) (H16 : ∀ u, Q w u → Calls Try.prog 16 #[.pointer (some ⟨db, 3, none⟩)] u fun e v => e = .returned (.int .i64 c) ∧ Q w v ∧ KU u v)
    (H60 : ∀ u, Q w u → Calls Try.prog 60 #[.pointer (some ⟨db, 3, none⟩), .int .i64 k] u fun e v => e = .returned (.tuple #[.agg #[.string x, .string y], .bool b]) ∧ Q w v ∧ KU u v) (hb : ∀ u, Q w u → FB u rb ⟨#[]⟩ ⟨#[]⟩)
    (h : ∀ u, Q w u → R .normal (⟨#[.pointer (some ⟨db, 0, none⟩), .int .i64 n, x2, x3, x4, x5, .pointer (some ⟨rb, 0, none⟩), .bool b, x8, x9, x10, x11, x12, .pointer (some ⟨db, 0, none⟩), .pointer (some ⟨db, 0, none⟩), .pointer (some ⟨db, 3, none⟩), .pointer (some ⟨db, 0, none⟩), .pointer (some ⟨db, 0, none⟩), .pointer (some ⟨db, 3, none⟩), .int .i64 c, .int .i64 c1, .int .i64 n, .int .i64 k, .tuple #[.agg #[.string x, .string y], .bool b], .agg #[.string x, .string y], .bool b], []⟩ : Act) ((u.setCell ⟨rb, 0, none⟩ (.string x)).setCell ⟨rb, 1, none⟩ (.string y))) (u : World) (hS : (fun _ => True) u) (q9 : Q w u) :
    wpAnyH Try.prog .any (RofN Try.f41 3) R (fun _ => True) 5 (#[true, true, true, true, true, true, true, true, true, true, false, false, false, false, false] : Array Bool) (⟨#[.pointer (some ⟨db, 0, none⟩), .int .i64 n, x2, x3, x4, x5, .pointer (some ⟨rb, 0, none⟩), x7, x8, x9, x10, x11, x12, .pointer (some ⟨db, 0, none⟩), .pointer (some ⟨db, 0, none⟩), .pointer (some ⟨db, 3, none⟩), .pointer (some ⟨db, 0, none⟩), .pointer (some ⟨db, 0, none⟩), .pointer (some ⟨db, 3, none⟩), .int .i64 c, .int .i64 c1, .int .i64 n, .int .i64 k, x23, x24, x25], []⟩ : Act) u := by
  refine wpAnyH_one (i := 10) (by kernel_rfl) ?_
  refine wpOp_callx (some 23) (by kernel_rfl) (by kernel_rfl) (by kernel_rfl) 60 #[.pointer (some ⟨db, 3, none⟩), .int .i64 k] (by kernel_rfl) (H60 u q9) ?_
  rintro e v ⟨rfl, q8, q0⟩
  have q0 : KU u v := q0
  have hS1 : (fun _ => True) v := KU.s hS q0
  refine ⟨_, rfl, hS1, ?_⟩
  have e1 : (⟨#[.pointer (some ⟨db, 0, none⟩), .int .i64 n, x2, x3, x4, x5, .pointer (some ⟨rb, 0, none⟩), x7, x8, x9, x10, x11, x12, .pointer (some ⟨db, 0, none⟩), .pointer (some ⟨db, 0, none⟩), .pointer (some ⟨db, 3, none⟩), .pointer (some ⟨db, 0, none⟩), .pointer (some ⟨db, 0, none⟩), .pointer (some ⟨db, 3, none⟩), .int .i64 c, .int .i64 c1, .int .i64 n, .int .i64 k, x23, x24, x25], []⟩ : Act).put (some 23) (.tuple #[.agg #[.string x, .string y], .bool b]) = (⟨#[.pointer (some ⟨db, 0, none⟩), .int .i64 n, x2, x3, x4, x5, .pointer (some ⟨rb, 0, none⟩), x7, x8, x9, x10, x11, x12, .pointer (some ⟨db, 0, none⟩), .pointer (some ⟨db, 0, none⟩), .pointer (some ⟨db, 3, none⟩), .pointer (some ⟨db, 0, none⟩), .pointer (some ⟨db, 0, none⟩), .pointer (some ⟨db, 3, none⟩), .int .i64 c, .int .i64 c1, .int .i64 n, .int .i64 k, .tuple #[.agg #[.string x, .string y], .bool b], x24, x25], []⟩ : Act) := by kernel_rfl
  have l1 : (#[true, true, true, true, true, true, true, true, true, true, false, false, false, false, false] : Array Bool).setIfInBounds 10 true = (#[true, true, true, true, true, true, true, true, true, true, true, false, false, false, false] : Array Bool) := by kernel_rfl
  rw [e1, l1]
  clear e1 l1
  refine chn_take (by kernel_rfl) hQ hS1 2 (de3g2z db rb x y b n c c1 k ) _ _ (de3g2 db rb x y b n c c1 k  w hc1 hk H16 H60 hb) ?_
  have e0 : putL (RofN Try.f41 3) (de3g2z db rb x y b n c c1 k ) (⟨#[.pointer (some ⟨db, 0, none⟩), .int .i64 n, x2, x3, x4, x5, .pointer (some ⟨rb, 0, none⟩), x7, x8, x9, x10, x11, x12, .pointer (some ⟨db, 0, none⟩), .pointer (some ⟨db, 0, none⟩), .pointer (some ⟨db, 3, none⟩), .pointer (some ⟨db, 0, none⟩), .pointer (some ⟨db, 0, none⟩), .pointer (some ⟨db, 3, none⟩), .int .i64 c, .int .i64 c1, .int .i64 n, .int .i64 k, .tuple #[.agg #[.string x, .string y], .bool b], x24, x25], []⟩ : Act) = (⟨#[.pointer (some ⟨db, 0, none⟩), .int .i64 n, x2, x3, x4, x5, .pointer (some ⟨rb, 0, none⟩), x7, x8, x9, x10, x11, x12, .pointer (some ⟨db, 0, none⟩), .pointer (some ⟨db, 0, none⟩), .pointer (some ⟨db, 3, none⟩), .pointer (some ⟨db, 0, none⟩), .pointer (some ⟨db, 0, none⟩), .pointer (some ⟨db, 3, none⟩), .int .i64 c, .int .i64 c1, .int .i64 n, .int .i64 k, .tuple #[.agg #[.string x, .string y], .bool b], .agg #[.string x, .string y], .bool b], []⟩ : Act) := by kernel_rfl
  have l0 : setL (de3g2z db rb x y b n c c1 k ) (#[true, true, true, true, true, true, true, true, true, true, true, false, false, false, false] : Array Bool) = (#[true, true, true, true, true, true, true, true, true, true, true, true, true, false, false] : Array Bool) := by kernel_rfl
  rw [e0, l0]
  clear e0 l0
  exact de3_6_10 db rb x y b n c c1 k  w R hQ hc1 hk H16 H60 hb h v hS1 (q8)
set_option maxHeartbeats 16000000 in
theorem de3_o (db rb : Nat) (x y : ByteArray) (b : Bool) (n c c1 k : Int)  {x2 x3 x4 x5 x7 x8 x9 x10 x11 x12 x19 x20 x22 x23 x24 x25 : Value} (w : World) (R : Exit → Act → World → Prop) (hQ : ∀ c a d v w, R (.panic c) (a.put d v) w → R (.panic c) a w) (hc1 : IntKind.i64.wrap (c - 1) = c1) (hk : IntKind.i64.wrap (c1 - n) = k) (H16 : ∀ u, Q w u → Calls Try.prog 16 #[.pointer (some ⟨db, 3, none⟩)] u fun e v => e = .returned (.int .i64 c) ∧ Q w v ∧ KU u v)
    (H60 : ∀ u, Q w u → Calls Try.prog 60 #[.pointer (some ⟨db, 3, none⟩), .int .i64 k] u fun e v => e = .returned (.tuple #[.agg #[.string x, .string y], .bool b]) ∧ Q w v ∧ KU u v) (hb : ∀ u, Q w u → FB u rb ⟨#[]⟩ ⟨#[]⟩)
    (h : ∀ u, Q w u → R .normal (⟨#[.pointer (some ⟨db, 0, none⟩), .int .i64 n, x2, x3, x4, x5, .pointer (some ⟨rb, 0, none⟩), .bool b, x8, x9, x10, x11, x12, .pointer (some ⟨db, 0, none⟩), .pointer (some ⟨db, 0, none⟩), .pointer (some ⟨db, 3, none⟩), .pointer (some ⟨db, 0, none⟩), .pointer (some ⟨db, 0, none⟩), .pointer (some ⟨db, 3, none⟩), .int .i64 c, .int .i64 c1, .int .i64 n, .int .i64 k, .tuple #[.agg #[.string x, .string y], .bool b], .agg #[.string x, .string y], .bool b], []⟩ : Act) ((u.setCell ⟨rb, 0, none⟩ (.string x)).setCell ⟨rb, 1, none⟩ (.string y))) (u : World) (hS : (fun _ => True) u) (q9 : Q w u) :
    wpAnyH Try.prog .any (RofN Try.f41 3) R (fun _ => True) 8 (#[true, true, true, true, true, true, false, false, true, false, false, false, false, false, false] : Array Bool) (⟨#[.pointer (some ⟨db, 0, none⟩), .int .i64 n, x2, x3, x4, x5, .pointer (some ⟨rb, 0, none⟩), x7, x8, x9, x10, x11, x12, .pointer (some ⟨db, 0, none⟩), .pointer (some ⟨db, 0, none⟩), .pointer (some ⟨db, 3, none⟩), .pointer (some ⟨db, 0, none⟩), .pointer (some ⟨db, 0, none⟩), .pointer (some ⟨db, 3, none⟩), x19, x20, .int .i64 n, x22, x23, x24, x25], []⟩ : Act) u := by
  refine wpAnyH_one (i := 6) (by kernel_rfl) ?_
  refine wpOp_callx (some 19) (by kernel_rfl) (by kernel_rfl) (by kernel_rfl) 16 #[.pointer (some ⟨db, 3, none⟩)] (by kernel_rfl) (H16 u q9) ?_
  rintro e v ⟨rfl, q8, q0⟩
  have q0 : KU u v := q0
  have hS1 : (fun _ => True) v := KU.s hS q0
  refine ⟨_, rfl, hS1, ?_⟩
  have e1 : (⟨#[.pointer (some ⟨db, 0, none⟩), .int .i64 n, x2, x3, x4, x5, .pointer (some ⟨rb, 0, none⟩), x7, x8, x9, x10, x11, x12, .pointer (some ⟨db, 0, none⟩), .pointer (some ⟨db, 0, none⟩), .pointer (some ⟨db, 3, none⟩), .pointer (some ⟨db, 0, none⟩), .pointer (some ⟨db, 0, none⟩), .pointer (some ⟨db, 3, none⟩), x19, x20, .int .i64 n, x22, x23, x24, x25], []⟩ : Act).put (some 19) (.int .i64 c) = (⟨#[.pointer (some ⟨db, 0, none⟩), .int .i64 n, x2, x3, x4, x5, .pointer (some ⟨rb, 0, none⟩), x7, x8, x9, x10, x11, x12, .pointer (some ⟨db, 0, none⟩), .pointer (some ⟨db, 0, none⟩), .pointer (some ⟨db, 3, none⟩), .pointer (some ⟨db, 0, none⟩), .pointer (some ⟨db, 0, none⟩), .pointer (some ⟨db, 3, none⟩), .int .i64 c, x20, .int .i64 n, x22, x23, x24, x25], []⟩ : Act) := by kernel_rfl
  have l1 : (#[true, true, true, true, true, true, false, false, true, false, false, false, false, false, false] : Array Bool).setIfInBounds 6 true = (#[true, true, true, true, true, true, true, false, true, false, false, false, false, false, false] : Array Bool) := by kernel_rfl
  rw [e1, l1]
  clear e1 l1
  refine chn_take (by kernel_rfl) hQ hS1 5 (de3g1z db rb x y b n c c1 k ) _ _ (de3g1 db rb x y b n c c1 k  w hc1 hk H16 H60 hb) ?_
  have e0 : putL (RofN Try.f41 3) (de3g1z db rb x y b n c c1 k ) (⟨#[.pointer (some ⟨db, 0, none⟩), .int .i64 n, x2, x3, x4, x5, .pointer (some ⟨rb, 0, none⟩), x7, x8, x9, x10, x11, x12, .pointer (some ⟨db, 0, none⟩), .pointer (some ⟨db, 0, none⟩), .pointer (some ⟨db, 3, none⟩), .pointer (some ⟨db, 0, none⟩), .pointer (some ⟨db, 0, none⟩), .pointer (some ⟨db, 3, none⟩), .int .i64 c, x20, .int .i64 n, x22, x23, x24, x25], []⟩ : Act) = (⟨#[.pointer (some ⟨db, 0, none⟩), .int .i64 n, x2, x3, x4, x5, .pointer (some ⟨rb, 0, none⟩), x7, x8, x9, x10, x11, x12, .pointer (some ⟨db, 0, none⟩), .pointer (some ⟨db, 0, none⟩), .pointer (some ⟨db, 3, none⟩), .pointer (some ⟨db, 0, none⟩), .pointer (some ⟨db, 0, none⟩), .pointer (some ⟨db, 3, none⟩), .int .i64 c, .int .i64 c1, .int .i64 n, .int .i64 k, x23, x24, x25], []⟩ : Act) := by kernel_rfl
  have l0 : setL (de3g1z db rb x y b n c c1 k ) (#[true, true, true, true, true, true, true, false, true, false, false, false, false, false, false] : Array Bool) = (#[true, true, true, true, true, true, true, true, true, true, false, false, false, false, false] : Array Bool) := by kernel_rfl
  rw [e0, l0]
  clear e0 l0
  exact de3_6 db rb x y b n c c1 k  w R hQ hc1 hk H16 H60 hb h v hS1 (q8)
set_option maxHeartbeats 16000000 in
theorem de3 (db rb : Nat) (x y : ByteArray) (b : Bool) (n c c1 k : Int) {x2 x3 x4 x5 x7 x8 x9 x10 x11 x12 x13 x14 x15 x16 x17 x18 x19 x20 x21 x22 x23 x24 x25 : Value} (w : World) (R : Exit → Act → World → Prop) (hQ : ∀ c a d v w, R (.panic c) (a.put d v) w → R (.panic c) a w) (hc1 : IntKind.i64.wrap (c - 1) = c1) (hk : IntKind.i64.wrap (c1 - n) = k) (H16 : ∀ u, Q w u → Calls Try.prog 16 #[.pointer (some ⟨db, 3, none⟩)] u fun e v => e = .returned (.int .i64 c) ∧ Q w v ∧ KU u v)
    (H60 : ∀ u, Q w u → Calls Try.prog 60 #[.pointer (some ⟨db, 3, none⟩), .int .i64 k] u fun e v => e = .returned (.tuple #[.agg #[.string x, .string y], .bool b]) ∧ Q w v ∧ KU u v) (hb : ∀ u, Q w u → FB u rb ⟨#[]⟩ ⟨#[]⟩) (hS : (fun _ => True) w)
    (h : ∀ u, Q w u → R .normal (⟨#[.pointer (some ⟨db, 0, none⟩), .int .i64 n, x2, x3, x4, x5, .pointer (some ⟨rb, 0, none⟩), .bool b, x8, x9, x10, x11, x12, .pointer (some ⟨db, 0, none⟩), .pointer (some ⟨db, 0, none⟩), .pointer (some ⟨db, 3, none⟩), .pointer (some ⟨db, 0, none⟩), .pointer (some ⟨db, 0, none⟩), .pointer (some ⟨db, 3, none⟩), .int .i64 c, .int .i64 c1, .int .i64 n, .int .i64 k, .tuple #[.agg #[.string x, .string y], .bool b], .agg #[.string x, .string y], .bool b], []⟩ : Act) ((u.setCell ⟨rb, 0, none⟩ (.string x)).setCell ⟨rb, 1, none⟩ (.string y))) :
    (Code.region 3 (RofN Try.f41 3) true).wp Try.prog R (⟨#[.pointer (some ⟨db, 0, none⟩), .int .i64 n, x2, x3, x4, x5, .pointer (some ⟨rb, 0, none⟩), x7, x8, x9, x10, x11, x12, x13, x14, x15, x16, x17, x18, x19, x20, x21, x22, x23, x24, x25], []⟩ : Act) w := by
  refine wp_region_held (S := (fun _ => True)) (by kernel_rfl) ?_
  have hsz : (RofN Try.f41 3).size = 15 := by kernel_rfl
  rw [hsz]
  have hS0 : (fun _ => True) w.drew := KU.s hS (show KU w w.drew from trivial)
  refine chn_take (by kernel_rfl) hQ hS0 8 (de3g0z db rb x y b n c c1 k ) _ _ (de3g0 db rb x y b n c c1 k  w hc1 hk H16 H60 hb) ?_
  have e0 : putL (RofN Try.f41 3) (de3g0z db rb x y b n c c1 k ) (⟨#[.pointer (some ⟨db, 0, none⟩), .int .i64 n, x2, x3, x4, x5, .pointer (some ⟨rb, 0, none⟩), x7, x8, x9, x10, x11, x12, x13, x14, x15, x16, x17, x18, x19, x20, x21, x22, x23, x24, x25], []⟩ : Act) = (⟨#[.pointer (some ⟨db, 0, none⟩), .int .i64 n, x2, x3, x4, x5, .pointer (some ⟨rb, 0, none⟩), x7, x8, x9, x10, x11, x12, .pointer (some ⟨db, 0, none⟩), .pointer (some ⟨db, 0, none⟩), .pointer (some ⟨db, 3, none⟩), .pointer (some ⟨db, 0, none⟩), .pointer (some ⟨db, 0, none⟩), .pointer (some ⟨db, 3, none⟩), x19, x20, .int .i64 n, x22, x23, x24, x25], []⟩ : Act) := by kernel_rfl
  have l0 : setL (de3g0z db rb x y b n c c1 k ) (Array.replicate 15 false) = (#[true, true, true, true, true, true, false, false, true, false, false, false, false, false, false] : Array Bool) := by kernel_rfl
  rw [e0, l0]
  clear e0 l0
  exact de3_o db rb x y b n c c1 k w R hQ hc1 hk H16 H60 hb h _ hS0 ((Q.refl w).drew)
theorem results41 (tmps : Array Value) (w : World) (rb : Nat) (x y : ByteArray) (b : Bool) (h2 : tmps.getD 6 undef = .pointer (some ⟨rb, 0, none⟩)) (h3 : tmps.getD 7 undef = .bool b) (hb : w.heap[rb]? = some (.cells #[.string x, .string y] 23 (0, 0))) :
    (results Try.f41 tmps).run Try.prog w = .ok (.tuple #[.agg #[.string x, .string y], .bool b]) w := by
  have h2' : tmps[6]?.getD undef = .pointer (some ⟨rb, 0, none⟩) := by simpa using h2
  have h3' : tmps[7]?.getD undef = .bool b := by simpa using h3
  have c0 : w.cell? ⟨rb, 0, none⟩ = some (.string x) := by rw [cell_of_row w rb 0 _ 23 (0, 0) hb]; rfl
  have c1 : w.cell? ⟨rb, 1, none⟩ = some (.string y) := by rw [cell_of_row w rb 1 _ 23 (0, 0) hb]; rfl
  simp [results, Try.f41, go_sem, h2', h3', c0, c1]
/-- The entry that an instruction names. -/
def stO (n : Int) : Option Fd := if 0 ≤ n ∧ n < 40 then some (strOfNums (stN n.toNat), strOfNums (stV n.toNat)) else none
theorem stAns_eq (n : Int) : stAns n = entA (stO n) := by
  unfold stAns entA stO
  by_cases h : 0 ≤ n ∧ n < 40
  · rw [if_pos h, if_pos h, decide_eq_true h]; rfl
  · rw [if_neg h, if_neg h, decide_eq_false h, ]; rfl
def namO (g : Nat) (es : List Fd) (n : Int) (st : Bool) : Option Fd := if st = true then stO n else entO g es ((g + es.length : Nat) - 1 - n)
set_option maxHeartbeats 8000000 in
theorem dent_any (db : Nat) (D : Dk) (es : List Fd) (n : Int) (st : Bool) (w : World) (h : DI w db D es) (hg : D.gone + es.length ≤ 140737488355328) (hn0 : 0 ≤ n) (hn1 : n ≤ 4611686018427387903) :
    Calls Try.prog 41 #[.pointer (some ⟨db, 0, none⟩), .int .i64 n, .bool st] w fun e w' => e = entA (namO D.gone es n st) ∧ Q w w' := by
  have HQ0 := hid ((Q.refl w).alloc (.cells #[.string ⟨#[]⟩, .string ⟨#[]⟩] 23))
  have HF0 := hid (heap_alloc_new w (.cells #[.string ⟨#[]⟩, .string ⟨#[]⟩] 23))
  cases st with
  | true =>
    have HS := hid (fun u => static_any n u)
    rw [stAns_eq] at HS
    show Calls Try.prog 41 _ w fun e w' => e = entA (stO n) ∧ Q w w'
    generalize stO n = o at *
    have HA := hid (show entA o = .returned (.tuple #[.agg #[.string (o.getD (⟨#[]⟩, ⟨#[]⟩)).1, .string (o.getD (⟨#[]⟩, ⟨#[]⟩)).2], .bool o.isSome]) from rfl)
    rw [HA.out] at HS
    generalize entA o = A at *
    generalize (o.getD (⟨#[]⟩, ⟨#[]⟩)).1 = x at *
    generalize (o.getD (⟨#[]⟩, ⟨#[]⟩)).2 = y at *
    generalize o.isSome = b at *
    clear h
    go_enter Try.func41, Try.ntmps41
    go_wp2_with fail
    generalize hW : World.alloc w _ = W0 at *
    clear hW
    refine (HS.out _).mono ?_
    rintro e w1 ⟨rfl, q1⟩
    have B1 := hid (blk_q q1 HF0.out)
    have Q1 := hid (HQ0.out.trans q1)
    have b0 : w1.cell? ⟨w.heap.size, 0, none⟩ = some (.string ⟨#[]⟩) := by rw [cell_of_row w1 _ 0 _ 23 (0, 0) B1.out]; rfl
    have b1 : w1.cell? ⟨w.heap.size, 1, none⟩ = some (.string ⟨#[]⟩) := by rw [cell_of_row w1 _ 1 _ 23 (0, 0) B1.out]; rfl
    have f0 : w1.frozen? ⟨w.heap.size, 0, none⟩ = false := frozen_of_row w1 _ 0 _ 23 B1.out
    have f1 : w1.frozen? ⟨w.heap.size, 1, none⟩ = false := frozen_of_row w1 _ 1 _ 23 B1.out
    clear q1
    go_wp2
    have hb2 := heap_setCell_same _ w.heap.size 1 _ 23 (.string y) (heap_setCell_same w1 w.heap.size 0 _ 23 (.string x) B1.out)
    exact bodyPost_ret (results41 _ _ w.heap.size x y b rfl rfl hb2) rfl ⟨HA.out.symm, (Q1.out.setCell (p := ⟨w.heap.size, 0, none⟩) (Nat.le_refl _) _).setCell (p := ⟨w.heap.size, 1, none⟩) (Nat.le_refl _) _⟩
  | false =>
    have H16 := hid (fun u (k : Q w u) => cnt_any db D es u (h.q k) (by omega) (by omega))
    have H60 := hid (fun u (k : Q w u) => ent_any db D es (((D.gone + es.length : Nat) : Int) - 1 - n) u (h.q k) (by omega) (by omega) (by omega) (by omega))
    show Calls Try.prog 41 _ w fun e w' => e = entA (entO D.gone es (((D.gone + es.length : Nat) : Int) - 1 - n)) ∧ Q w w'
    have hcc : ((D.gone + es.length : Nat) : Int) ≤ 140737488355328 := by omega
    have hc0 : 0 ≤ ((D.gone + es.length : Nat) : Int) := by omega
    generalize ((D.gone + es.length : Nat) : Int) = c at *
    generalize entO D.gone es (c - 1 - n) = o at *
    have HA := hid (show entA o = .returned (.tuple #[.agg #[.string (o.getD (⟨#[]⟩, ⟨#[]⟩)).1, .string (o.getD (⟨#[]⟩, ⟨#[]⟩)).2], .bool o.isSome]) from rfl)
    rw [HA.out] at H60
    generalize entA o = A at *
    generalize (o.getD (⟨#[]⟩, ⟨#[]⟩)).1 = x at *
    generalize (o.getD (⟨#[]⟩, ⟨#[]⟩)).2 = y at *
    generalize o.isSome = b at *
    clear h
    go_enter Try.func41, Try.ntmps41
    go_wp2_with fail
    generalize hW : World.alloc w _ = W0 at *
    clear hW
    generalize hR : Code.region 3 _ true = CC
    have eR : CC = Code.region 3 (RofN Try.f41 3) true := hR.symm.trans (by kernel_rfl)
    clear hR
    subst eR
    refine wp_region_noPanic ?_
    refine de3 db w.heap.size x y b n c (c - 1) (c - 1 - n) W0 _ (fun c a d v w h => h) (wrap_id (by omega) (by omega)) (wrap_id (by omega) (by omega))
      (fun u q => (H16.out u (HQ0.out.trans q)).mono (by rintro e v ⟨rfl, q2⟩; exact ⟨rfl, q.trans q2, trivial⟩))
      (fun u q => (H60.out u (HQ0.out.trans q)).mono (by rintro e v ⟨rfl, q2⟩; exact ⟨rfl, q.trans q2, trivial⟩)) (fun u q => blk_q q HF0.out) trivial ?_
    intro u qu
    have QU := HQ0.out.trans qu
    have hb2 := heap_setCell_same _ w.heap.size 1 _ 23 (.string y) (heap_setCell_same u w.heap.size 0 _ 23 (.string x) (blk_q qu HF0.out))
    have HB2 := hid hb2
    have HQ2 := hid (show Q w ((u.setCell ⟨w.heap.size, 0, none⟩ (.string x)).setCell ⟨w.heap.size, 1, none⟩ (.string y)) from (QU.setCell (p := ⟨w.heap.size, 0, none⟩) (Nat.le_refl _) _).setCell (p := ⟨w.heap.size, 1, none⟩) (Nat.le_refl _) _)
    clear hb2 QU qu
    refine NoPanic.normal ?_
    refine ‹∀ a w, Code.wp Try.prog _ _ a w → _› _ _ ?_
    go_wp2_with fail
    exact bodyPost_ret (results41 _ _ w.heap.size x y b rfl rfl HB2.out) rfl ⟨HA.out.symm, HQ2.out⟩
end Go.Proofs.Ytehejibllkmflaa
