/-
  The decoder's insert and entry: drawn regions, and contracts that the statements' walks use.
-/
import Derived.Test.YtehejibllkmflaaQx
namespace Go.Proofs.Ytehejibllkmflaa
open Go.RowKit
set_option linter.unusedVariables false
set_option maxRecDepth 20000

theorem wpOp_callp {ops : Array Oper} {i : Nat} {a : Act} {w : World} {K : Act → World → Prop} {R : Exit → Act → World → Prop} (hi : (ops[i]?).isSome = true) (hw : Region.wanted ((ops[i]?).getD default) (yielded ops a.tmps) = true)
    (f : FuncId) (args : Array Value) (hr : (execOp a.eval ((ops[i]?).getD default)).run Try.prog w = .ok (.enter f args) w) {R0 : Ending → World → Prop} (hc : Calls Try.prog f args w R0) (hR : ∀ e w', R0 e w' → ∃ ch, e = .panicked ch ∧ R (.panic ch) a w') : wpOp Try.prog ops R i K a w := by
  obtain ⟨o, ho⟩ := Option.isSome_iff_exists.1 hi
  rw [ho] at hw hr
  unfold wpOp
  simp only [ho]
  have hw' : Region.wanted o (yielded ops a.tmps) = true := hw
  rw [if_pos hw']
  refine .inl ?_
  unfold Oper.wp
  have hr' : (execOp a.eval o).run Try.prog w = .ok (.enter f args) w := hr
  rw [hr']
  refine hc.mono ?_
  intro e w' h
  obtain ⟨ch, rfl, h2⟩ := hR e w' h
  exact h2
theorem gt_any {o : Oper} {a : Act} {w : World} (x y : Operand) (u v : Int) {b : Bool} (ho : o.op = .binOp .gtr 3 x y 3) (hx : a.eval x = .int .i64 u) (hy : a.eval y = .int .i64 v) (hr : decide (v < u) = b) : (execOp a.eval o).run Try.prog w = .ok (.value (.bool b)) w := by
  unfold execOp
  simp only [ho, hx, hy]
  simp [go_sem, hr]
def di1g0z (db fb : Nat) (x y : ByteArray) (cap s1 : Int)  : List (Nat × Value) := [(2, .pointer (some ⟨db, 0, none⟩)), (3, .pointer (some ⟨db, 0, none⟩)), (4, .pointer (some ⟨db, 3, none⟩)), (5, .pointer (some ⟨db, 3, none⟩))]
set_option maxHeartbeats 8000000 in
theorem di1g0 (db fb : Nat) (x y : ByteArray) (cap s1 : Int)  {x1 x2 x4 x5 x6 x7 x8 x9 x10 x11 x12 x13 x14 x15 x16 x17 : Value} (w : World) (hb : decide (cap < s1) = false) (H45 : ∀ u, Q w u → Calls Try.prog 45 #[.agg #[.string x, .string y]] u fun e v => e = .returned (.int .i64 s1) ∧ Q w v ∧ KU u v)
    (hc : ∀ u, Q w u → u.cell? ⟨db, 3, none⟩ = some (.int .i64 cap)) (hf : ∀ u, Q w u → FB u fb x y) : Chn Try.prog (RofN Try.f37 1) (fun _ => True) (di1g0z db fb x y cap s1 ) (#[false, false, false, false, false, false, false, false, false] : Array Bool) (⟨#[.pointer (some ⟨db, 0, none⟩), x1, x2, .pointer (some ⟨fb, 0, none⟩), x4, x5, x6, x7, x8, x9, x10, x11, x12, x13, x14, x15, x16, x17], []⟩ : Act) :=
  ⟨⟨by kernel_rfl, by kernel_rfl, by kernel_rfl, by kernel_rfl, fun u h => by kernel_rfl⟩,
    ⟨by kernel_rfl, by kernel_rfl, by kernel_rfl, by kernel_rfl, fun u h => by kernel_rfl⟩,
    ⟨by kernel_rfl, by kernel_rfl, by kernel_rfl, by kernel_rfl, fun u h => by kernel_rfl⟩,
    ⟨by kernel_rfl, by kernel_rfl, by kernel_rfl, by kernel_rfl, fun u h => by kernel_rfl⟩,
    trivial⟩
def di1g1z (db fb : Nat) (x y : ByteArray) (cap s1 : Int)    : List (Nat × Value) := [(7, .bool false)]
set_option maxHeartbeats 8000000 in
theorem di1g1 (db fb : Nat) (x y : ByteArray) (cap s1 : Int)    {x1 x2 x11 x12 x13 x14 x15 x16 x17 : Value} (w : World) (hb : decide (cap < s1) = false) (H45 : ∀ u, Q w u → Calls Try.prog 45 #[.agg #[.string x, .string y]] u fun e v => e = .returned (.int .i64 s1) ∧ Q w v ∧ KU u v)
    (hc : ∀ u, Q w u → u.cell? ⟨db, 3, none⟩ = some (.int .i64 cap)) (hf : ∀ u, Q w u → FB u fb x y) : Chn Try.prog (RofN Try.f37 1) (fun _ => True) (di1g1z db fb x y cap s1 ) (#[true, true, true, true, true, true, true, false, false] : Array Bool) (⟨#[.pointer (some ⟨db, 0, none⟩), x1, x2, .pointer (some ⟨fb, 0, none⟩), .agg #[.string x, .string y], .int .i64 s1, .pointer (some ⟨db, 0, none⟩), .pointer (some ⟨db, 0, none⟩), .pointer (some ⟨db, 3, none⟩), .pointer (some ⟨db, 3, none⟩), .int .i64 cap, x11, x12, x13, x14, x15, x16, x17], []⟩ : Act) :=
  ⟨⟨by kernel_rfl, by kernel_rfl, by kernel_rfl, by kernel_rfl, fun u h => gt_any (.tmp 5) (.tmp 10) s1 cap (by kernel_rfl) (by kernel_rfl) (by kernel_rfl) hb⟩,
    trivial⟩
set_option maxHeartbeats 16000000 in
theorem di1_0_1_6_8 (db fb : Nat) (x y : ByteArray) (cap s1 : Int)     {x1 x2 x13 x14 x15 x16 x17 : Value} (w : World) (R : Exit → Act → World → Prop) (hQ : ∀ c a d v w, R (.panic c) (a.put d v) w → R (.panic c) a w) (hb : decide (cap < s1) = false) (H45 : ∀ u, Q w u → Calls Try.prog 45 #[.agg #[.string x, .string y]] u fun e v => e = .returned (.int .i64 s1) ∧ Q w v ∧ KU u v)
    (hc : ∀ u, Q w u → u.cell? ⟨db, 3, none⟩ = some (.int .i64 cap)) (hf : ∀ u, Q w u → FB u fb x y)
    (h : ∀ u, Q w u → R .normal (⟨#[.pointer (some ⟨db, 0, none⟩), x1, x2, .pointer (some ⟨fb, 0, none⟩), .agg #[.string x, .string y], .int .i64 s1, .pointer (some ⟨db, 0, none⟩), .pointer (some ⟨db, 0, none⟩), .pointer (some ⟨db, 3, none⟩), .pointer (some ⟨db, 3, none⟩), .int .i64 cap, .bool false, .tuple #[], x13, x14, x15, x16, x17], []⟩ : Act) u) (u : World) (hS : (fun _ => True) u) (q9 : Q w u) :
    wpAnyH Try.prog .any (RofN Try.f37 1) R (fun _ => True) 0 (#[true, true, true, true, true, true, true, true, true] : Array Bool) (⟨#[.pointer (some ⟨db, 0, none⟩), x1, x2, .pointer (some ⟨fb, 0, none⟩), .agg #[.string x, .string y], .int .i64 s1, .pointer (some ⟨db, 0, none⟩), .pointer (some ⟨db, 0, none⟩), .pointer (some ⟨db, 3, none⟩), .pointer (some ⟨db, 3, none⟩), .int .i64 cap, .bool false, .tuple #[], x13, x14, x15, x16, x17], []⟩ : Act) u := by
  refine wpAnyH_done (by kernel_rfl) ?_ _
  exact h u q9
set_option maxHeartbeats 16000000 in
theorem di1_0_1_6 (db fb : Nat) (x y : ByteArray) (cap s1 : Int)    {x1 x2 x12 x13 x14 x15 x16 x17 : Value} (w : World) (R : Exit → Act → World → Prop) (hQ : ∀ c a d v w, R (.panic c) (a.put d v) w → R (.panic c) a w) (hb : decide (cap < s1) = false) (H45 : ∀ u, Q w u → Calls Try.prog 45 #[.agg #[.string x, .string y]] u fun e v => e = .returned (.int .i64 s1) ∧ Q w v ∧ KU u v)
    (hc : ∀ u, Q w u → u.cell? ⟨db, 3, none⟩ = some (.int .i64 cap)) (hf : ∀ u, Q w u → FB u fb x y)
    (h : ∀ u, Q w u → R .normal (⟨#[.pointer (some ⟨db, 0, none⟩), x1, x2, .pointer (some ⟨fb, 0, none⟩), .agg #[.string x, .string y], .int .i64 s1, .pointer (some ⟨db, 0, none⟩), .pointer (some ⟨db, 0, none⟩), .pointer (some ⟨db, 3, none⟩), .pointer (some ⟨db, 3, none⟩), .int .i64 cap, .bool false, .tuple #[], x13, x14, x15, x16, x17], []⟩ : Act) u) (u : World) (hS : (fun _ => True) u) (q9 : Q w u) :
    wpAnyH Try.prog .any (RofN Try.f37 1) R (fun _ => True) 1 (#[true, true, true, true, true, true, true, true, false] : Array Bool) (⟨#[.pointer (some ⟨db, 0, none⟩), x1, x2, .pointer (some ⟨fb, 0, none⟩), .agg #[.string x, .string y], .int .i64 s1, .pointer (some ⟨db, 0, none⟩), .pointer (some ⟨db, 0, none⟩), .pointer (some ⟨db, 3, none⟩), .pointer (some ⟨db, 3, none⟩), .int .i64 cap, .bool false, x12, x13, x14, x15, x16, x17], []⟩ : Act) u := by
  refine wpAnyH_one (i := 8) (by kernel_rfl) ?_
  refine wpOp_callx (some 12) (by kernel_rfl) (by kernel_rfl) (by kernel_rfl) 39 #[.bool false, .int .i64 161] (by kernel_rfl) (refuse_ok 161 u) ?_
  rintro e v ⟨rfl, qq⟩
  have q0 : KU u v := trivial
  have hS1 : (fun _ => True) v := KU.s hS q0
  refine ⟨_, rfl, hS1, ?_⟩
  have e1 : (⟨#[.pointer (some ⟨db, 0, none⟩), x1, x2, .pointer (some ⟨fb, 0, none⟩), .agg #[.string x, .string y], .int .i64 s1, .pointer (some ⟨db, 0, none⟩), .pointer (some ⟨db, 0, none⟩), .pointer (some ⟨db, 3, none⟩), .pointer (some ⟨db, 3, none⟩), .int .i64 cap, .bool false, x12, x13, x14, x15, x16, x17], []⟩ : Act).put (some 12) (.tuple #[]) = (⟨#[.pointer (some ⟨db, 0, none⟩), x1, x2, .pointer (some ⟨fb, 0, none⟩), .agg #[.string x, .string y], .int .i64 s1, .pointer (some ⟨db, 0, none⟩), .pointer (some ⟨db, 0, none⟩), .pointer (some ⟨db, 3, none⟩), .pointer (some ⟨db, 3, none⟩), .int .i64 cap, .bool false, .tuple #[], x13, x14, x15, x16, x17], []⟩ : Act) := by kernel_rfl
  have l1 : (#[true, true, true, true, true, true, true, true, false] : Array Bool).setIfInBounds 8 true = (#[true, true, true, true, true, true, true, true, true] : Array Bool) := by kernel_rfl
  rw [e1, l1]
  clear e1 l1
  exact di1_0_1_6_8 db fb x y cap s1  w R hQ hb H45 hc hf h v hS1 (by rw [← qq]; exact q9)
set_option maxHeartbeats 16000000 in
theorem di1_0_6 (db fb : Nat) (x y : ByteArray) (cap s1 : Int)   {x1 x2 x5 x11 x12 x13 x14 x15 x16 x17 : Value} (w : World) (R : Exit → Act → World → Prop) (hQ : ∀ c a d v w, R (.panic c) (a.put d v) w → R (.panic c) a w) (hb : decide (cap < s1) = false) (H45 : ∀ u, Q w u → Calls Try.prog 45 #[.agg #[.string x, .string y]] u fun e v => e = .returned (.int .i64 s1) ∧ Q w v ∧ KU u v)
    (hc : ∀ u, Q w u → u.cell? ⟨db, 3, none⟩ = some (.int .i64 cap)) (hf : ∀ u, Q w u → FB u fb x y)
    (h : ∀ u, Q w u → R .normal (⟨#[.pointer (some ⟨db, 0, none⟩), x1, x2, .pointer (some ⟨fb, 0, none⟩), .agg #[.string x, .string y], .int .i64 s1, .pointer (some ⟨db, 0, none⟩), .pointer (some ⟨db, 0, none⟩), .pointer (some ⟨db, 3, none⟩), .pointer (some ⟨db, 3, none⟩), .int .i64 cap, .bool false, .tuple #[], x13, x14, x15, x16, x17], []⟩ : Act) u) (u : World) (hS : (fun _ => True) u) (q9 : Q w u) :
    wpAnyH Try.prog .any (RofN Try.f37 1) R (fun _ => True) 3 (#[true, false, true, true, true, true, true, false, false] : Array Bool) (⟨#[.pointer (some ⟨db, 0, none⟩), x1, x2, .pointer (some ⟨fb, 0, none⟩), .agg #[.string x, .string y], x5, .pointer (some ⟨db, 0, none⟩), .pointer (some ⟨db, 0, none⟩), .pointer (some ⟨db, 3, none⟩), .pointer (some ⟨db, 3, none⟩), .int .i64 cap, x11, x12, x13, x14, x15, x16, x17], []⟩ : Act) u := by
  refine wpAnyH_one (i := 1) (by kernel_rfl) ?_
  refine wpOp_callx (some 5) (by kernel_rfl) (by kernel_rfl) (by kernel_rfl) 45 #[.agg #[.string x, .string y]] (by kernel_rfl) (H45 u q9) ?_
  rintro e v ⟨rfl, q8, q0⟩
  have q0 : KU u v := q0
  have hS1 : (fun _ => True) v := KU.s hS q0
  refine ⟨_, rfl, hS1, ?_⟩
  have e1 : (⟨#[.pointer (some ⟨db, 0, none⟩), x1, x2, .pointer (some ⟨fb, 0, none⟩), .agg #[.string x, .string y], x5, .pointer (some ⟨db, 0, none⟩), .pointer (some ⟨db, 0, none⟩), .pointer (some ⟨db, 3, none⟩), .pointer (some ⟨db, 3, none⟩), .int .i64 cap, x11, x12, x13, x14, x15, x16, x17], []⟩ : Act).put (some 5) (.int .i64 s1) = (⟨#[.pointer (some ⟨db, 0, none⟩), x1, x2, .pointer (some ⟨fb, 0, none⟩), .agg #[.string x, .string y], .int .i64 s1, .pointer (some ⟨db, 0, none⟩), .pointer (some ⟨db, 0, none⟩), .pointer (some ⟨db, 3, none⟩), .pointer (some ⟨db, 3, none⟩), .int .i64 cap, x11, x12, x13, x14, x15, x16, x17], []⟩ : Act) := by kernel_rfl
  have l1 : (#[true, false, true, true, true, true, true, false, false] : Array Bool).setIfInBounds 1 true = (#[true, true, true, true, true, true, true, false, false] : Array Bool) := by kernel_rfl
  rw [e1, l1]
  clear e1 l1
  refine chn_take (by kernel_rfl) hQ hS1 1 (di1g1z db fb x y cap s1 ) _ _ (di1g1 db fb x y cap s1  w hb H45 hc hf) ?_
  have e0 : putL (RofN Try.f37 1) (di1g1z db fb x y cap s1 ) (⟨#[.pointer (some ⟨db, 0, none⟩), x1, x2, .pointer (some ⟨fb, 0, none⟩), .agg #[.string x, .string y], .int .i64 s1, .pointer (some ⟨db, 0, none⟩), .pointer (some ⟨db, 0, none⟩), .pointer (some ⟨db, 3, none⟩), .pointer (some ⟨db, 3, none⟩), .int .i64 cap, x11, x12, x13, x14, x15, x16, x17], []⟩ : Act) = (⟨#[.pointer (some ⟨db, 0, none⟩), x1, x2, .pointer (some ⟨fb, 0, none⟩), .agg #[.string x, .string y], .int .i64 s1, .pointer (some ⟨db, 0, none⟩), .pointer (some ⟨db, 0, none⟩), .pointer (some ⟨db, 3, none⟩), .pointer (some ⟨db, 3, none⟩), .int .i64 cap, .bool false, x12, x13, x14, x15, x16, x17], []⟩ : Act) := by kernel_rfl
  have l0 : setL (di1g1z db fb x y cap s1 ) (#[true, true, true, true, true, true, true, false, false] : Array Bool) = (#[true, true, true, true, true, true, true, true, false] : Array Bool) := by kernel_rfl
  rw [e0, l0]
  clear e0 l0
  exact di1_0_1_6 db fb x y cap s1  w R hQ hb H45 hc hf h v hS1 (q8)
set_option maxHeartbeats 16000000 in
theorem di1_0_1 (db fb : Nat) (x y : ByteArray) (cap s1 : Int)   {x1 x2 x10 x11 x12 x13 x14 x15 x16 x17 : Value} (w : World) (R : Exit → Act → World → Prop) (hQ : ∀ c a d v w, R (.panic c) (a.put d v) w → R (.panic c) a w) (hb : decide (cap < s1) = false) (H45 : ∀ u, Q w u → Calls Try.prog 45 #[.agg #[.string x, .string y]] u fun e v => e = .returned (.int .i64 s1) ∧ Q w v ∧ KU u v)
    (hc : ∀ u, Q w u → u.cell? ⟨db, 3, none⟩ = some (.int .i64 cap)) (hf : ∀ u, Q w u → FB u fb x y)
    (h : ∀ u, Q w u → R .normal (⟨#[.pointer (some ⟨db, 0, none⟩), x1, x2, .pointer (some ⟨fb, 0, none⟩), .agg #[.string x, .string y], .int .i64 s1, .pointer (some ⟨db, 0, none⟩), .pointer (some ⟨db, 0, none⟩), .pointer (some ⟨db, 3, none⟩), .pointer (some ⟨db, 3, none⟩), .int .i64 cap, .bool false, .tuple #[], x13, x14, x15, x16, x17], []⟩ : Act) u) (u : World) (hS : (fun _ => True) u) (q9 : Q w u) :
    wpAnyH Try.prog .any (RofN Try.f37 1) R (fun _ => True) 3 (#[true, true, true, true, true, true, false, false, false] : Array Bool) (⟨#[.pointer (some ⟨db, 0, none⟩), x1, x2, .pointer (some ⟨fb, 0, none⟩), .agg #[.string x, .string y], .int .i64 s1, .pointer (some ⟨db, 0, none⟩), .pointer (some ⟨db, 0, none⟩), .pointer (some ⟨db, 3, none⟩), .pointer (some ⟨db, 3, none⟩), x10, x11, x12, x13, x14, x15, x16, x17], []⟩ : Act) u := by
  refine wpAnyH_one (i := 6) (by kernel_rfl) ?_
  have hc : (execOp (⟨#[.pointer (some ⟨db, 0, none⟩), x1, x2, .pointer (some ⟨fb, 0, none⟩), .agg #[.string x, .string y], .int .i64 s1, .pointer (some ⟨db, 0, none⟩), .pointer (some ⟨db, 0, none⟩), .pointer (some ⟨db, 3, none⟩), .pointer (some ⟨db, 3, none⟩), x10, x11, x12, x13, x14, x15, x16, x17], []⟩ : Act).eval (((RofN Try.f37 1)[6]?).getD default)).run Try.prog u = .ok (.value (.int .i64 cap)) (u) := (ld_any 3 (.tmp 9) db 3 (by kernel_rfl) (by kernel_rfl) (ldI (hc u q9)))
  refine wpOp_val (some 10) (by kernel_rfl) (by kernel_rfl) (by kernel_rfl) hc ?_
  clear hc
  have hS1 : (fun _ => True) (u) := trivial
  refine ⟨hS1, ?_⟩
  have e1 : (⟨#[.pointer (some ⟨db, 0, none⟩), x1, x2, .pointer (some ⟨fb, 0, none⟩), .agg #[.string x, .string y], .int .i64 s1, .pointer (some ⟨db, 0, none⟩), .pointer (some ⟨db, 0, none⟩), .pointer (some ⟨db, 3, none⟩), .pointer (some ⟨db, 3, none⟩), x10, x11, x12, x13, x14, x15, x16, x17], []⟩ : Act).put (some 10) (.int .i64 cap) = (⟨#[.pointer (some ⟨db, 0, none⟩), x1, x2, .pointer (some ⟨fb, 0, none⟩), .agg #[.string x, .string y], .int .i64 s1, .pointer (some ⟨db, 0, none⟩), .pointer (some ⟨db, 0, none⟩), .pointer (some ⟨db, 3, none⟩), .pointer (some ⟨db, 3, none⟩), .int .i64 cap, x11, x12, x13, x14, x15, x16, x17], []⟩ : Act) := by kernel_rfl
  have l1 : (#[true, true, true, true, true, true, false, false, false] : Array Bool).setIfInBounds 6 true = (#[true, true, true, true, true, true, true, false, false] : Array Bool) := by kernel_rfl
  rw [e1, l1]
  clear e1 l1
  refine chn_take (by kernel_rfl) hQ hS1 1 (di1g1z db fb x y cap s1 ) _ _ (di1g1 db fb x y cap s1  w hb H45 hc hf) ?_
  have e0 : putL (RofN Try.f37 1) (di1g1z db fb x y cap s1 ) (⟨#[.pointer (some ⟨db, 0, none⟩), x1, x2, .pointer (some ⟨fb, 0, none⟩), .agg #[.string x, .string y], .int .i64 s1, .pointer (some ⟨db, 0, none⟩), .pointer (some ⟨db, 0, none⟩), .pointer (some ⟨db, 3, none⟩), .pointer (some ⟨db, 3, none⟩), .int .i64 cap, x11, x12, x13, x14, x15, x16, x17], []⟩ : Act) = (⟨#[.pointer (some ⟨db, 0, none⟩), x1, x2, .pointer (some ⟨fb, 0, none⟩), .agg #[.string x, .string y], .int .i64 s1, .pointer (some ⟨db, 0, none⟩), .pointer (some ⟨db, 0, none⟩), .pointer (some ⟨db, 3, none⟩), .pointer (some ⟨db, 3, none⟩), .int .i64 cap, .bool false, x12, x13, x14, x15, x16, x17], []⟩ : Act) := by kernel_rfl
  have l0 : setL (di1g1z db fb x y cap s1 ) (#[true, true, true, true, true, true, true, false, false] : Array Bool) = (#[true, true, true, true, true, true, true, true, false] : Array Bool) := by kernel_rfl
  rw [e0, l0]
  clear e0 l0
  exact di1_0_1_6 db fb x y cap s1  w R hQ hb H45 hc hf h (u) hS1 (q9)
set_option maxHeartbeats 16000000 in
theorem di1_6 (db fb : Nat) (x y : ByteArray) (cap s1 : Int)  {x1 x2 x4 x5 x11 x12 x13 x14 x15 x16 x17 : Value} (w : World) (R : Exit → Act → World → Prop) (hQ : ∀ c a d v w, R (.panic c) (a.put d v) w → R (.panic c) a w) (hb : decide (cap < s1) = false) (H45 : ∀ u, Q w u → Calls Try.prog 45 #[.agg #[.string x, .string y]] u fun e v => e = .returned (.int .i64 s1) ∧ Q w v ∧ KU u v)
    (hc : ∀ u, Q w u → u.cell? ⟨db, 3, none⟩ = some (.int .i64 cap)) (hf : ∀ u, Q w u → FB u fb x y)
    (h : ∀ u, Q w u → R .normal (⟨#[.pointer (some ⟨db, 0, none⟩), x1, x2, .pointer (some ⟨fb, 0, none⟩), .agg #[.string x, .string y], .int .i64 s1, .pointer (some ⟨db, 0, none⟩), .pointer (some ⟨db, 0, none⟩), .pointer (some ⟨db, 3, none⟩), .pointer (some ⟨db, 3, none⟩), .int .i64 cap, .bool false, .tuple #[], x13, x14, x15, x16, x17], []⟩ : Act) u) (u : World) (hS : (fun _ => True) u) (q9 : Q w u) :
    wpAnyH Try.prog .any (RofN Try.f37 1) R (fun _ => True) 4 (#[false, false, true, true, true, true, true, false, false] : Array Bool) (⟨#[.pointer (some ⟨db, 0, none⟩), x1, x2, .pointer (some ⟨fb, 0, none⟩), x4, x5, .pointer (some ⟨db, 0, none⟩), .pointer (some ⟨db, 0, none⟩), .pointer (some ⟨db, 3, none⟩), .pointer (some ⟨db, 3, none⟩), .int .i64 cap, x11, x12, x13, x14, x15, x16, x17], []⟩ : Act) u := by
  refine wpAnyH_one (i := 0) (by kernel_rfl) ?_
  have hc : (execOp (⟨#[.pointer (some ⟨db, 0, none⟩), x1, x2, .pointer (some ⟨fb, 0, none⟩), x4, x5, .pointer (some ⟨db, 0, none⟩), .pointer (some ⟨db, 0, none⟩), .pointer (some ⟨db, 3, none⟩), .pointer (some ⟨db, 3, none⟩), .int .i64 cap, x11, x12, x13, x14, x15, x16, x17], []⟩ : Act).eval (((RofN Try.f37 1)[0]?).getD default)).run Try.prog u = .ok (.value (.agg #[.string x, .string y])) (u) := (ld_any 23 (.tmp 3) fb 0 (by kernel_rfl) (by kernel_rfl) (ldF (hf u q9)))
  refine wpOp_val (some 4) (by kernel_rfl) (by kernel_rfl) (by kernel_rfl) hc ?_
  clear hc
  have hS1 : (fun _ => True) (u) := trivial
  refine ⟨hS1, ?_⟩
  have e1 : (⟨#[.pointer (some ⟨db, 0, none⟩), x1, x2, .pointer (some ⟨fb, 0, none⟩), x4, x5, .pointer (some ⟨db, 0, none⟩), .pointer (some ⟨db, 0, none⟩), .pointer (some ⟨db, 3, none⟩), .pointer (some ⟨db, 3, none⟩), .int .i64 cap, x11, x12, x13, x14, x15, x16, x17], []⟩ : Act).put (some 4) (.agg #[.string x, .string y]) = (⟨#[.pointer (some ⟨db, 0, none⟩), x1, x2, .pointer (some ⟨fb, 0, none⟩), .agg #[.string x, .string y], x5, .pointer (some ⟨db, 0, none⟩), .pointer (some ⟨db, 0, none⟩), .pointer (some ⟨db, 3, none⟩), .pointer (some ⟨db, 3, none⟩), .int .i64 cap, x11, x12, x13, x14, x15, x16, x17], []⟩ : Act) := by kernel_rfl
  have l1 : (#[false, false, true, true, true, true, true, false, false] : Array Bool).setIfInBounds 0 true = (#[true, false, true, true, true, true, true, false, false] : Array Bool) := by kernel_rfl
  rw [e1, l1]
  clear e1 l1
  exact di1_0_6 db fb x y cap s1  w R hQ hb H45 hc hf h (u) hS1 (q9)
set_option maxHeartbeats 16000000 in
theorem di1_0 (db fb : Nat) (x y : ByteArray) (cap s1 : Int)  {x1 x2 x5 x10 x11 x12 x13 x14 x15 x16 x17 : Value} (w : World) (R : Exit → Act → World → Prop) (hQ : ∀ c a d v w, R (.panic c) (a.put d v) w → R (.panic c) a w) (hb : decide (cap < s1) = false) (H45 : ∀ u, Q w u → Calls Try.prog 45 #[.agg #[.string x, .string y]] u fun e v => e = .returned (.int .i64 s1) ∧ Q w v ∧ KU u v)
    (hc : ∀ u, Q w u → u.cell? ⟨db, 3, none⟩ = some (.int .i64 cap)) (hf : ∀ u, Q w u → FB u fb x y)
    (h : ∀ u, Q w u → R .normal (⟨#[.pointer (some ⟨db, 0, none⟩), x1, x2, .pointer (some ⟨fb, 0, none⟩), .agg #[.string x, .string y], .int .i64 s1, .pointer (some ⟨db, 0, none⟩), .pointer (some ⟨db, 0, none⟩), .pointer (some ⟨db, 3, none⟩), .pointer (some ⟨db, 3, none⟩), .int .i64 cap, .bool false, .tuple #[], x13, x14, x15, x16, x17], []⟩ : Act) u) (u : World) (hS : (fun _ => True) u) (q9 : Q w u) :
    wpAnyH Try.prog .any (RofN Try.f37 1) R (fun _ => True) 4 (#[true, false, true, true, true, true, false, false, false] : Array Bool) (⟨#[.pointer (some ⟨db, 0, none⟩), x1, x2, .pointer (some ⟨fb, 0, none⟩), .agg #[.string x, .string y], x5, .pointer (some ⟨db, 0, none⟩), .pointer (some ⟨db, 0, none⟩), .pointer (some ⟨db, 3, none⟩), .pointer (some ⟨db, 3, none⟩), x10, x11, x12, x13, x14, x15, x16, x17], []⟩ : Act) u := by
  refine wpAnyH_l2 (i := 1) (j := 6) (by kernel_rfl) ?_ ?_
  · refine wpOp_callx (some 5) (by kernel_rfl) (by kernel_rfl) (by kernel_rfl) 45 #[.agg #[.string x, .string y]] (by kernel_rfl) (H45 u q9) ?_
    rintro e v ⟨rfl, q8, q0⟩
    have q0 : KU u v := q0
    have hS1 : (fun _ => True) v := KU.s hS q0
    refine ⟨_, rfl, hS1, ?_⟩
    have e1 : (⟨#[.pointer (some ⟨db, 0, none⟩), x1, x2, .pointer (some ⟨fb, 0, none⟩), .agg #[.string x, .string y], x5, .pointer (some ⟨db, 0, none⟩), .pointer (some ⟨db, 0, none⟩), .pointer (some ⟨db, 3, none⟩), .pointer (some ⟨db, 3, none⟩), x10, x11, x12, x13, x14, x15, x16, x17], []⟩ : Act).put (some 5) (.int .i64 s1) = (⟨#[.pointer (some ⟨db, 0, none⟩), x1, x2, .pointer (some ⟨fb, 0, none⟩), .agg #[.string x, .string y], .int .i64 s1, .pointer (some ⟨db, 0, none⟩), .pointer (some ⟨db, 0, none⟩), .pointer (some ⟨db, 3, none⟩), .pointer (some ⟨db, 3, none⟩), x10, x11, x12, x13, x14, x15, x16, x17], []⟩ : Act) := by kernel_rfl
    have l1 : (#[true, false, true, true, true, true, false, false, false] : Array Bool).setIfInBounds 1 true = (#[true, true, true, true, true, true, false, false, false] : Array Bool) := by kernel_rfl
    rw [e1, l1]
    clear e1 l1
    exact di1_0_1 db fb x y cap s1  w R hQ hb H45 hc hf h v hS1 (q8)
  · have hc : (execOp (⟨#[.pointer (some ⟨db, 0, none⟩), x1, x2, .pointer (some ⟨fb, 0, none⟩), .agg #[.string x, .string y], x5, .pointer (some ⟨db, 0, none⟩), .pointer (some ⟨db, 0, none⟩), .pointer (some ⟨db, 3, none⟩), .pointer (some ⟨db, 3, none⟩), x10, x11, x12, x13, x14, x15, x16, x17], []⟩ : Act).eval (((RofN Try.f37 1)[6]?).getD default)).run Try.prog u = .ok (.value (.int .i64 cap)) (u) := (ld_any 3 (.tmp 9) db 3 (by kernel_rfl) (by kernel_rfl) (ldI (hc u q9)))
    refine wpOp_val (some 10) (by kernel_rfl) (by kernel_rfl) (by kernel_rfl) hc ?_
    clear hc
    have hS1 : (fun _ => True) (u) := trivial
    refine ⟨hS1, ?_⟩
    have e1 : (⟨#[.pointer (some ⟨db, 0, none⟩), x1, x2, .pointer (some ⟨fb, 0, none⟩), .agg #[.string x, .string y], x5, .pointer (some ⟨db, 0, none⟩), .pointer (some ⟨db, 0, none⟩), .pointer (some ⟨db, 3, none⟩), .pointer (some ⟨db, 3, none⟩), x10, x11, x12, x13, x14, x15, x16, x17], []⟩ : Act).put (some 10) (.int .i64 cap) = (⟨#[.pointer (some ⟨db, 0, none⟩), x1, x2, .pointer (some ⟨fb, 0, none⟩), .agg #[.string x, .string y], x5, .pointer (some ⟨db, 0, none⟩), .pointer (some ⟨db, 0, none⟩), .pointer (some ⟨db, 3, none⟩), .pointer (some ⟨db, 3, none⟩), .int .i64 cap, x11, x12, x13, x14, x15, x16, x17], []⟩ : Act) := by kernel_rfl
    have l1 : (#[true, false, true, true, true, true, false, false, false] : Array Bool).setIfInBounds 6 true = (#[true, false, true, true, true, true, true, false, false] : Array Bool) := by kernel_rfl
    rw [e1, l1]
    clear e1 l1
    exact di1_0_6 db fb x y cap s1  w R hQ hb H45 hc hf h (u) hS1 (q9)
set_option maxHeartbeats 16000000 in
theorem di1_o (db fb : Nat) (x y : ByteArray) (cap s1 : Int)  {x1 x2 x4 x5 x10 x11 x12 x13 x14 x15 x16 x17 : Value} (w : World) (R : Exit → Act → World → Prop) (hQ : ∀ c a d v w, R (.panic c) (a.put d v) w → R (.panic c) a w) (hb : decide (cap < s1) = false) (H45 : ∀ u, Q w u → Calls Try.prog 45 #[.agg #[.string x, .string y]] u fun e v => e = .returned (.int .i64 s1) ∧ Q w v ∧ KU u v)
    (hc : ∀ u, Q w u → u.cell? ⟨db, 3, none⟩ = some (.int .i64 cap)) (hf : ∀ u, Q w u → FB u fb x y)
    (h : ∀ u, Q w u → R .normal (⟨#[.pointer (some ⟨db, 0, none⟩), x1, x2, .pointer (some ⟨fb, 0, none⟩), .agg #[.string x, .string y], .int .i64 s1, .pointer (some ⟨db, 0, none⟩), .pointer (some ⟨db, 0, none⟩), .pointer (some ⟨db, 3, none⟩), .pointer (some ⟨db, 3, none⟩), .int .i64 cap, .bool false, .tuple #[], x13, x14, x15, x16, x17], []⟩ : Act) u) (u : World) (hS : (fun _ => True) u) (q9 : Q w u) :
    wpAnyH Try.prog .any (RofN Try.f37 1) R (fun _ => True) 5 (#[false, false, true, true, true, true, false, false, false] : Array Bool) (⟨#[.pointer (some ⟨db, 0, none⟩), x1, x2, .pointer (some ⟨fb, 0, none⟩), x4, x5, .pointer (some ⟨db, 0, none⟩), .pointer (some ⟨db, 0, none⟩), .pointer (some ⟨db, 3, none⟩), .pointer (some ⟨db, 3, none⟩), x10, x11, x12, x13, x14, x15, x16, x17], []⟩ : Act) u := by
  refine wpAnyH_l2 (i := 0) (j := 6) (by kernel_rfl) ?_ ?_
  · have hc : (execOp (⟨#[.pointer (some ⟨db, 0, none⟩), x1, x2, .pointer (some ⟨fb, 0, none⟩), x4, x5, .pointer (some ⟨db, 0, none⟩), .pointer (some ⟨db, 0, none⟩), .pointer (some ⟨db, 3, none⟩), .pointer (some ⟨db, 3, none⟩), x10, x11, x12, x13, x14, x15, x16, x17], []⟩ : Act).eval (((RofN Try.f37 1)[0]?).getD default)).run Try.prog u = .ok (.value (.agg #[.string x, .string y])) (u) := (ld_any 23 (.tmp 3) fb 0 (by kernel_rfl) (by kernel_rfl) (ldF (hf u q9)))
    refine wpOp_val (some 4) (by kernel_rfl) (by kernel_rfl) (by kernel_rfl) hc ?_
    clear hc
    have hS1 : (fun _ => True) (u) := trivial
    refine ⟨hS1, ?_⟩
    have e1 : (⟨#[.pointer (some ⟨db, 0, none⟩), x1, x2, .pointer (some ⟨fb, 0, none⟩), x4, x5, .pointer (some ⟨db, 0, none⟩), .pointer (some ⟨db, 0, none⟩), .pointer (some ⟨db, 3, none⟩), .pointer (some ⟨db, 3, none⟩), x10, x11, x12, x13, x14, x15, x16, x17], []⟩ : Act).put (some 4) (.agg #[.string x, .string y]) = (⟨#[.pointer (some ⟨db, 0, none⟩), x1, x2, .pointer (some ⟨fb, 0, none⟩), .agg #[.string x, .string y], x5, .pointer (some ⟨db, 0, none⟩), .pointer (some ⟨db, 0, none⟩), .pointer (some ⟨db, 3, none⟩), .pointer (some ⟨db, 3, none⟩), x10, x11, x12, x13, x14, x15, x16, x17], []⟩ : Act) := by kernel_rfl
    have l1 : (#[false, false, true, true, true, true, false, false, false] : Array Bool).setIfInBounds 0 true = (#[true, false, true, true, true, true, false, false, false] : Array Bool) := by kernel_rfl
    rw [e1, l1]
    clear e1 l1
    exact di1_0 db fb x y cap s1  w R hQ hb H45 hc hf h (u) hS1 (q9)
  · have hc : (execOp (⟨#[.pointer (some ⟨db, 0, none⟩), x1, x2, .pointer (some ⟨fb, 0, none⟩), x4, x5, .pointer (some ⟨db, 0, none⟩), .pointer (some ⟨db, 0, none⟩), .pointer (some ⟨db, 3, none⟩), .pointer (some ⟨db, 3, none⟩), x10, x11, x12, x13, x14, x15, x16, x17], []⟩ : Act).eval (((RofN Try.f37 1)[6]?).getD default)).run Try.prog u = .ok (.value (.int .i64 cap)) (u) := (ld_any 3 (.tmp 9) db 3 (by kernel_rfl) (by kernel_rfl) (ldI (hc u q9)))
    refine wpOp_val (some 10) (by kernel_rfl) (by kernel_rfl) (by kernel_rfl) hc ?_
    clear hc
    have hS1 : (fun _ => True) (u) := trivial
    refine ⟨hS1, ?_⟩
    have e1 : (⟨#[.pointer (some ⟨db, 0, none⟩), x1, x2, .pointer (some ⟨fb, 0, none⟩), x4, x5, .pointer (some ⟨db, 0, none⟩), .pointer (some ⟨db, 0, none⟩), .pointer (some ⟨db, 3, none⟩), .pointer (some ⟨db, 3, none⟩), x10, x11, x12, x13, x14, x15, x16, x17], []⟩ : Act).put (some 10) (.int .i64 cap) = (⟨#[.pointer (some ⟨db, 0, none⟩), x1, x2, .pointer (some ⟨fb, 0, none⟩), x4, x5, .pointer (some ⟨db, 0, none⟩), .pointer (some ⟨db, 0, none⟩), .pointer (some ⟨db, 3, none⟩), .pointer (some ⟨db, 3, none⟩), .int .i64 cap, x11, x12, x13, x14, x15, x16, x17], []⟩ : Act) := by kernel_rfl
    have l1 : (#[false, false, true, true, true, true, false, false, false] : Array Bool).setIfInBounds 6 true = (#[false, false, true, true, true, true, true, false, false] : Array Bool) := by kernel_rfl
    rw [e1, l1]
    clear e1 l1
    exact di1_6 db fb x y cap s1  w R hQ hb H45 hc hf h (u) hS1 (q9)
set_option maxHeartbeats 16000000 in
theorem di1 (db fb : Nat) (x y : ByteArray) (cap s1 : Int) {x1 x2 x4 x5 x6 x7 x8 x9 x10 x11 x12 x13 x14 x15 x16 x17 : Value} (w : World) (R : Exit → Act → World → Prop) (hQ : ∀ c a d v w, R (.panic c) (a.put d v) w → R (.panic c) a w) (hb : decide (cap < s1) = false) (H45 : ∀ u, Q w u → Calls Try.prog 45 #[.agg #[.string x, .string y]] u fun e v => e = .returned (.int .i64 s1) ∧ Q w v ∧ KU u v)
    (hc : ∀ u, Q w u → u.cell? ⟨db, 3, none⟩ = some (.int .i64 cap)) (hf : ∀ u, Q w u → FB u fb x y) (hS : (fun _ => True) w)
    (h : ∀ u, Q w u → R .normal (⟨#[.pointer (some ⟨db, 0, none⟩), x1, x2, .pointer (some ⟨fb, 0, none⟩), .agg #[.string x, .string y], .int .i64 s1, .pointer (some ⟨db, 0, none⟩), .pointer (some ⟨db, 0, none⟩), .pointer (some ⟨db, 3, none⟩), .pointer (some ⟨db, 3, none⟩), .int .i64 cap, .bool false, .tuple #[], x13, x14, x15, x16, x17], []⟩ : Act) u) :
    (Code.region 1 (RofN Try.f37 1) true).wp Try.prog R (⟨#[.pointer (some ⟨db, 0, none⟩), x1, x2, .pointer (some ⟨fb, 0, none⟩), x4, x5, x6, x7, x8, x9, x10, x11, x12, x13, x14, x15, x16, x17], []⟩ : Act) w := by
  refine wp_region_held (S := (fun _ => True)) (by kernel_rfl) ?_
  have hsz : (RofN Try.f37 1).size = 9 := by kernel_rfl
  rw [hsz]
  have hS0 : (fun _ => True) w.drew := KU.s hS (show KU w w.drew from trivial)
  refine chn_take (by kernel_rfl) hQ hS0 5 (di1g0z db fb x y cap s1 ) _ _ (di1g0 db fb x y cap s1  w hb H45 hc hf) ?_
  have e0 : putL (RofN Try.f37 1) (di1g0z db fb x y cap s1 ) (⟨#[.pointer (some ⟨db, 0, none⟩), x1, x2, .pointer (some ⟨fb, 0, none⟩), x4, x5, x6, x7, x8, x9, x10, x11, x12, x13, x14, x15, x16, x17], []⟩ : Act) = (⟨#[.pointer (some ⟨db, 0, none⟩), x1, x2, .pointer (some ⟨fb, 0, none⟩), x4, x5, .pointer (some ⟨db, 0, none⟩), .pointer (some ⟨db, 0, none⟩), .pointer (some ⟨db, 3, none⟩), .pointer (some ⟨db, 3, none⟩), x10, x11, x12, x13, x14, x15, x16, x17], []⟩ : Act) := by kernel_rfl
  have l0 : setL (di1g0z db fb x y cap s1 ) (Array.replicate 9 false) = (#[false, false, true, true, true, true, false, false, false] : Array Bool) := by kernel_rfl
  rw [e0, l0]
  clear e0 l0
  exact di1_o db fb x y cap s1 w R hQ hb H45 hc hf h _ hS0 ((Q.refl w).drew)
def dx1g0z (db fb : Nat) (x y : ByteArray) (cap s1 : Int)  : List (Nat × Value) := [(2, .pointer (some ⟨db, 0, none⟩)), (3, .pointer (some ⟨db, 0, none⟩)), (4, .pointer (some ⟨db, 3, none⟩)), (5, .pointer (some ⟨db, 3, none⟩))]
set_option maxHeartbeats 8000000 in
theorem dx1g0 (db fb : Nat) (x y : ByteArray) (cap s1 : Int)  {x1 x2 x4 x5 x6 x7 x8 x9 x10 x11 x12 x13 x14 x15 x16 x17 : Value} (w : World) (hb : decide (cap < s1) = true) (H45 : ∀ u, Q w u → Calls Try.prog 45 #[.agg #[.string x, .string y]] u fun e v => e = .returned (.int .i64 s1) ∧ Q w v ∧ KU u v)
    (hc : ∀ u, Q w u → u.cell? ⟨db, 3, none⟩ = some (.int .i64 cap)) (hf : ∀ u, Q w u → FB u fb x y) : Chn Try.prog (RofN Try.f37 1) (fun _ => True) (dx1g0z db fb x y cap s1 ) (#[false, false, false, false, false, false, false, false, false] : Array Bool) (⟨#[.pointer (some ⟨db, 0, none⟩), x1, x2, .pointer (some ⟨fb, 0, none⟩), x4, x5, x6, x7, x8, x9, x10, x11, x12, x13, x14, x15, x16, x17], []⟩ : Act) :=
  ⟨⟨by kernel_rfl, by kernel_rfl, by kernel_rfl, by kernel_rfl, fun u h => by kernel_rfl⟩,
    ⟨by kernel_rfl, by kernel_rfl, by kernel_rfl, by kernel_rfl, fun u h => by kernel_rfl⟩,
    ⟨by kernel_rfl, by kernel_rfl, by kernel_rfl, by kernel_rfl, fun u h => by kernel_rfl⟩,
    ⟨by kernel_rfl, by kernel_rfl, by kernel_rfl, by kernel_rfl, fun u h => by kernel_rfl⟩,
    trivial⟩
def dx1g1z (db fb : Nat) (x y : ByteArray) (cap s1 : Int)    : List (Nat × Value) := [(7, .bool true)]
set_option maxHeartbeats 8000000 in
theorem dx1g1 (db fb : Nat) (x y : ByteArray) (cap s1 : Int)    {x1 x2 x11 x12 x13 x14 x15 x16 x17 : Value} (w : World) (hb : decide (cap < s1) = true) (H45 : ∀ u, Q w u → Calls Try.prog 45 #[.agg #[.string x, .string y]] u fun e v => e = .returned (.int .i64 s1) ∧ Q w v ∧ KU u v)
    (hc : ∀ u, Q w u → u.cell? ⟨db, 3, none⟩ = some (.int .i64 cap)) (hf : ∀ u, Q w u → FB u fb x y) : Chn Try.prog (RofN Try.f37 1) (fun _ => True) (dx1g1z db fb x y cap s1 ) (#[true, true, true, true, true, true, true, false, false] : Array Bool) (⟨#[.pointer (some ⟨db, 0, none⟩), x1, x2, .pointer (some ⟨fb, 0, none⟩), .agg #[.string x, .string y], .int .i64 s1, .pointer (some ⟨db, 0, none⟩), .pointer (some ⟨db, 0, none⟩), .pointer (some ⟨db, 3, none⟩), .pointer (some ⟨db, 3, none⟩), .int .i64 cap, x11, x12, x13, x14, x15, x16, x17], []⟩ : Act) :=
  ⟨⟨by kernel_rfl, by kernel_rfl, by kernel_rfl, by kernel_rfl, fun u h => gt_any (.tmp 5) (.tmp 10) s1 cap (by kernel_rfl) (by kernel_rfl) (by kernel_rfl) hb⟩,
    trivial⟩
set_option maxHeartbeats 16000000 in
theorem dx1_0_1_6 (db fb : Nat) (x y : ByteArray) (cap s1 : Int)    {x1 x2 x12 x13 x14 x15 x16 x17 : Value} (w : World) (R : Exit → Act → World → Prop) (hQ : ∀ c a d v w, R (.panic c) (a.put d v) w → R (.panic c) a w) (hb : decide (cap < s1) = true) (H45 : ∀ u, Q w u → Calls Try.prog 45 #[.agg #[.string x, .string y]] u fun e v => e = .returned (.int .i64 s1) ∧ Q w v ∧ KU u v)
    (hc : ∀ u, Q w u → u.cell? ⟨db, 3, none⟩ = some (.int .i64 cap)) (hf : ∀ u, Q w u → FB u fb x y)
    (h : ∀ (a : Act) (v : World), a.defers = [] → Q w v → R (.panic [refP 161]) a v) (u : World) (hS : (fun _ => True) u) (q9 : Q w u) :
    wpAnyH Try.prog .any (RofN Try.f37 1) R (fun _ => True) 1 (#[true, true, true, true, true, true, true, true, false] : Array Bool) (⟨#[.pointer (some ⟨db, 0, none⟩), x1, x2, .pointer (some ⟨fb, 0, none⟩), .agg #[.string x, .string y], .int .i64 s1, .pointer (some ⟨db, 0, none⟩), .pointer (some ⟨db, 0, none⟩), .pointer (some ⟨db, 3, none⟩), .pointer (some ⟨db, 3, none⟩), .int .i64 cap, .bool true, x12, x13, x14, x15, x16, x17], []⟩ : Act) u := by
  refine wpAnyH_one (i := 8) (by kernel_rfl) ?_
  refine wpOp_callp (by kernel_rfl) (by kernel_rfl) 39 #[.bool true, .int .i64 161] (by kernel_rfl) (refuse_no 161 u) ?_
  rintro e v ⟨rfl, rfl⟩
  exact ⟨_, rfl, h _ _ rfl q9⟩
set_option maxHeartbeats 16000000 in
theorem dx1_0_6 (db fb : Nat) (x y : ByteArray) (cap s1 : Int)   {x1 x2 x5 x11 x12 x13 x14 x15 x16 x17 : Value} (w : World) (R : Exit → Act → World → Prop) (hQ : ∀ c a d v w, R (.panic c) (a.put d v) w → R (.panic c) a w) (hb : decide (cap < s1) = true) (H45 : ∀ u, Q w u → Calls Try.prog 45 #[.agg #[.string x, .string y]] u fun e v => e = .returned (.int .i64 s1) ∧ Q w v ∧ KU u v)
    (hc : ∀ u, Q w u → u.cell? ⟨db, 3, none⟩ = some (.int .i64 cap)) (hf : ∀ u, Q w u → FB u fb x y)
    (h : ∀ (a : Act) (v : World), a.defers = [] → Q w v → R (.panic [refP 161]) a v) (u : World) (hS : (fun _ => True) u) (q9 : Q w u) :
    wpAnyH Try.prog .any (RofN Try.f37 1) R (fun _ => True) 3 (#[true, false, true, true, true, true, true, false, false] : Array Bool) (⟨#[.pointer (some ⟨db, 0, none⟩), x1, x2, .pointer (some ⟨fb, 0, none⟩), .agg #[.string x, .string y], x5, .pointer (some ⟨db, 0, none⟩), .pointer (some ⟨db, 0, none⟩), .pointer (some ⟨db, 3, none⟩), .pointer (some ⟨db, 3, none⟩), .int .i64 cap, x11, x12, x13, x14, x15, x16, x17], []⟩ : Act) u := by
  refine wpAnyH_one (i := 1) (by kernel_rfl) ?_
  refine wpOp_callx (some 5) (by kernel_rfl) (by kernel_rfl) (by kernel_rfl) 45 #[.agg #[.string x, .string y]] (by kernel_rfl) (H45 u q9) ?_
  rintro e v ⟨rfl, q8, q0⟩
  have q0 : KU u v := q0
  have hS1 : (fun _ => True) v := KU.s hS q0
  refine ⟨_, rfl, hS1, ?_⟩
  have e1 : (⟨#[.pointer (some ⟨db, 0, none⟩), x1, x2, .pointer (some ⟨fb, 0, none⟩), .agg #[.string x, .string y], x5, .pointer (some ⟨db, 0, none⟩), .pointer (some ⟨db, 0, none⟩), .pointer (some ⟨db, 3, none⟩), .pointer (some ⟨db, 3, none⟩), .int .i64 cap, x11, x12, x13, x14, x15, x16, x17], []⟩ : Act).put (some 5) (.int .i64 s1) = (⟨#[.pointer (some ⟨db, 0, none⟩), x1, x2, .pointer (some ⟨fb, 0, none⟩), .agg #[.string x, .string y], .int .i64 s1, .pointer (some ⟨db, 0, none⟩), .pointer (some ⟨db, 0, none⟩), .pointer (some ⟨db, 3, none⟩), .pointer (some ⟨db, 3, none⟩), .int .i64 cap, x11, x12, x13, x14, x15, x16, x17], []⟩ : Act) := by kernel_rfl
  have l1 : (#[true, false, true, true, true, true, true, false, false] : Array Bool).setIfInBounds 1 true = (#[true, true, true, true, true, true, true, false, false] : Array Bool) := by kernel_rfl
  rw [e1, l1]
  clear e1 l1
  refine chn_take (by kernel_rfl) hQ hS1 1 (dx1g1z db fb x y cap s1 ) _ _ (dx1g1 db fb x y cap s1  w hb H45 hc hf) ?_
  have e0 : putL (RofN Try.f37 1) (dx1g1z db fb x y cap s1 ) (⟨#[.pointer (some ⟨db, 0, none⟩), x1, x2, .pointer (some ⟨fb, 0, none⟩), .agg #[.string x, .string y], .int .i64 s1, .pointer (some ⟨db, 0, none⟩), .pointer (some ⟨db, 0, none⟩), .pointer (some ⟨db, 3, none⟩), .pointer (some ⟨db, 3, none⟩), .int .i64 cap, x11, x12, x13, x14, x15, x16, x17], []⟩ : Act) = (⟨#[.pointer (some ⟨db, 0, none⟩), x1, x2, .pointer (some ⟨fb, 0, none⟩), .agg #[.string x, .string y], .int .i64 s1, .pointer (some ⟨db, 0, none⟩), .pointer (some ⟨db, 0, none⟩), .pointer (some ⟨db, 3, none⟩), .pointer (some ⟨db, 3, none⟩), .int .i64 cap, .bool true, x12, x13, x14, x15, x16, x17], []⟩ : Act) := by kernel_rfl
  have l0 : setL (dx1g1z db fb x y cap s1 ) (#[true, true, true, true, true, true, true, false, false] : Array Bool) = (#[true, true, true, true, true, true, true, true, false] : Array Bool) := by kernel_rfl
  rw [e0, l0]
  clear e0 l0
  exact dx1_0_1_6 db fb x y cap s1  w R hQ hb H45 hc hf h v hS1 (q8)
set_option maxHeartbeats 16000000 in
theorem dx1_0_1 (db fb : Nat) (x y : ByteArray) (cap s1 : Int)   {x1 x2 x10 x11 x12 x13 x14 x15 x16 x17 : Value} (w : World) (R : Exit → Act → World → Prop) (hQ : ∀ c a d v w, R (.panic c) (a.put d v) w → R (.panic c) a w) (hb : decide (cap < s1) = true) (H45 : ∀ u, Q w u → Calls Try.prog 45 #[.agg #[.string x, .string y]] u fun e v => e = .returned (.int .i64 s1) ∧ Q w v ∧ KU u v)
    (hc : ∀ u, Q w u → u.cell? ⟨db, 3, none⟩ = some (.int .i64 cap)) (hf : ∀ u, Q w u → FB u fb x y)
    (h : ∀ (a : Act) (v : World), a.defers = [] → Q w v → R (.panic [refP 161]) a v) (u : World) (hS : (fun _ => True) u) (q9 : Q w u) :
    wpAnyH Try.prog .any (RofN Try.f37 1) R (fun _ => True) 3 (#[true, true, true, true, true, true, false, false, false] : Array Bool) (⟨#[.pointer (some ⟨db, 0, none⟩), x1, x2, .pointer (some ⟨fb, 0, none⟩), .agg #[.string x, .string y], .int .i64 s1, .pointer (some ⟨db, 0, none⟩), .pointer (some ⟨db, 0, none⟩), .pointer (some ⟨db, 3, none⟩), .pointer (some ⟨db, 3, none⟩), x10, x11, x12, x13, x14, x15, x16, x17], []⟩ : Act) u := by
  refine wpAnyH_one (i := 6) (by kernel_rfl) ?_
  have hc : (execOp (⟨#[.pointer (some ⟨db, 0, none⟩), x1, x2, .pointer (some ⟨fb, 0, none⟩), .agg #[.string x, .string y], .int .i64 s1, .pointer (some ⟨db, 0, none⟩), .pointer (some ⟨db, 0, none⟩), .pointer (some ⟨db, 3, none⟩), .pointer (some ⟨db, 3, none⟩), x10, x11, x12, x13, x14, x15, x16, x17], []⟩ : Act).eval (((RofN Try.f37 1)[6]?).getD default)).run Try.prog u = .ok (.value (.int .i64 cap)) (u) := (ld_any 3 (.tmp 9) db 3 (by kernel_rfl) (by kernel_rfl) (ldI (hc u q9)))
  refine wpOp_val (some 10) (by kernel_rfl) (by kernel_rfl) (by kernel_rfl) hc ?_
  clear hc
  have hS1 : (fun _ => True) (u) := trivial
  refine ⟨hS1, ?_⟩
  have e1 : (⟨#[.pointer (some ⟨db, 0, none⟩), x1, x2, .pointer (some ⟨fb, 0, none⟩), .agg #[.string x, .string y], .int .i64 s1, .pointer (some ⟨db, 0, none⟩), .pointer (some ⟨db, 0, none⟩), .pointer (some ⟨db, 3, none⟩), .pointer (some ⟨db, 3, none⟩), x10, x11, x12, x13, x14, x15, x16, x17], []⟩ : Act).put (some 10) (.int .i64 cap) = (⟨#[.pointer (some ⟨db, 0, none⟩), x1, x2, .pointer (some ⟨fb, 0, none⟩), .agg #[.string x, .string y], .int .i64 s1, .pointer (some ⟨db, 0, none⟩), .pointer (some ⟨db, 0, none⟩), .pointer (some ⟨db, 3, none⟩), .pointer (some ⟨db, 3, none⟩), .int .i64 cap, x11, x12, x13, x14, x15, x16, x17], []⟩ : Act) := by kernel_rfl
  have l1 : (#[true, true, true, true, true, true, false, false, false] : Array Bool).setIfInBounds 6 true = (#[true, true, true, true, true, true, true, false, false] : Array Bool) := by kernel_rfl
  rw [e1, l1]
  clear e1 l1
  refine chn_take (by kernel_rfl) hQ hS1 1 (dx1g1z db fb x y cap s1 ) _ _ (dx1g1 db fb x y cap s1  w hb H45 hc hf) ?_
  have e0 : putL (RofN Try.f37 1) (dx1g1z db fb x y cap s1 ) (⟨#[.pointer (some ⟨db, 0, none⟩), x1, x2, .pointer (some ⟨fb, 0, none⟩), .agg #[.string x, .string y], .int .i64 s1, .pointer (some ⟨db, 0, none⟩), .pointer (some ⟨db, 0, none⟩), .pointer (some ⟨db, 3, none⟩), .pointer (some ⟨db, 3, none⟩), .int .i64 cap, x11, x12, x13, x14, x15, x16, x17], []⟩ : Act) = (⟨#[.pointer (some ⟨db, 0, none⟩), x1, x2, .pointer (some ⟨fb, 0, none⟩), .agg #[.string x, .string y], .int .i64 s1, .pointer (some ⟨db, 0, none⟩), .pointer (some ⟨db, 0, none⟩), .pointer (some ⟨db, 3, none⟩), .pointer (some ⟨db, 3, none⟩), .int .i64 cap, .bool true, x12, x13, x14, x15, x16, x17], []⟩ : Act) := by kernel_rfl
  have l0 : setL (dx1g1z db fb x y cap s1 ) (#[true, true, true, true, true, true, true, false, false] : Array Bool) = (#[true, true, true, true, true, true, true, true, false] : Array Bool) := by kernel_rfl
  rw [e0, l0]
  clear e0 l0
  exact dx1_0_1_6 db fb x y cap s1  w R hQ hb H45 hc hf h (u) hS1 (q9)
set_option maxHeartbeats 16000000 in
theorem dx1_6 (db fb : Nat) (x y : ByteArray) (cap s1 : Int)  {x1 x2 x4 x5 x11 x12 x13 x14 x15 x16 x17 : Value} (w : World) (R : Exit → Act → World → Prop) (hQ : ∀ c a d v w, R (.panic c) (a.put d v) w → R (.panic c) a w) (hb : decide (cap < s1) = true) (H45 : ∀ u, Q w u → Calls Try.prog 45 #[.agg #[.string x, .string y]] u fun e v => e = .returned (.int .i64 s1) ∧ Q w v ∧ KU u v)
    (hc : ∀ u, Q w u → u.cell? ⟨db, 3, none⟩ = some (.int .i64 cap)) (hf : ∀ u, Q w u → FB u fb x y)
    (h : ∀ (a : Act) (v : World), a.defers = [] → Q w v → R (.panic [refP 161]) a v) (u : World) (hS : (fun _ => True) u) (q9 : Q w u) :
    wpAnyH Try.prog .any (RofN Try.f37 1) R (fun _ => True) 4 (#[false, false, true, true, true, true, true, false, false] : Array Bool) (⟨#[.pointer (some ⟨db, 0, none⟩), x1, x2, .pointer (some ⟨fb, 0, none⟩), x4, x5, .pointer (some ⟨db, 0, none⟩), .pointer (some ⟨db, 0, none⟩), .pointer (some ⟨db, 3, none⟩), .pointer (some ⟨db, 3, none⟩), .int .i64 cap, x11, x12, x13, x14, x15, x16, x17], []⟩ : Act) u := by
  refine wpAnyH_one (i := 0) (by kernel_rfl) ?_
  have hc : (execOp (⟨#[.pointer (some ⟨db, 0, none⟩), x1, x2, .pointer (some ⟨fb, 0, none⟩), x4, x5, .pointer (some ⟨db, 0, none⟩), .pointer (some ⟨db, 0, none⟩), .pointer (some ⟨db, 3, none⟩), .pointer (some ⟨db, 3, none⟩), .int .i64 cap, x11, x12, x13, x14, x15, x16, x17], []⟩ : Act).eval (((RofN Try.f37 1)[0]?).getD default)).run Try.prog u = .ok (.value (.agg #[.string x, .string y])) (u) := (ld_any 23 (.tmp 3) fb 0 (by kernel_rfl) (by kernel_rfl) (ldF (hf u q9)))
  refine wpOp_val (some 4) (by kernel_rfl) (by kernel_rfl) (by kernel_rfl) hc ?_
  clear hc
  have hS1 : (fun _ => True) (u) := trivial
  refine ⟨hS1, ?_⟩
  have e1 : (⟨#[.pointer (some ⟨db, 0, none⟩), x1, x2, .pointer (some ⟨fb, 0, none⟩), x4, x5, .pointer (some ⟨db, 0, none⟩), .pointer (some ⟨db, 0, none⟩), .pointer (some ⟨db, 3, none⟩), .pointer (some ⟨db, 3, none⟩), .int .i64 cap, x11, x12, x13, x14, x15, x16, x17], []⟩ : Act).put (some 4) (.agg #[.string x, .string y]) = (⟨#[.pointer (some ⟨db, 0, none⟩), x1, x2, .pointer (some ⟨fb, 0, none⟩), .agg #[.string x, .string y], x5, .pointer (some ⟨db, 0, none⟩), .pointer (some ⟨db, 0, none⟩), .pointer (some ⟨db, 3, none⟩), .pointer (some ⟨db, 3, none⟩), .int .i64 cap, x11, x12, x13, x14, x15, x16, x17], []⟩ : Act) := by kernel_rfl
  have l1 : (#[false, false, true, true, true, true, true, false, false] : Array Bool).setIfInBounds 0 true = (#[true, false, true, true, true, true, true, false, false] : Array Bool) := by kernel_rfl
  rw [e1, l1]
  clear e1 l1
  exact dx1_0_6 db fb x y cap s1  w R hQ hb H45 hc hf h (u) hS1 (q9)
set_option maxHeartbeats 16000000 in
theorem dx1_0 (db fb : Nat) (x y : ByteArray) (cap s1 : Int)  {x1 x2 x5 x10 x11 x12 x13 x14 x15 x16 x17 : Value} (w : World) (R : Exit → Act → World → Prop) (hQ : ∀ c a d v w, R (.panic c) (a.put d v) w → R (.panic c) a w) (hb : decide (cap < s1) = true) (H45 : ∀ u, Q w u → Calls Try.prog 45 #[.agg #[.string x, .string y]] u fun e v => e = .returned (.int .i64 s1) ∧ Q w v ∧ KU u v)
    (hc : ∀ u, Q w u → u.cell? ⟨db, 3, none⟩ = some (.int .i64 cap)) (hf : ∀ u, Q w u → FB u fb x y)
    (h : ∀ (a : Act) (v : World), a.defers = [] → Q w v → R (.panic [refP 161]) a v) (u : World) (hS : (fun _ => True) u) (q9 : Q w u) :
    wpAnyH Try.prog .any (RofN Try.f37 1) R (fun _ => True) 4 (#[true, false, true, true, true, true, false, false, false] : Array Bool) (⟨#[.pointer (some ⟨db, 0, none⟩), x1, x2, .pointer (some ⟨fb, 0, none⟩), .agg #[.string x, .string y], x5, .pointer (some ⟨db, 0, none⟩), .pointer (some ⟨db, 0, none⟩), .pointer (some ⟨db, 3, none⟩), .pointer (some ⟨db, 3, none⟩), x10, x11, x12, x13, x14, x15, x16, x17], []⟩ : Act) u := by
  refine wpAnyH_l2 (i := 1) (j := 6) (by kernel_rfl) ?_ ?_
  · refine wpOp_callx (some 5) (by kernel_rfl) (by kernel_rfl) (by kernel_rfl) 45 #[.agg #[.string x, .string y]] (by kernel_rfl) (H45 u q9) ?_
    rintro e v ⟨rfl, q8, q0⟩
    have q0 : KU u v := q0
    have hS1 : (fun _ => True) v := KU.s hS q0
    refine ⟨_, rfl, hS1, ?_⟩
    have e1 : (⟨#[.pointer (some ⟨db, 0, none⟩), x1, x2, .pointer (some ⟨fb, 0, none⟩), .agg #[.string x, .string y], x5, .pointer (some ⟨db, 0, none⟩), .pointer (some ⟨db, 0, none⟩), .pointer (some ⟨db, 3, none⟩), .pointer (some ⟨db, 3, none⟩), x10, x11, x12, x13, x14, x15, x16, x17], []⟩ : Act).put (some 5) (.int .i64 s1) = (⟨#[.pointer (some ⟨db, 0, none⟩), x1, x2, .pointer (some ⟨fb, 0, none⟩), .agg #[.string x, .string y], .int .i64 s1, .pointer (some ⟨db, 0, none⟩), .pointer (some ⟨db, 0, none⟩), .pointer (some ⟨db, 3, none⟩), .pointer (some ⟨db, 3, none⟩), x10, x11, x12, x13, x14, x15, x16, x17], []⟩ : Act) := by kernel_rfl
    have l1 : (#[true, false, true, true, true, true, false, false, false] : Array Bool).setIfInBounds 1 true = (#[true, true, true, true, true, true, false, false, false] : Array Bool) := by kernel_rfl
    rw [e1, l1]
    clear e1 l1
    exact dx1_0_1 db fb x y cap s1  w R hQ hb H45 hc hf h v hS1 (q8)
  · have hc : (execOp (⟨#[.pointer (some ⟨db, 0, none⟩), x1, x2, .pointer (some ⟨fb, 0, none⟩), .agg #[.string x, .string y], x5, .pointer (some ⟨db, 0, none⟩), .pointer (some ⟨db, 0, none⟩), .pointer (some ⟨db, 3, none⟩), .pointer (some ⟨db, 3, none⟩), x10, x11, x12, x13, x14, x15, x16, x17], []⟩ : Act).eval (((RofN Try.f37 1)[6]?).getD default)).run Try.prog u = .ok (.value (.int .i64 cap)) (u) := (ld_any 3 (.tmp 9) db 3 (by kernel_rfl) (by kernel_rfl) (ldI (hc u q9)))
    refine wpOp_val (some 10) (by kernel_rfl) (by kernel_rfl) (by kernel_rfl) hc ?_
    clear hc
    have hS1 : (fun _ => True) (u) := trivial
    refine ⟨hS1, ?_⟩
    have e1 : (⟨#[.pointer (some ⟨db, 0, none⟩), x1, x2, .pointer (some ⟨fb, 0, none⟩), .agg #[.string x, .string y], x5, .pointer (some ⟨db, 0, none⟩), .pointer (some ⟨db, 0, none⟩), .pointer (some ⟨db, 3, none⟩), .pointer (some ⟨db, 3, none⟩), x10, x11, x12, x13, x14, x15, x16, x17], []⟩ : Act).put (some 10) (.int .i64 cap) = (⟨#[.pointer (some ⟨db, 0, none⟩), x1, x2, .pointer (some ⟨fb, 0, none⟩), .agg #[.string x, .string y], x5, .pointer (some ⟨db, 0, none⟩), .pointer (some ⟨db, 0, none⟩), .pointer (some ⟨db, 3, none⟩), .pointer (some ⟨db, 3, none⟩), .int .i64 cap, x11, x12, x13, x14, x15, x16, x17], []⟩ : Act) := by kernel_rfl
    have l1 : (#[true, false, true, true, true, true, false, false, false] : Array Bool).setIfInBounds 6 true = (#[true, false, true, true, true, true, true, false, false] : Array Bool) := by kernel_rfl
    rw [e1, l1]
    clear e1 l1
    exact dx1_0_6 db fb x y cap s1  w R hQ hb H45 hc hf h (u) hS1 (q9)
set_option maxHeartbeats 16000000 in
theorem dx1_o (db fb : Nat) (x y : ByteArray) (cap s1 : Int)  {x1 x2 x4 x5 x10 x11 x12 x13 x14 x15 x16 x17 : Value} (w : World) (R : Exit → Act → World → Prop) (hQ : ∀ c a d v w, R (.panic c) (a.put d v) w → R (.panic c) a w) (hb : decide (cap < s1) = true) (H45 : ∀ u, Q w u → Calls Try.prog 45 #[.agg #[.string x, .string y]] u fun e v => e = .returned (.int .i64 s1) ∧ Q w v ∧ KU u v)
    (hc : ∀ u, Q w u → u.cell? ⟨db, 3, none⟩ = some (.int .i64 cap)) (hf : ∀ u, Q w u → FB u fb x y)
    (h : ∀ (a : Act) (v : World), a.defers = [] → Q w v → R (.panic [refP 161]) a v) (u : World) (hS : (fun _ => True) u) (q9 : Q w u) :
    wpAnyH Try.prog .any (RofN Try.f37 1) R (fun _ => True) 5 (#[false, false, true, true, true, true, false, false, false] : Array Bool) (⟨#[.pointer (some ⟨db, 0, none⟩), x1, x2, .pointer (some ⟨fb, 0, none⟩), x4, x5, .pointer (some ⟨db, 0, none⟩), .pointer (some ⟨db, 0, none⟩), .pointer (some ⟨db, 3, none⟩), .pointer (some ⟨db, 3, none⟩), x10, x11, x12, x13, x14, x15, x16, x17], []⟩ : Act) u := by
  refine wpAnyH_l2 (i := 0) (j := 6) (by kernel_rfl) ?_ ?_
  · have hc : (execOp (⟨#[.pointer (some ⟨db, 0, none⟩), x1, x2, .pointer (some ⟨fb, 0, none⟩), x4, x5, .pointer (some ⟨db, 0, none⟩), .pointer (some ⟨db, 0, none⟩), .pointer (some ⟨db, 3, none⟩), .pointer (some ⟨db, 3, none⟩), x10, x11, x12, x13, x14, x15, x16, x17], []⟩ : Act).eval (((RofN Try.f37 1)[0]?).getD default)).run Try.prog u = .ok (.value (.agg #[.string x, .string y])) (u) := (ld_any 23 (.tmp 3) fb 0 (by kernel_rfl) (by kernel_rfl) (ldF (hf u q9)))
    refine wpOp_val (some 4) (by kernel_rfl) (by kernel_rfl) (by kernel_rfl) hc ?_
    clear hc
    have hS1 : (fun _ => True) (u) := trivial
    refine ⟨hS1, ?_⟩
    have e1 : (⟨#[.pointer (some ⟨db, 0, none⟩), x1, x2, .pointer (some ⟨fb, 0, none⟩), x4, x5, .pointer (some ⟨db, 0, none⟩), .pointer (some ⟨db, 0, none⟩), .pointer (some ⟨db, 3, none⟩), .pointer (some ⟨db, 3, none⟩), x10, x11, x12, x13, x14, x15, x16, x17], []⟩ : Act).put (some 4) (.agg #[.string x, .string y]) = (⟨#[.pointer (some ⟨db, 0, none⟩), x1, x2, .pointer (some ⟨fb, 0, none⟩), .agg #[.string x, .string y], x5, .pointer (some ⟨db, 0, none⟩), .pointer (some ⟨db, 0, none⟩), .pointer (some ⟨db, 3, none⟩), .pointer (some ⟨db, 3, none⟩), x10, x11, x12, x13, x14, x15, x16, x17], []⟩ : Act) := by kernel_rfl
    have l1 : (#[false, false, true, true, true, true, false, false, false] : Array Bool).setIfInBounds 0 true = (#[true, false, true, true, true, true, false, false, false] : Array Bool) := by kernel_rfl
    rw [e1, l1]
    clear e1 l1
    exact dx1_0 db fb x y cap s1  w R hQ hb H45 hc hf h (u) hS1 (q9)
  · have hc : (execOp (⟨#[.pointer (some ⟨db, 0, none⟩), x1, x2, .pointer (some ⟨fb, 0, none⟩), x4, x5, .pointer (some ⟨db, 0, none⟩), .pointer (some ⟨db, 0, none⟩), .pointer (some ⟨db, 3, none⟩), .pointer (some ⟨db, 3, none⟩), x10, x11, x12, x13, x14, x15, x16, x17], []⟩ : Act).eval (((RofN Try.f37 1)[6]?).getD default)).run Try.prog u = .ok (.value (.int .i64 cap)) (u) := (ld_any 3 (.tmp 9) db 3 (by kernel_rfl) (by kernel_rfl) (ldI (hc u q9)))
    refine wpOp_val (some 10) (by kernel_rfl) (by kernel_rfl) (by kernel_rfl) hc ?_
    clear hc
    have hS1 : (fun _ => True) (u) := trivial
    refine ⟨hS1, ?_⟩
    have e1 : (⟨#[.pointer (some ⟨db, 0, none⟩), x1, x2, .pointer (some ⟨fb, 0, none⟩), x4, x5, .pointer (some ⟨db, 0, none⟩), .pointer (some ⟨db, 0, none⟩), .pointer (some ⟨db, 3, none⟩), .pointer (some ⟨db, 3, none⟩), x10, x11, x12, x13, x14, x15, x16, x17], []⟩ : Act).put (some 10) (.int .i64 cap) = (⟨#[.pointer (some ⟨db, 0, none⟩), x1, x2, .pointer (some ⟨fb, 0, none⟩), x4, x5, .pointer (some ⟨db, 0, none⟩), .pointer (some ⟨db, 0, none⟩), .pointer (some ⟨db, 3, none⟩), .pointer (some ⟨db, 3, none⟩), .int .i64 cap, x11, x12, x13, x14, x15, x16, x17], []⟩ : Act) := by kernel_rfl
    have l1 : (#[false, false, true, true, true, true, false, false, false] : Array Bool).setIfInBounds 6 true = (#[false, false, true, true, true, true, true, false, false] : Array Bool) := by kernel_rfl
    rw [e1, l1]
    clear e1 l1
    exact dx1_6 db fb x y cap s1  w R hQ hb H45 hc hf h (u) hS1 (q9)
set_option maxHeartbeats 16000000 in
theorem dx1 (db fb : Nat) (x y : ByteArray) (cap s1 : Int) {x1 x2 x4 x5 x6 x7 x8 x9 x10 x11 x12 x13 x14 x15 x16 x17 : Value} (w : World) (R : Exit → Act → World → Prop) (hQ : ∀ c a d v w, R (.panic c) (a.put d v) w → R (.panic c) a w) (hb : decide (cap < s1) = true) (H45 : ∀ u, Q w u → Calls Try.prog 45 #[.agg #[.string x, .string y]] u fun e v => e = .returned (.int .i64 s1) ∧ Q w v ∧ KU u v)
    (hc : ∀ u, Q w u → u.cell? ⟨db, 3, none⟩ = some (.int .i64 cap)) (hf : ∀ u, Q w u → FB u fb x y) (hS : (fun _ => True) w)
    (h : ∀ (a : Act) (v : World), a.defers = [] → Q w v → R (.panic [refP 161]) a v) :
    (Code.region 1 (RofN Try.f37 1) true).wp Try.prog R (⟨#[.pointer (some ⟨db, 0, none⟩), x1, x2, .pointer (some ⟨fb, 0, none⟩), x4, x5, x6, x7, x8, x9, x10, x11, x12, x13, x14, x15, x16, x17], []⟩ : Act) w := by
  refine wp_region_held (S := (fun _ => True)) (by kernel_rfl) ?_
  have hsz : (RofN Try.f37 1).size = 9 := by kernel_rfl
  rw [hsz]
  have hS0 : (fun _ => True) w.drew := KU.s hS (show KU w w.drew from trivial)
  refine chn_take (by kernel_rfl) hQ hS0 5 (dx1g0z db fb x y cap s1 ) _ _ (dx1g0 db fb x y cap s1  w hb H45 hc hf) ?_
  have e0 : putL (RofN Try.f37 1) (dx1g0z db fb x y cap s1 ) (⟨#[.pointer (some ⟨db, 0, none⟩), x1, x2, .pointer (some ⟨fb, 0, none⟩), x4, x5, x6, x7, x8, x9, x10, x11, x12, x13, x14, x15, x16, x17], []⟩ : Act) = (⟨#[.pointer (some ⟨db, 0, none⟩), x1, x2, .pointer (some ⟨fb, 0, none⟩), x4, x5, .pointer (some ⟨db, 0, none⟩), .pointer (some ⟨db, 0, none⟩), .pointer (some ⟨db, 3, none⟩), .pointer (some ⟨db, 3, none⟩), x10, x11, x12, x13, x14, x15, x16, x17], []⟩ : Act) := by kernel_rfl
  have l0 : setL (dx1g0z db fb x y cap s1 ) (Array.replicate 9 false) = (#[false, false, true, true, true, true, false, false, false] : Array Bool) := by kernel_rfl
  rw [e0, l0]
  clear e0 l0
  exact dx1_o db fb x y cap s1 w R hQ hb H45 hc hf h _ hS0 ((Q.refl w).drew)
def di2g0z (db fb : Nat) (x y : ByteArray)  : List (Nat × Value) := [(0, .pointer (some ⟨db, 0, none⟩)), (1, .pointer (some ⟨db, 0, none⟩)), (2, .pointer (some ⟨db, 3, none⟩))]
set_option maxHeartbeats 8000000 in
theorem di2g0 (db fb : Nat) (x y : ByteArray)  {x1 x2 x4 x5 x6 x7 x8 x9 x10 x11 x12 x13 x14 x15 x16 x17 : Value} (w : World) (Y : World → World → Prop) (hf : ∀ u, Q w u → FB u fb x y) (H57 : ∀ u, Q w u → Calls Try.prog 57 #[.pointer (some ⟨db, 3, none⟩), .agg #[.string x, .string y]] u fun e v => e = .returned (.tuple #[]) ∧ Y u v ∧ KU u v) : Chn Try.prog (RofN Try.f37 2) (fun _ => True) (di2g0z db fb x y ) (#[false, false, false, false, false] : Array Bool) (⟨#[.pointer (some ⟨db, 0, none⟩), x1, x2, .pointer (some ⟨fb, 0, none⟩), x4, x5, x6, x7, x8, x9, x10, x11, x12, x13, x14, x15, x16, x17], []⟩ : Act) :=
  ⟨⟨by kernel_rfl, by kernel_rfl, by kernel_rfl, by kernel_rfl, fun u h => by kernel_rfl⟩,
    ⟨by kernel_rfl, by kernel_rfl, by kernel_rfl, by kernel_rfl, fun u h => by kernel_rfl⟩,
    ⟨by kernel_rfl, by kernel_rfl, by kernel_rfl, by kernel_rfl, fun u h => by kernel_rfl⟩,
    trivial⟩
set_option maxHeartbeats 16000000 in
theorem di2_3_4 (db fb : Nat) (x y : ByteArray)   {x1 x2 x4 x5 x6 x7 x8 x9 x10 x11 x12 : Value} (w : World) (R : Exit → Act → World → Prop) (hQ : ∀ c a d v w, R (.panic c) (a.put d v) w → R (.panic c) a w) (Y : World → World → Prop) (hf : ∀ u, Q w u → FB u fb x y) (H57 : ∀ u, Q w u → Calls Try.prog 57 #[.pointer (some ⟨db, 3, none⟩), .agg #[.string x, .string y]] u fun e v => e = .returned (.tuple #[]) ∧ Y u v ∧ KU u v)
    (h : ∀ u v, Q w u → Y u v → R .normal (⟨#[.pointer (some ⟨db, 0, none⟩), x1, x2, .pointer (some ⟨fb, 0, none⟩), x4, x5, x6, x7, x8, x9, x10, x11, x12, .pointer (some ⟨db, 0, none⟩), .pointer (some ⟨db, 0, none⟩), .pointer (some ⟨db, 3, none⟩), .agg #[.string x, .string y], .tuple #[]], []⟩ : Act) v) (u : World) (hS : (fun _ => True) u) (z9 : ∃ u0, Q w u0 ∧ Y u0 u) :
    wpAnyH Try.prog .any (RofN Try.f37 2) R (fun _ => True) 0 (#[true, true, true, true, true] : Array Bool) (⟨#[.pointer (some ⟨db, 0, none⟩), x1, x2, .pointer (some ⟨fb, 0, none⟩), x4, x5, x6, x7, x8, x9, x10, x11, x12, .pointer (some ⟨db, 0, none⟩), .pointer (some ⟨db, 0, none⟩), .pointer (some ⟨db, 3, none⟩), .agg #[.string x, .string y], .tuple #[]], []⟩ : Act) u := by
  refine wpAnyH_done (by kernel_rfl) ?_ _
  exact by obtain ⟨u0, k0, y0⟩ := z9; exact h u0 u k0 y0
set_option maxHeartbeats 16000000 in
theorem di2_3 (db fb : Nat) (x y : ByteArray)  {x1 x2 x4 x5 x6 x7 x8 x9 x10 x11 x12 x17 : Value} (w : World) (R : Exit → Act → World → Prop) (hQ : ∀ c a d v w, R (.panic c) (a.put d v) w → R (.panic c) a w) (Y : World → World → Prop) (hf : ∀ u, Q w u → FB u fb x y) (H57 : ∀ u, Q w u → Calls Try.prog 57 #[.pointer (some ⟨db, 3, none⟩), .agg #[.string x, .string y]] u fun e v => e = .returned (.tuple #[]) ∧ Y u v ∧ KU u v)
    (h : ∀ u v, Q w u → Y u v → R .normal (⟨#[.pointer (some ⟨db, 0, none⟩), x1, x2, .pointer (some ⟨fb, 0, none⟩), x4, x5, x6, x7, x8, x9, x10, x11, x12, .pointer (some ⟨db, 0, none⟩), .pointer (some ⟨db, 0, none⟩), .pointer (some ⟨db, 3, none⟩), .agg #[.string x, .string y], .tuple #[]], []⟩ : Act) v) (u : World) (hS : (fun _ => True) u) (q9 : Q w u) :
    wpAnyH Try.prog .any (RofN Try.f37 2) R (fun _ => True) 1 (#[true, true, true, true, false] : Array Bool) (⟨#[.pointer (some ⟨db, 0, none⟩), x1, x2, .pointer (some ⟨fb, 0, none⟩), x4, x5, x6, x7, x8, x9, x10, x11, x12, .pointer (some ⟨db, 0, none⟩), .pointer (some ⟨db, 0, none⟩), .pointer (some ⟨db, 3, none⟩), .agg #[.string x, .string y], x17], []⟩ : Act) u := by
  refine wpAnyH_one (i := 4) (by kernel_rfl) ?_
  refine wpOp_callx (some 17) (by kernel_rfl) (by kernel_rfl) (by kernel_rfl) 57 #[.pointer (some ⟨db, 3, none⟩), .agg #[.string x, .string y]] (by kernel_rfl) (H57 u q9) ?_
  rintro e v ⟨rfl, y9, q0⟩
  have q0 : KU u v := q0
  have hS1 : (fun _ => True) v := KU.s hS q0
  refine ⟨_, rfl, hS1, ?_⟩
  have e1 : (⟨#[.pointer (some ⟨db, 0, none⟩), x1, x2, .pointer (some ⟨fb, 0, none⟩), x4, x5, x6, x7, x8, x9, x10, x11, x12, .pointer (some ⟨db, 0, none⟩), .pointer (some ⟨db, 0, none⟩), .pointer (some ⟨db, 3, none⟩), .agg #[.string x, .string y], x17], []⟩ : Act).put (some 17) (.tuple #[]) = (⟨#[.pointer (some ⟨db, 0, none⟩), x1, x2, .pointer (some ⟨fb, 0, none⟩), x4, x5, x6, x7, x8, x9, x10, x11, x12, .pointer (some ⟨db, 0, none⟩), .pointer (some ⟨db, 0, none⟩), .pointer (some ⟨db, 3, none⟩), .agg #[.string x, .string y], .tuple #[]], []⟩ : Act) := by kernel_rfl
  have l1 : (#[true, true, true, true, false] : Array Bool).setIfInBounds 4 true = (#[true, true, true, true, true] : Array Bool) := by kernel_rfl
  rw [e1, l1]
  clear e1 l1
  exact di2_3_4 db fb x y  w R hQ Y hf H57 h v hS1 (⟨_, q9, y9⟩)
set_option maxHeartbeats 16000000 in
theorem di2_o (db fb : Nat) (x y : ByteArray)  {x1 x2 x4 x5 x6 x7 x8 x9 x10 x11 x12 x16 x17 : Value} (w : World) (R : Exit → Act → World → Prop) (hQ : ∀ c a d v w, R (.panic c) (a.put d v) w → R (.panic c) a w) (Y : World → World → Prop) (hf : ∀ u, Q w u → FB u fb x y) (H57 : ∀ u, Q w u → Calls Try.prog 57 #[.pointer (some ⟨db, 3, none⟩), .agg #[.string x, .string y]] u fun e v => e = .returned (.tuple #[]) ∧ Y u v ∧ KU u v)
    (h : ∀ u v, Q w u → Y u v → R .normal (⟨#[.pointer (some ⟨db, 0, none⟩), x1, x2, .pointer (some ⟨fb, 0, none⟩), x4, x5, x6, x7, x8, x9, x10, x11, x12, .pointer (some ⟨db, 0, none⟩), .pointer (some ⟨db, 0, none⟩), .pointer (some ⟨db, 3, none⟩), .agg #[.string x, .string y], .tuple #[]], []⟩ : Act) v) (u : World) (hS : (fun _ => True) u) (q9 : Q w u) :
    wpAnyH Try.prog .any (RofN Try.f37 2) R (fun _ => True) 2 (#[true, true, true, false, false] : Array Bool) (⟨#[.pointer (some ⟨db, 0, none⟩), x1, x2, .pointer (some ⟨fb, 0, none⟩), x4, x5, x6, x7, x8, x9, x10, x11, x12, .pointer (some ⟨db, 0, none⟩), .pointer (some ⟨db, 0, none⟩), .pointer (some ⟨db, 3, none⟩), x16, x17], []⟩ : Act) u := by
  refine wpAnyH_one (i := 3) (by kernel_rfl) ?_
  have hc : (execOp (⟨#[.pointer (some ⟨db, 0, none⟩), x1, x2, .pointer (some ⟨fb, 0, none⟩), x4, x5, x6, x7, x8, x9, x10, x11, x12, .pointer (some ⟨db, 0, none⟩), .pointer (some ⟨db, 0, none⟩), .pointer (some ⟨db, 3, none⟩), x16, x17], []⟩ : Act).eval (((RofN Try.f37 2)[3]?).getD default)).run Try.prog u = .ok (.value (.agg #[.string x, .string y])) (u) := (ld_any 23 (.tmp 3) fb 0 (by kernel_rfl) (by kernel_rfl) (ldF (hf u q9)))
  refine wpOp_val (some 16) (by kernel_rfl) (by kernel_rfl) (by kernel_rfl) hc ?_
  clear hc
  have hS1 : (fun _ => True) (u) := trivial
  refine ⟨hS1, ?_⟩
  have e1 : (⟨#[.pointer (some ⟨db, 0, none⟩), x1, x2, .pointer (some ⟨fb, 0, none⟩), x4, x5, x6, x7, x8, x9, x10, x11, x12, .pointer (some ⟨db, 0, none⟩), .pointer (some ⟨db, 0, none⟩), .pointer (some ⟨db, 3, none⟩), x16, x17], []⟩ : Act).put (some 16) (.agg #[.string x, .string y]) = (⟨#[.pointer (some ⟨db, 0, none⟩), x1, x2, .pointer (some ⟨fb, 0, none⟩), x4, x5, x6, x7, x8, x9, x10, x11, x12, .pointer (some ⟨db, 0, none⟩), .pointer (some ⟨db, 0, none⟩), .pointer (some ⟨db, 3, none⟩), .agg #[.string x, .string y], x17], []⟩ : Act) := by kernel_rfl
  have l1 : (#[true, true, true, false, false] : Array Bool).setIfInBounds 3 true = (#[true, true, true, true, false] : Array Bool) := by kernel_rfl
  rw [e1, l1]
  clear e1 l1
  exact di2_3 db fb x y  w R hQ Y hf H57 h (u) hS1 (q9)
set_option maxHeartbeats 16000000 in
theorem di2 (db fb : Nat) (x y : ByteArray) {x1 x2 x4 x5 x6 x7 x8 x9 x10 x11 x12 x13 x14 x15 x16 x17 : Value} (w : World) (R : Exit → Act → World → Prop) (hQ : ∀ c a d v w, R (.panic c) (a.put d v) w → R (.panic c) a w) (Y : World → World → Prop) (hf : ∀ u, Q w u → FB u fb x y) (H57 : ∀ u, Q w u → Calls Try.prog 57 #[.pointer (some ⟨db, 3, none⟩), .agg #[.string x, .string y]] u fun e v => e = .returned (.tuple #[]) ∧ Y u v ∧ KU u v) (hS : (fun _ => True) w)
    (h : ∀ u v, Q w u → Y u v → R .normal (⟨#[.pointer (some ⟨db, 0, none⟩), x1, x2, .pointer (some ⟨fb, 0, none⟩), x4, x5, x6, x7, x8, x9, x10, x11, x12, .pointer (some ⟨db, 0, none⟩), .pointer (some ⟨db, 0, none⟩), .pointer (some ⟨db, 3, none⟩), .agg #[.string x, .string y], .tuple #[]], []⟩ : Act) v) :
    (Code.region 2 (RofN Try.f37 2) true).wp Try.prog R (⟨#[.pointer (some ⟨db, 0, none⟩), x1, x2, .pointer (some ⟨fb, 0, none⟩), x4, x5, x6, x7, x8, x9, x10, x11, x12, x13, x14, x15, x16, x17], []⟩ : Act) w := by
  refine wp_region_held (S := (fun _ => True)) (by kernel_rfl) ?_
  have hsz : (RofN Try.f37 2).size = 5 := by kernel_rfl
  rw [hsz]
  have hS0 : (fun _ => True) w.drew := KU.s hS (show KU w w.drew from trivial)
  refine chn_take (by kernel_rfl) hQ hS0 2 (di2g0z db fb x y ) _ _ (di2g0 db fb x y  w Y hf H57) ?_
  have e0 : putL (RofN Try.f37 2) (di2g0z db fb x y ) (⟨#[.pointer (some ⟨db, 0, none⟩), x1, x2, .pointer (some ⟨fb, 0, none⟩), x4, x5, x6, x7, x8, x9, x10, x11, x12, x13, x14, x15, x16, x17], []⟩ : Act) = (⟨#[.pointer (some ⟨db, 0, none⟩), x1, x2, .pointer (some ⟨fb, 0, none⟩), x4, x5, x6, x7, x8, x9, x10, x11, x12, .pointer (some ⟨db, 0, none⟩), .pointer (some ⟨db, 0, none⟩), .pointer (some ⟨db, 3, none⟩), x16, x17], []⟩ : Act) := by kernel_rfl
  have l0 : setL (di2g0z db fb x y ) (Array.replicate 5 false) = (#[true, true, true, false, false] : Array Bool) := by kernel_rfl
  rw [e0, l0]
  clear e0 l0
  exact di2_o db fb x y w R hQ Y hf H57 h _ hS0 ((Q.refl w).drew)
set_option maxHeartbeats 8000000 in
theorem dins_ok (db : Nat) (D : Dk) (es : List Fd) (f : Fd) (w : World) (h : DI w db D es) (hs : D.sz = sumF es) (hc : szF f ≤ D.cap) (hb : sumF es ≤ 100000000) (hcb : D.cap ≤ 100000000) (hg : D.gone + es.length ≤ 140737488355328) :
    Calls Try.prog 37 #[.pointer (some ⟨db, 0, none⟩), .agg #[.string f.1, .string f.2]] w fun e w' => e = .returned (.tuple #[]) ∧ ∃ e', TbS w db D (shrL (D.cap - szF f) D.gone es).1 ((shrL (D.cap - szF f) D.gone es).2 ++ [f]) w' e' := by
  have hsf := szF_pos f
  have hf1 : (f.1.size : Int) ≤ 1000000000 := by unfold szF at *; omega
  have hf2 : (f.2.size : Int) ≤ 1000000000 := by unfold szF at *; omega
  have HH := hid h
  have HQ0 := hid ((Q.refl w).alloc (.cells #[.string f.1, .string f.2] 23))
  have HF0 := hid (heap_alloc_new w (.cells #[.string f.1, .string f.2] 23))
  have HIN := hid (fun u (k : Q w u) => insert_any db D es f u (h.q k) hs hc hb hcb hg)
  clear h hs
  go_enter Try.func37, Try.ntmps37
  go_wp2_with fail
  generalize hW : World.alloc w _ = W0 at *
  clear hW
  generalize hR : Code.region 1 _ true = CC
  have eR : CC = Code.region 1 (RofN Try.f37 1) true := hR.symm.trans (by kernel_rfl)
  clear hR
  subst eR
  refine wp_region_noPanic ?_
  refine di1 db w.heap.size f.1 f.2 D.cap (szF f) W0 _ (fun c a d v w h => h) (by simp; omega)
    (fun u q => (sizeF_any f.1 f.2 u (by omega) (by omega)).mono (by rintro e v ⟨rfl, q2⟩; exact ⟨rfl, q.trans q2, trivial⟩))
    (fun u q => ((HH.out.q HQ0.out).q q).c 3 _ rfl) (fun u q => blk_q q HF0.out) trivial ?_
  intro u qu
  refine NoPanic.normal ?_
  refine ‹∀ a w, Code.wp Try.prog _ _ a w → _› _ _ ?_
  have QU := hid (HQ0.out.trans qu)
  have FU := hid (blk_q qu HF0.out)
  clear qu
  go_wp2_with fail
  generalize hR : Code.region 2 _ true = CC
  have eR : CC = Code.region 2 (RofN Try.f37 2) true := hR.symm.trans (by kernel_rfl)
  clear hR
  subst eR
  refine wp_region_noPanic ?_
  refine di2 db w.heap.size f.1 f.2 u _ (fun c a d v w h => h) (fun u v => ∃ e', TbS u db D (shrL (D.cap - szF f) D.gone es).1 ((shrL (D.cap - szF f) D.gone es).2 ++ [f]) v e') (fun u q => blk_q q FU.out)
    (fun u1 q => (HIN.out u1 (QU.out.trans q)).mono (by rintro e v ⟨rfl, hh⟩; exact ⟨rfl, hh, trivial⟩)) trivial ?_
  rintro u1 v q1 ⟨e', ht⟩
  have QV := QU.out.trans q1
  refine NoPanic.normal ?_
  go_end0
  exact ⟨rfl, e', ht.i, (Keep.ofQ QV).trans ht.k, fun b e => (ht.b b e).imp id (fun h => Nat.le_trans QV.size h)⟩
set_option maxHeartbeats 8000000 in
theorem dins_bad (db : Nat) (D : Dk) (es : List Fd) (f : Fd) (w : World) (h : DI w db D es) (hc : D.cap < szF f) (hf1 : (f.1.size : Int) ≤ 1000000000) (hf2 : (f.2.size : Int) ≤ 1000000000) :
    Calls Try.prog 37 #[.pointer (some ⟨db, 0, none⟩), .agg #[.string f.1, .string f.2]] w fun e w' => e = .panicked [refP 161] ∧ Q w w' := by
  have HH := hid h
  have HQ0 := hid ((Q.refl w).alloc (.cells #[.string f.1, .string f.2] 23))
  have HF0 := hid (heap_alloc_new w (.cells #[.string f.1, .string f.2] 23))
  clear h
  go_enter Try.func37, Try.ntmps37
  go_wp2_with fail
  generalize hW : World.alloc w _ = W0 at *
  clear hW
  generalize hR : Code.region 1 _ true = CC
  have eR : CC = Code.region 1 (RofN Try.f37 1) true := hR.symm.trans (by kernel_rfl)
  clear hR
  subst eR
  refine dx1 db w.heap.size f.1 f.2 D.cap (szF f) W0 _ (by intro c a d v w h; cases d <;> exact h) (by simp; omega)
    (fun u q => (sizeF_any f.1 f.2 u (by omega) (by omega)).mono (by rintro e v ⟨rfl, q2⟩; exact ⟨rfl, q.trans q2, trivial⟩))
    (fun u q => ((HH.out.q HQ0.out).q q).c 3 _ rfl) (fun u q => blk_q q HF0.out) trivial (fun a v ha q => ⟨ha, rfl, HQ0.out.trans q⟩)
end Go.Proofs.Ytehejibllkmflaa
