/-
  The last comparison of the law on Decode: a region that draws its order, with four calls.
-/
import Derived.Test.YtidbimhcebfjfaaRDw
import Derived.Test.YtidbimhcebfjfaaStdM
namespace Go.Proofs.Ytidbimhcebfjfaa
open Go.RowKit
set_option linter.unusedVariables false
set_option maxRecDepth 20000

theorem wpOp_call {ops : Array Oper} {i : Nat} {a : Act} {w : World} {K : Act → World → Prop} {R : Exit → Act → World → Prop} (d : Option Tmp) (hi : (ops[i]?).isSome = true) (hd : (ops[i]?).bind (·.dst) = d) (hw : Region.wanted ((ops[i]?).getD default) (yielded ops a.tmps) = true)
    (f : FuncId) (args : Array Value) (hr : (execOp a.eval ((ops[i]?).getD default)).run Try.prog w = .ok (.enter f args) w) {R0 : Ending → World → Prop} (hc : Calls Try.prog f args w R0) (v : Value) (hR : ∀ e w', R0 e w' → e = .returned v ∧ K (a.put d v) w') : wpOp Try.prog ops R i K a w := by
  obtain ⟨o, ho⟩ := Option.isSome_iff_exists.1 hi
  rw [ho] at hd hw hr
  unfold wpOp
  simp only [ho]
  have hw' : Region.wanted o (yielded ops a.tmps) = true := hw
  rw [if_pos hw']
  refine .inl ?_
  unfold Oper.wp
  have hr' : (execOp a.eval o).run Try.prog w = .ok (.enter f args) w := hr
  rw [hr']
  have hd' : o.dst = d := hd
  refine hc.mono ?_
  intro e w' h
  obtain ⟨rfl, h2⟩ := hR e w' h
  rw [← hd'] at h2
  exact h2
theorem wpAnyH_one {P : Program} {ops : Array Oper} {Q : Exit → Act → World → Prop} {S : World → Prop} {i fuel : Nat} {L : Array Bool} {a : Act} {w : World} (hr : Region.ready .any ops L = [i])
    (h : wpOp P ops Q i (fun a' w' => S w' ∧ wpAnyH P .any ops Q S fuel (L.setIfInBounds i true) a' w') a w) : wpAnyH P .any ops Q S (fuel + 1) L a w :=
  wpAnyH_all hr (by simp) (fun j hj => by
    have e : j = i := by simpa using hj
    rw [e]; exact h)
theorem run_eql {o : Oper} {a : Act} {w : World} (x y : Operand) (n : Int) (ho : o.op = .binOp .eql 3 x y 3) (hx : a.eval x = .int .i64 n) (hy : a.eval y = .int .i64 n) :
    (execOp a.eval o).run Try.prog w = .ok (.value (.bool true)) w := by
  unfold execOp
  simp only [ho, hx, hy]
  simp [go_sem]
theorem ld24 {o : Oper} {a : Act} {w : World} (x : Operand) (b : Nat) (m : Pm) (s : Nat → Sv) (ho : o.op = .load 24 x) (hx : a.eval x = .pointer (some ⟨b, 0, none⟩)) (h : PB w b m s) : (execOp a.eval o).run Try.prog w = .ok (.value (.agg (pc m s))) w := by
  unfold execOp
  simp only [ho, hx, Instr.loadAt, Instr.sureAddr, Sem.run_bind, Sem.run_pure, Result.andThen_ok, run_loadVar_row (P := Try.prog) w b 24 24 (pc m s) (0, 0) _ h Try.underlying24 rfl info24]
theorem ld36 {o : Oper} {a : Act} {w : World} (x : Operand) (b : Nat) (m : Pm) (s : Nat → Sv) (ho : o.op = .load 36 x) (hx : a.eval x = .pointer (some ⟨b, 0, none⟩)) (h : RB w b (rc m s)) : (execOp a.eval o).run Try.prog w = .ok (.value (.agg (rc m s))) w := by
  unfold execOp
  simp only [ho, hx, Instr.loadAt, Instr.sureAddr, Sem.run_bind, Sem.run_pure, Result.andThen_ok, run_loadVar_row (P := Try.prog) w b 36 36 (rc m s) (0, 0) _ h Try.underlying36 rfl info36]

abbrev D4 (a : Option Addr) (n c g xb yb : Nat) (srv : Bool) (M : Pm) (s1 s2 : Nat → Sv) (at1 er : Int) : List Value :=
  [.slice a n c, .bool srv, undef, undef, .bool false, .slice (some ⟨g, 0, none⟩) n n, .pointer (some ⟨xb, 0, none⟩), .int .i64 at1, .int .i64 er, .pointer (some ⟨yb, 0, none⟩), .int .i64 at1, .int .i64 er, .slice a n c, .slice (some ⟨g, 0, none⟩) n n,
    .tuple #[.agg (pc M s1), .int .i64 at1, .int .i64 er], .slice (some ⟨g, 0, none⟩) n n, .bool srv, .tuple #[.agg (pc M s1), .int .i64 at1, .int .i64 er], .agg (pc M s1), .int .i64 at1, .int .i64 er,
    .tuple #[.agg (rc M s2), .int .i64 at1, .int .i64 er], .slice a n c, .bool srv, .tuple #[.agg (rc M s2), .int .i64 at1, .int .i64 er], .agg (rc M s2), .int .i64 at1, .int .i64 er]
section
variable (a : Option Addr) (n c g xb yb : Nat) (srv : Bool) (M : Pm) (s1 s2 : Nat → Sv) (at1 er : Int)
def SD (w : World) (xb yb : Nat) (M : Pm) (s1 s2 : Nat → Sv) (u : World) : Prop := Q w u ∧ PB u xb M s1 ∧ RB u yb (rc M s2)
theorem sd_q {w : World} {xb yb : Nat} {M : Pm} {s1 s2 : Nat → Sv} {u v : World} (h : SD w xb yb M s1 s2 u) (q : Q u v) : SD w xb yb M s1 s2 v := ⟨h.1.trans q, h.2.1.q q, h.2.2.q q⟩
def l1 (M : Pm) (s1 s2 : Nat → Sv) : List (Nat × Value) := [(1, .bool true), (2, .agg (pc M s1)), (4, .agg (rc M s2))]
def l2 (a : Option Addr) (n c g : Nat) (at1 er : Int) : List (Nat × Value) := [(6, .bool true), (7, .bool true), (8, .int .i64 at1), (9, .int .i64 at1), (10, .bool true), (11, .bool true), (12, .bool true), (13, .int .i64 er), (14, .int .i64 er), (15, .bool true), (16, .bool true), (17, .bool true), (18, .slice (some ⟨g, 0, none⟩) n n), (19, .slice a n c)]
def l3 : List (Nat × Value) := [(21, .bool true), (22, .bool true)]
abbrev A0 : Act := actO (D4 a n c g xb yb srv M s1 s2 at1 er) 22
abbrev A1 : Act := (A0 a n c g xb yb srv M s1 s2 at1 er).put (some 28) (.bool true)
abbrev A2 (f : Func) : Act := (putL (RofN f 4) (l1 M s1 s2) (A1 a n c g xb yb srv M s1 s2 at1 er)).put (some 31) (.agg (rc (nrm M) (nrS s1)))
abbrev A3 (f : Func) : Act := (A2 a n c g xb yb srv M s1 s2 at1 er f).put (some 33) (.bool true)
abbrev A4 (f : Func) : Act := (putL (RofN f 4) (l2 a n c g at1 er) (A3 a n c g xb yb srv M s1 s2 at1 er f)).put (some 48) (.bool true)
abbrev L0 : Array Bool := (Array.replicate 23 false).setIfInBounds 0 true
abbrev L1 : Array Bool := ((setL (l1 M s1 s2) L0).setIfInBounds 3 true).setIfInBounds 5 true
abbrev L2 : Array Bool := (setL (l2 a n c g at1 er) (L1 M s1 s2)).setIfInBounds 20 true
theorem h1 (w : World) : Chn Try.prog (RofN Try.f4 4) (SD w xb yb M s1 s2) (l1 M s1 s2) ((Array.replicate 23 false).setIfInBounds 0 true) (A1 a n c g xb yb srv M s1 s2 at1 er) :=
  ⟨⟨by kernel_rfl, by kernel_rfl, by kernel_rfl, by kernel_rfl, fun w h => by kernel_rfl⟩,
    ⟨by kernel_rfl, by kernel_rfl, by kernel_rfl, by kernel_rfl, fun w h => ld24 (.tmp 6) xb M s1 (by kernel_rfl) (by kernel_rfl) h.2.1⟩,
    ⟨by kernel_rfl, by kernel_rfl, by kernel_rfl, by kernel_rfl, fun w h => ld36 (.tmp 9) yb M s2 (by kernel_rfl) (by kernel_rfl) h.2.2⟩, trivial⟩
theorem h2 (w : World) : Chn Try.prog (RofN Try.f4 4) (SD w xb yb M s1 s2) (l2 a n c g at1 er) (L1 M s1 s2) (A3 a n c g xb yb srv M s1 s2 at1 er Try.f4) :=
  ⟨⟨by kernel_rfl, by kernel_rfl, by kernel_rfl, by kernel_rfl, fun w h => by kernel_rfl⟩,
    ⟨by kernel_rfl, by kernel_rfl, by kernel_rfl, by kernel_rfl, fun w h => by kernel_rfl⟩,
    ⟨by kernel_rfl, by kernel_rfl, by kernel_rfl, by kernel_rfl, fun w h => by kernel_rfl⟩,
    ⟨by kernel_rfl, by kernel_rfl, by kernel_rfl, by kernel_rfl, fun w h => by kernel_rfl⟩,
    ⟨by kernel_rfl, by kernel_rfl, by kernel_rfl, by kernel_rfl, fun w h => run_eql (.tmp 36) (.tmp 37) at1 (by kernel_rfl) (by kernel_rfl) (by kernel_rfl)⟩,
    ⟨by kernel_rfl, by kernel_rfl, by kernel_rfl, by kernel_rfl, fun w h => by kernel_rfl⟩,
    ⟨by kernel_rfl, by kernel_rfl, by kernel_rfl, by kernel_rfl, fun w h => by kernel_rfl⟩,
    ⟨by kernel_rfl, by kernel_rfl, by kernel_rfl, by kernel_rfl, fun w h => by kernel_rfl⟩,
    ⟨by kernel_rfl, by kernel_rfl, by kernel_rfl, by kernel_rfl, fun w h => by kernel_rfl⟩,
    ⟨by kernel_rfl, by kernel_rfl, by kernel_rfl, by kernel_rfl, fun w h => run_eql (.tmp 41) (.tmp 42) er (by kernel_rfl) (by kernel_rfl) (by kernel_rfl)⟩,
    ⟨by kernel_rfl, by kernel_rfl, by kernel_rfl, by kernel_rfl, fun w h => by kernel_rfl⟩,
    ⟨by kernel_rfl, by kernel_rfl, by kernel_rfl, by kernel_rfl, fun w h => by kernel_rfl⟩,
    ⟨by kernel_rfl, by kernel_rfl, by kernel_rfl, by kernel_rfl, fun w h => by kernel_rfl⟩,
    ⟨by kernel_rfl, by kernel_rfl, by kernel_rfl, by kernel_rfl, fun w h => by kernel_rfl⟩, trivial⟩
theorem h3 (w : World) : Chn Try.prog (RofN Try.f4 4) (SD w xb yb M s1 s2) l3 (L2 a n c g M s1 s2 at1 er) (A4 a n c g xb yb srv M s1 s2 at1 er Try.f4) :=
  ⟨⟨by kernel_rfl, by kernel_rfl, by kernel_rfl, by kernel_rfl, fun w h => by kernel_rfl⟩, ⟨by kernel_rfl, by kernel_rfl, by kernel_rfl, by kernel_rfl, fun w h => by kernel_rfl⟩, trivial⟩

set_option maxHeartbeats 4000000 in
/-- The region: true. -/
theorem rgD (w : World) (R : Exit → Act → World → Prop) (hS : SD w xb yb M s1 s2 w) (hQ : ∀ c a d v w, R (.panic c) (a.put d v) w → R (.panic c) a w)
    (HS : ∀ W, Q w W → Calls Try.prog 15 #[.agg (rc (nrm M) (nrS s1)), .agg (rc M s2)] W fun e w' => e = .returned (.bool true) ∧ Q W w')
    (H14 : ∀ W, Q w W → Calls Try.prog 14 #[.slice (some ⟨g, 0, none⟩) n n, .slice a n c] W fun e w' => e = .returned (.bool true) ∧ Q W w')
    (h : ∀ (A : Act) (W : World), A.defers = [] → A.tmps.getD 4 undef = .bool true → Q w W → R .normal A W) :
    (Code.region 4 (RofN Try.f4 4) true).wp Try.prog R (A0 a n c g xb yb srv M s1 s2 at1 er) w := by
  refine wp_region_held (S := SD w xb yb M s1 s2) (by kernel_rfl) ?_
  have hsz : (RofN Try.f4 4).size = 23 := by kernel_rfl
  rw [hsz]
  have hS1 : SD w xb yb M s1 s2 w.drew := sd_q hS ((Q.refl w).drew)
  refine wpAnyH_one (i := 0) (by kernel_rfl) ?_
  refine wpOp_call (some 28) (by kernel_rfl) (by kernel_rfl) (by kernel_rfl) 13 #[] (by kernel_rfl) (awake_any w.drew) (.bool true) ?_
  rintro e w1 ⟨rfl, q1⟩
  have hS2 := sd_q hS1 q1
  refine ⟨rfl, hS2, ?_⟩
  refine chn_take (by kernel_rfl) hQ hS2 19 (l1 M s1 s2) _ _ (h1 a n c g xb yb srv M s1 s2 at1 er w) ?_
  refine wpAnyH_one (i := 3) (by kernel_rfl) ?_
  refine wpOp_call (some 31) (by kernel_rfl) (by kernel_rfl) (by kernel_rfl) 12 #[.agg (pc M s1)] (by kernel_rfl) (of_any M s1 w1) (.agg (rc (nrm M) (nrS s1))) ?_
  rintro e w2 ⟨rfl, q2⟩
  have hS3 := sd_q hS2 q2
  refine ⟨rfl, hS3, ?_⟩
  refine wpAnyH_one (i := 5) (by kernel_rfl) ?_
  refine wpOp_call (some 33) (by kernel_rfl) (by kernel_rfl) (by kernel_rfl) 15 #[.agg (rc (nrm M) (nrS s1)), .agg (rc M s2)] (by kernel_rfl) (HS w2 hS3.1) (.bool true) ?_
  rintro e w3 ⟨rfl, q3⟩
  have hS4 := sd_q hS3 q3
  refine ⟨rfl, hS4, ?_⟩
  refine chn_take (by kernel_rfl) hQ hS4 3 (l2 a n c g at1 er) _ _ (h2 a n c g xb yb srv M s1 s2 at1 er w) ?_
  generalize hA : putL _ _ _ = AA
  generalize hLL : setL _ _ = LL
  have hd0 : AA.defers = [] := by rw [← hA]; kernel_rfl
  have h3' : Chn Try.prog (RofN Try.f4 4) (SD w xb yb M s1 s2) l3 (LL.setIfInBounds 20 true) (AA.put (some 48) (.bool true)) := by rw [← hA, ← hLL]; exact h3 a n c g xb yb srv M s1 s2 at1 er w
  have hf1 : Region.ready .any (RofN Try.f4 4) (setL l3 (LL.setIfInBounds 20 true)) = [] := by rw [← hLL]; kernel_rfl
  have hf2 : (putL (RofN Try.f4 4) l3 (AA.put (some 48) (.bool true))).defers = [] := by rw [← hA]; kernel_rfl
  have hf3 : (putL (RofN Try.f4 4) l3 (AA.put (some 48) (.bool true))).tmps.getD 4 undef = .bool true := by rw [← hA]; kernel_rfl
  have hr20 : Region.ready .any (RofN Try.f4 4) LL = [20] := by rw [← hLL]; kernel_rfl
  have hw20 : Region.wanted (((RofN Try.f4 4)[20]?).getD default) (yielded (RofN Try.f4 4) AA.tmps) = true := by rw [← hA]; kernel_rfl
  have hc20 : (execOp AA.eval (((RofN Try.f4 4)[20]?).getD default)).run Try.prog w3 = .ok (.enter 14 #[.slice (some ⟨g, 0, none⟩) n n, .slice a n c]) w3 := by rw [← hA]; kernel_rfl
  clear hA hLL
  refine wpAnyH_one (i := 20) hr20 ?_
  refine wpOp_call (some 48) (by kernel_rfl) (by kernel_rfl) hw20 14 #[.slice (some ⟨g, 0, none⟩) n n, .slice a n c] hc20 (H14 w3 hS4.1) (.bool true) ?_
  rintro e w4 ⟨rfl, q4⟩
  have hS5 := sd_q hS4 q4
  refine ⟨rfl, hS5, ?_⟩
  refine chn_take (by kernel_rfl) hQ hS5 0 l3 _ _ h3' ?_
  refine wpAnyH_done hf1 ?_ _
  exact h _ _ hf2 hf3 hS5.1
end
end Go.Proofs.Ytidbimhcebfjfaa
