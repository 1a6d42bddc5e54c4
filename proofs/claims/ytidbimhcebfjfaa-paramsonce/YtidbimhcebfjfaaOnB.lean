/-
  The last comparison of the law that reads twice: a region that draws its order, with six calls.
-/
import Derived.Test.YtidbimhcebfjfaaOnM
import Derived.Test.YtidbimhcebfjfaaCpS
namespace Go.Proofs.Ytidbimhcebfjfaa
open Go.RowKit
set_option linter.unusedVariables false
set_option maxRecDepth 20000

abbrev D6 (a : Option Addr) (n c g : Nat) (x : Sv) (xb yb : Nat) (srv : Bool) (M M2 : Pm) (s1 s2 s3 : Nat → Sv) (at1 at2 : Int) : List Value :=
  [.slice a n c, .bool srv, undef, undef, .bool false, .pointer (some ⟨xb, 0, none⟩), .int .i64 at1, .int .i64 0, .slice x.a x.n x.c, .int .i64 0, .pointer (some ⟨yb, 0, none⟩), .int .i64 at2, .int .i64 0,
    .tuple #[.agg (pc M s1), .int .i64 at1, .int .i64 0], .slice a n c, .slice (some ⟨g, 0, none⟩) n n, .bool srv, .tuple #[.agg (pc M s1), .int .i64 at1, .int .i64 0], .agg (pc M s1), .int .i64 at1, .int .i64 0, .int .i64 0, .bool false,
    undef, undef, undef, undef, undef, undef, undef, undef, undef, undef, undef, undef, undef, undef, undef, undef, undef,
    .tuple #[.slice x.a x.n x.c, .int .i64 0], .agg (pc M s1), .agg (pc M s3), .bool srv, .tuple #[.slice x.a x.n x.c, .int .i64 0], .slice x.a x.n x.c, .int .i64 0,
    .tuple #[.agg (pc M2 s2), .int .i64 at2, .int .i64 0], .slice x.a x.n x.c, .bool srv, .tuple #[.agg (pc M2 s2), .int .i64 at2, .int .i64 0], .agg (pc M2 s2), .int .i64 at2, .int .i64 0]
def SO (w : World) (xb yb : Nat) (M M2 : Pm) (s1 s2 : Nat → Sv) (u : World) : Prop := Q w u ∧ PB u xb M s1 ∧ PB u yb M2 s2
theorem so_q {w : World} {xb yb : Nat} {M M2 : Pm} {s1 s2 : Nat → Sv} {u v : World} (h : SO w xb yb M M2 s1 s2 u) (q : Q u v) : SO w xb yb M M2 s1 s2 v := ⟨h.1.trans q, h.2.1.q q, h.2.2.q q⟩
def m1 (srv : Bool) (M : Pm) (s1 : Nat → Sv) : List (Nat × Value) := [(0, .int .i64 0), (1, .bool true), (2, .bool true), (3, .int .i64 0), (4, .bool true), (5, .bool true), (6, .bool true), (7, .agg (pc M s1)), (9, .bool srv)]
def m2 (M M2 : Pm) (s1 s2 : Nat → Sv) : List (Nat × Value) := [(11, .bool true), (12, .bool true), (13, .bool true), (14, .agg (pc M s1)), (16, .agg (pc M2 s2))]
def m3 : List (Nat × Value) := [(19, .bool true), (20, .bool true)]
def m4 : List (Nat × Value) := [(22, .bool true), (23, .bool true)]
section
variable (a : Option Addr) (n c g : Nat) (x : Sv) (xb yb : Nat) (srv : Bool) (M M2 : Pm) (s1 s2 s3 s4 : Nat → Sv) (at1 at2 : Int)
abbrev B60 : Act := actO (D6 a n c g x xb yb srv M M2 s1 s2 s3 at1 at2) 23
abbrev B61 (f : Func) : Act := putL (RofN f 6) (m1 srv M s1) (B60 a n c g x xb yb srv M M2 s1 s2 s3 at1 at2)
abbrev B62 (f : Func) : Act := ((B61 a n c g x xb yb srv M M2 s1 s2 s3 at1 at2 f).put (some 62) (.agg (pc M s4))).put (some 64) (.int .i64 0)
abbrev B63 (f : Func) : Act := (((putL (RofN f 6) (m2 M M2 s1 s2) (B62 a n c g x xb yb srv M M2 s1 s2 s3 s4 at1 at2 f)).put (some 69) (.agg (rc (nrm M) (nrS s1)))).put (some 71) (.agg (rc (nrm M2) (nrS s2)))).put (some 72) (.bool true)
abbrev B64 (f : Func) : Act := (putL (RofN f 6) m3 (B63 a n c g x xb yb srv M M2 s1 s2 s3 s4 at1 at2 f)).put (some 75) (.bool true)
abbrev K1 : Array Bool := ((setL (m1 srv M s1) (Array.replicate 24 false)).setIfInBounds 8 true).setIfInBounds 10 true
abbrev K2 : Array Bool := (((setL (m2 M M2 s1 s2) (K1 srv M s1)).setIfInBounds 15 true).setIfInBounds 17 true).setIfInBounds 18 true
abbrev K3 : Array Bool := (setL m3 (K2 srv M M2 s1 s2)).setIfInBounds 21 true
theorem j1 (w : World) : Chn Try.prog (RofN Try.f6 6) (SO w xb yb M M2 s1 s2) (m1 srv M s1) (Array.replicate 24 false) (B60 a n c g x xb yb srv M M2 s1 s2 s3 at1 at2) :=
  ⟨⟨by kernel_rfl, by kernel_rfl, by kernel_rfl, by kernel_rfl, fun w h => by kernel_rfl⟩,
    ⟨by kernel_rfl, by kernel_rfl, by kernel_rfl, by kernel_rfl, fun w h => by kernel_rfl⟩,
    ⟨by kernel_rfl, by kernel_rfl, by kernel_rfl, by kernel_rfl, fun w h => by kernel_rfl⟩,
    ⟨by kernel_rfl, by kernel_rfl, by kernel_rfl, by kernel_rfl, fun w h => by kernel_rfl⟩,
    ⟨by kernel_rfl, by kernel_rfl, by kernel_rfl, by kernel_rfl, fun w h => by kernel_rfl⟩,
    ⟨by kernel_rfl, by kernel_rfl, by kernel_rfl, by kernel_rfl, fun w h => by kernel_rfl⟩,
    ⟨by kernel_rfl, by kernel_rfl, by kernel_rfl, by kernel_rfl, fun w h => by kernel_rfl⟩,
    ⟨by kernel_rfl, by kernel_rfl, by kernel_rfl, by kernel_rfl, fun w h => ld24 (.tmp 5) xb M s1 (by kernel_rfl) (by kernel_rfl) h.2.1⟩,
    ⟨by kernel_rfl, by kernel_rfl, by kernel_rfl, by kernel_rfl, fun w h => by kernel_rfl⟩,
    trivial⟩
theorem j2 (w : World) : Chn Try.prog (RofN Try.f6 6) (SO w xb yb M M2 s1 s2) (m2 M M2 s1 s2) (K1 srv M s1) (B62 a n c g x xb yb srv M M2 s1 s2 s3 s4 at1 at2 Try.f6) :=
  ⟨⟨by kernel_rfl, by kernel_rfl, by kernel_rfl, by kernel_rfl, fun w h => by kernel_rfl⟩,
    ⟨by kernel_rfl, by kernel_rfl, by kernel_rfl, by kernel_rfl, fun w h => by kernel_rfl⟩,
    ⟨by kernel_rfl, by kernel_rfl, by kernel_rfl, by kernel_rfl, fun w h => by kernel_rfl⟩,
    ⟨by kernel_rfl, by kernel_rfl, by kernel_rfl, by kernel_rfl, fun w h => ld24 (.tmp 5) xb M s1 (by kernel_rfl) (by kernel_rfl) h.2.1⟩,
    ⟨by kernel_rfl, by kernel_rfl, by kernel_rfl, by kernel_rfl, fun w h => ld24 (.tmp 10) yb M2 s2 (by kernel_rfl) (by kernel_rfl) h.2.2⟩,
    trivial⟩
theorem j3 (w : World) : Chn Try.prog (RofN Try.f6 6) (SO w xb yb M M2 s1 s2) m3 (K2 srv M M2 s1 s2) (B63 a n c g x xb yb srv M M2 s1 s2 s3 s4 at1 at2 Try.f6) :=
  ⟨⟨by kernel_rfl, by kernel_rfl, by kernel_rfl, by kernel_rfl, fun w h => by kernel_rfl⟩,
    ⟨by kernel_rfl, by kernel_rfl, by kernel_rfl, by kernel_rfl, fun w h => by kernel_rfl⟩,
    trivial⟩
theorem j4 (w : World) : Chn Try.prog (RofN Try.f6 6) (SO w xb yb M M2 s1 s2) m4 (K3 srv M M2 s1 s2) (B64 a n c g x xb yb srv M M2 s1 s2 s3 s4 at1 at2 Try.f6) :=
  ⟨⟨by kernel_rfl, by kernel_rfl, by kernel_rfl, by kernel_rfl, fun w h => by kernel_rfl⟩,
    ⟨by kernel_rfl, by kernel_rfl, by kernel_rfl, by kernel_rfl, fun w h => by kernel_rfl⟩,
    trivial⟩

set_option maxHeartbeats 4000000 in
/-- The region: true. -/
theorem rgO (w : World) (R : Exit → Act → World → Prop) (hS : SO w xb yb M M2 s1 s2 w) (hQ : ∀ c a d v w, R (.panic c) (a.put d v) w → R (.panic c) a w)
    (HC : ∀ W, Q w W → Calls Try.prog 8 #[.agg (pc M s1)] W fun e w' => ∃ s', e = .returned (.agg (pc M s')) ∧ Q W w' ∧ By w' M s')
    (HK : ∀ W s', By W M s' → Calls Try.prog 9 #[.agg (pc M s'), .bool srv] W fun e w' => e = .returned (.int .i64 0) ∧ Q W w')
    (HS : ∀ W, Q w W → Calls Try.prog 15 #[.agg (rc (nrm M) (nrS s1)), .agg (rc (nrm M2) (nrS s2))] W fun e w' => e = .returned (.bool true) ∧ Q W w')
    (h : ∀ (A : Act) (W : World), A.defers = [] → A.tmps.getD 4 undef = .bool true → Q w W → R .normal A W) :
    (Code.region 6 (RofN Try.f6 6) true).wp Try.prog R (B60 a n c g x xb yb srv M M2 s1 s2 s3 at1 at2) w := by
  refine wp_region_held (S := SO w xb yb M M2 s1 s2) (by kernel_rfl) ?_
  have hsz : (RofN Try.f6 6).size = 24 := by kernel_rfl
  rw [hsz]
  have hS1 : SO w xb yb M M2 s1 s2 w.drew := so_q hS ((Q.refl w).drew)
  refine chn_take (by kernel_rfl) hQ hS1 15 (m1 srv M s1) _ _ (j1 a n c g x xb yb srv M M2 s1 s2 s3 at1 at2 w) ?_
  generalize hA : putL _ _ _ = AA
  generalize hLL : setL _ _ = LL
  have hr8 : Region.ready .any (RofN Try.f6 6) (LL) = [8] := by rw [← hLL]; kernel_rfl
  have hw8 : Region.wanted (((RofN Try.f6 6)[8]?).getD default) (yielded (RofN Try.f6 6) (AA).tmps) = true := by rw [← hA]; kernel_rfl
  have hc8 : (execOp (AA).eval (((RofN Try.f6 6)[8]?).getD default)).run Try.prog w.drew = .ok (.enter 8 #[.agg (pc M s1)]) w.drew := by rw [← hA]; kernel_rfl
  refine wpAnyH_one (i := 8) hr8 ?_
  refine wpOp_callx (some 62) (by kernel_rfl) (by kernel_rfl) hw8 8 #[.agg (pc M s1)] hc8 (HC w.drew hS1.1) ?_
  rintro e w1 ⟨s4, rfl, q1, b1⟩
  have hS2 := so_q hS1 q1
  refine ⟨_, rfl, hS2, ?_⟩
  have hr10 : Region.ready .any (RofN Try.f6 6) (LL.setIfInBounds 8 true) = [10] := by rw [← hLL]; kernel_rfl
  have hw10 : Region.wanted (((RofN Try.f6 6)[10]?).getD default) (yielded (RofN Try.f6 6) (AA.put (some 62) (.agg (pc M s4))).tmps) = true := by rw [← hA]; kernel_rfl
  have hc10 : (execOp (AA.put (some 62) (.agg (pc M s4))).eval (((RofN Try.f6 6)[10]?).getD default)).run Try.prog w1 = .ok (.enter 9 #[.agg (pc M s4), .bool srv]) w1 := by rw [← hA]; kernel_rfl
  refine wpAnyH_one (i := 10) hr10 ?_
  refine wpOp_call (some 64) (by kernel_rfl) (by kernel_rfl) hw10 9 #[.agg (pc M s4), .bool srv] hc10 (HK w1 s4 b1) (.int .i64 0) ?_
  rintro e w2 ⟨rfl, q2⟩
  have hS3 := so_q hS2 q2
  refine ⟨rfl, hS3, ?_⟩
  have j2' : Chn Try.prog (RofN Try.f6 6) (SO w xb yb M M2 s1 s2) (m2 M M2 s1 s2) ((LL.setIfInBounds 8 true).setIfInBounds 10 true) ((AA.put (some 62) (.agg (pc M s4))).put (some 64) (.int .i64 0)) := by rw [← hA, ← hLL]; exact j2 a n c g x xb yb srv M M2 s1 s2 s3 s4 at1 at2 w
  refine chn_take (by kernel_rfl) hQ hS3 8 (m2 M M2 s1 s2) _ _ j2' ?_
  generalize hA2 : putL _ _ _ = A2
  generalize hL2 : setL _ _ = L2
  have hr15 : Region.ready .any (RofN Try.f6 6) (L2) = [15] := by rw [← hL2, ← hLL]; kernel_rfl
  have hw15 : Region.wanted (((RofN Try.f6 6)[15]?).getD default) (yielded (RofN Try.f6 6) (A2).tmps) = true := by rw [← hA2, ← hA]; kernel_rfl
  have hc15 : (execOp (A2).eval (((RofN Try.f6 6)[15]?).getD default)).run Try.prog w2 = .ok (.enter 12 #[.agg (pc M s1)]) w2 := by rw [← hA2, ← hA]; kernel_rfl
  refine wpAnyH_one (i := 15) hr15 ?_
  refine wpOp_call (some 69) (by kernel_rfl) (by kernel_rfl) hw15 12 #[.agg (pc M s1)] hc15 (of_any M s1 w2) (.agg (rc (nrm M) (nrS s1))) ?_
  rintro e w3 ⟨rfl, q3⟩
  have hS4 := so_q hS3 q3
  refine ⟨rfl, hS4, ?_⟩
  have hr17 : Region.ready .any (RofN Try.f6 6) (L2.setIfInBounds 15 true) = [17] := by rw [← hL2, ← hLL]; kernel_rfl
  have hw17 : Region.wanted (((RofN Try.f6 6)[17]?).getD default) (yielded (RofN Try.f6 6) (A2.put (some 69) (.agg (rc (nrm M) (nrS s1)))).tmps) = true := by rw [← hA2, ← hA]; kernel_rfl
  have hc17 : (execOp (A2.put (some 69) (.agg (rc (nrm M) (nrS s1)))).eval (((RofN Try.f6 6)[17]?).getD default)).run Try.prog w3 = .ok (.enter 12 #[.agg (pc M2 s2)]) w3 := by rw [← hA2, ← hA]; kernel_rfl
  refine wpAnyH_one (i := 17) hr17 ?_
  refine wpOp_call (some 71) (by kernel_rfl) (by kernel_rfl) hw17 12 #[.agg (pc M2 s2)] hc17 (of_any M2 s2 w3) (.agg (rc (nrm M2) (nrS s2))) ?_
  rintro e w4 ⟨rfl, q4⟩
  have hS5 := so_q hS4 q4
  refine ⟨rfl, hS5, ?_⟩
  have hr18 : Region.ready .any (RofN Try.f6 6) ((L2.setIfInBounds 15 true).setIfInBounds 17 true) = [18] := by rw [← hL2, ← hLL]; kernel_rfl
  have hw18 : Region.wanted (((RofN Try.f6 6)[18]?).getD default) (yielded (RofN Try.f6 6) ((A2.put (some 69) (.agg (rc (nrm M) (nrS s1)))).put (some 71) (.agg (rc (nrm M2) (nrS s2)))).tmps) = true := by rw [← hA2, ← hA]; kernel_rfl
  have hc18 : (execOp ((A2.put (some 69) (.agg (rc (nrm M) (nrS s1)))).put (some 71) (.agg (rc (nrm M2) (nrS s2)))).eval (((RofN Try.f6 6)[18]?).getD default)).run Try.prog w4 = .ok (.enter 15 #[.agg (rc (nrm M) (nrS s1)), .agg (rc (nrm M2) (nrS s2))]) w4 := by rw [← hA2, ← hA]; kernel_rfl
  refine wpAnyH_one (i := 18) hr18 ?_
  refine wpOp_call (some 72) (by kernel_rfl) (by kernel_rfl) hw18 15 #[.agg (rc (nrm M) (nrS s1)), .agg (rc (nrm M2) (nrS s2))] hc18 (HS w4 hS5.1) (.bool true) ?_
  rintro e w5 ⟨rfl, q5⟩
  have hS6 := so_q hS5 q5
  refine ⟨rfl, hS6, ?_⟩
  have j3' : Chn Try.prog (RofN Try.f6 6) (SO w xb yb M M2 s1 s2) m3 (((L2.setIfInBounds 15 true).setIfInBounds 17 true).setIfInBounds 18 true) (((A2.put (some 69) (.agg (rc (nrm M) (nrS s1)))).put (some 71) (.agg (rc (nrm M2) (nrS s2)))).put (some 72) (.bool true)) := by rw [← hA2, ← hA, ← hL2, ← hLL]; exact j3 a n c g x xb yb srv M M2 s1 s2 s3 s4 at1 at2 w
  refine chn_take (by kernel_rfl) hQ hS6 3 m3 _ _ j3' ?_
  generalize hA3 : putL _ _ _ = A3
  generalize hL3 : setL _ _ = L3
  have hr21 : Region.ready .any (RofN Try.f6 6) (L3) = [21] := by rw [← hL3, ← hL2, ← hLL]; kernel_rfl
  have hw21 : Region.wanted (((RofN Try.f6 6)[21]?).getD default) (yielded (RofN Try.f6 6) (A3).tmps) = true := by rw [← hA3, ← hA2, ← hA]; kernel_rfl
  have hc21 : (execOp (A3).eval (((RofN Try.f6 6)[21]?).getD default)).run Try.prog w5 = .ok (.enter 13 #[]) w5 := by rw [← hA3, ← hA2, ← hA]; kernel_rfl
  refine wpAnyH_one (i := 21) hr21 ?_
  refine wpOp_call (some 75) (by kernel_rfl) (by kernel_rfl) hw21 13 #[] hc21 (awake_any w5) (.bool true) ?_
  rintro e w6 ⟨rfl, q6⟩
  have hS7 := so_q hS6 q6
  refine ⟨rfl, hS7, ?_⟩
  have j4' : Chn Try.prog (RofN Try.f6 6) (SO w xb yb M M2 s1 s2) m4 (L3.setIfInBounds 21 true) (A3.put (some 75) (.bool true)) := by rw [← hA3, ← hA2, ← hA, ← hL3, ← hL2, ← hLL]; exact j4 a n c g x xb yb srv M M2 s1 s2 s3 s4 at1 at2 w
  have hf1 : Region.ready .any (RofN Try.f6 6) (setL m4 (L3.setIfInBounds 21 true)) = [] := by rw [← hL3, ← hL2, ← hLL]; kernel_rfl
  have hf2 : (putL (RofN Try.f6 6) m4 (A3.put (some 75) (.bool true))).defers = [] := by rw [← hA3, ← hA2, ← hA]; kernel_rfl
  have hf3 : (putL (RofN Try.f6 6) m4 (A3.put (some 75) (.bool true))).tmps.getD 4 undef = .bool true := by rw [← hA3, ← hA2, ← hA]; kernel_rfl
  clear hA hA2 hA3 hLL hL2 hL3
  refine chn_take (by kernel_rfl) hQ hS7 0 m4 _ _ j4' ?_
  refine wpAnyH_done hf1 ?_ _
  exact h _ _ hf2 hf3 hS7.1
end
end Go.Proofs.Ytidbimhcebfjfaa
