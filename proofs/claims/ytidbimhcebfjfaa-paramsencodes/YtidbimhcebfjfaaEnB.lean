/-
  The last comparison of the law on Check and Encode: a region that draws its order, with nine calls.
-/
import Derived.Test.YtidbimhcebfjfaaREn
import Derived.Test.YtidbimhcebfjfaaCpS
import Derived.Test.YtidbimhcebfjfaaDcB
import Derived.Test.YtidbimhcebfjfaaOnM
namespace Go.Proofs.Ytidbimhcebfjfaa
open Go.RowKit
set_option linter.unusedVariables false
set_option maxRecDepth 20000

def SE (w : World) (tb xb : Nat) (M : Pm) (s s1 : Nat → Sv) (u : World) : Prop := Q w u ∧ PB u tb M s ∧ PB u xb M s1
theorem se_q {w : World} {tb xb : Nat} {M : Pm} {s s1 : Nat → Sv} {u v : World} (h : SE w tb xb M s s1 u) (q : Q u v) : SE w tb xb M s s1 v := ⟨h.1.trans q, h.2.1.q q, h.2.2.q q⟩
/-- The usual values are alike. -/
theorem alike_us (W : World) : Alike W (nrm usM) usM (nrS (fun _ => nilS)) (fun _ => nilS) := by
  refine ⟨fun i h17 => ?_, fun i _ => ?_, fun i _ hh => ?_, rfl⟩
  · have h : ∀ i : Fin 17, (nrm usM).num i.1 = usM.num i.1 := by decide
    exact h ⟨i, h17⟩
  · show (if kd i = 2 ∨ kd i = 3 then false else false) = false
    by_cases h : kd i = 2 ∨ kd i = 3
    · rw [if_pos h]
    · rw [if_neg h]
  · have hh' : (if kd i = 2 ∨ kd i = 3 then false else false) = true := hh
    by_cases h : kd i = 2 ∨ kd i = 3
    · rw [if_pos h] at hh'; cases hh'
    · rw [if_neg h] at hh'; cases hh'
/-- A copy is alike. -/
theorem alike_cp {W : World} {M : Pm} {s1 s2 : Nat → Sv} (b1 : By W M s1) (b2 : By W M s2) (hb : ∀ i, kd i = 2 ∨ kd i = 3 → (M.byt i).length ≤ 140737488355328) : Alike W (nrm M) (nrm M) (nrS s1) (nrS s2) := by
  refine ⟨fun i h17 => rfl, fun i h17 => rfl, fun i h17 hh => ?_, rfl⟩
  have hh' : (if kd i = 2 ∨ kd i = 3 then M.has i else false) = true := hh
  by_cases hk : kd i = 2 ∨ kd i = 3
  · have e1 : nrS s1 i = s1 i := by show (if kd i = 2 ∨ kd i = 3 then s1 i else nilS) = s1 i; rw [if_pos hk]
    have e2 : nrS s2 i = s2 i := by show (if kd i = 2 ∨ kd i = 3 then s2 i else nilS) = s2 i; rw [if_pos hk]
    rw [e1, e2]
    exact ⟨(b1 i hk).1, (b1 i hk).2, (b2 i hk).1, (b2 i hk).2, by rw [← (b1 i hk).2]; exact hb i hk⟩
  · rw [if_neg hk] at hh'; cases hh'
/-- What the document writes of the program's parameters is what the program writes. -/
theorem rgt_nrm (M : Pm) (i : Nat) (srv : Bool) : rgt (nrm M) i srv = rgt M i srv := by
  unfold rgt
  by_cases h1 : kd i = 1
  · rw [if_pos h1, if_pos h1]
    have e : (nrm M).num i = M.num i := by show (if kd i = 1 then M.num i else 0) = _; rw [if_pos h1]
    rw [e]
  · rw [if_neg h1, if_neg h1]
    by_cases h2 : kd i = 2
    · rw [if_pos h2, if_pos h2]
      have e : (nrm M).has i = M.has i := by show (if kd i = 2 ∨ kd i = 3 then M.has i else false) = _; rw [if_pos (.inl h2)]
      rw [e]; rfl
    · rw [if_neg h2, if_neg h2]
      by_cases h3 : kd i = 3
      · rw [if_pos h3, if_pos h3]
        have e : (nrm M).has i = M.has i := by show (if kd i = 2 ∨ kd i = 3 then M.has i else false) = _; rw [if_pos (.inr h3)]
        rw [e]; rfl
      · rw [if_neg h3, if_neg h3]
theorem allR_nrm (M : Pm) (srv : Bool) : allR (nrm M) srv = allR M srv := by
  unfold allR
  congr 1
  funext i
  exact rgt_nrm M i srv
theorem parB_nrm (M : Pm) (i : Nat) (h : kd i ≠ 0) : parB (nrm M) i = parB M i := by
  have hle := kd_le i
  have e1 : tld (nrm M) i = tld M i := by
    unfold tld
    by_cases h1 : kd i = 1
    · rw [if_pos h1, if_pos h1]
      have e : (nrm M).num i = M.num i := by show (if kd i = 1 then M.num i else 0) = _; rw [if_pos h1]
      rw [e]
    · rw [if_neg h1, if_neg h1]
      by_cases h4 : kd i = 4
      · rw [if_pos h4, if_pos h4]; rfl
      · rw [if_neg h4, if_neg h4]
        show (if kd i = 2 ∨ kd i = 3 then M.has i else false) = _
        rw [if_pos (by omega)]
  have e2 : bts (nrm M) i = bts M i := by
    unfold bts
    by_cases h1 : kd i = 1
    · rw [if_pos h1, if_pos h1]
      have e : (nrm M).num i = M.num i := by show (if kd i = 1 then M.num i else 0) = _; rw [if_pos h1]
      rw [e]
    · rw [if_neg h1, if_neg h1]; rfl
  unfold parB
  rw [e1, e2]
theorem encT_nrm (M : Pm) : ∀ k, k ≤ 16 → encT (nrm M) k = encT M k := by
  intro k
  induction k with
  | zero => intro _; rfl
  | succ k ih =>
    intro hk
    show encT (nrm M) k ++ parB (nrm M) (idl.getD k 0) = encT M k ++ parB M (idl.getD k 0)
    rw [ih (by omega), parB_nrm M _ (idl_kd k (by omega))]
theorem encB_nrm (M : Pm) (srv : Bool) : encB (nrm M) srv = encB M srv := by
  unfold encB
  rw [allR_nrm, encT_nrm M 16 (by omega)]
theorem chkE_nrm (M : Pm) (srv : Bool) : chkE (nrm M) srv = chkE M srv := by
  unfold chkE
  rw [allR_nrm]
theorem by_nrm {W : World} {M : Pm} {s : Nat → Sv} (h : By W M s) : By W (nrm M) (nrS s) := by
  intro i hi
  have e1 : nrS s i = s i := by show (if kd i = 2 ∨ kd i = 3 then s i else nilS) = s i; rw [if_pos hi]
  rw [e1]
  exact h i hi
theorem encB_len (M : Pm) (srv : Bool) : (encB M srv).length ≤ 1000 := by
  unfold encB
  by_cases h : allR M srv = true
  · rw [if_pos h]; have := encT_len h 16 (by omega); omega
  · rw [if_neg h]; simp
abbrev rgEA0 (M : Pm) (s s1 : Nat → Sv) (srv : Bool) (tb xb : Nat) (x y : Sv) (er : Int) : Act := actO [.agg (pc M s), .bool srv, .pointer (some ⟨tb, 0, none⟩), undef, .bool false, .pointer (some ⟨xb, 0, none⟩), .int .i64 er, sv x, .int .i64 er, sv y, .int .i64 er, .agg (pc M s), .agg (pc M s1), .agg (pc M s1), .bool srv, .int .i64 er,
    .tuple #[sv x, .int .i64 er], .agg (pc M s1), .bool srv, .tuple #[sv x, .int .i64 er], sv x, .int .i64 er, .tuple #[sv y, .int .i64 er], .agg (pc M s), .agg (rc (nrm M) (nrS s)), .bool srv, .tuple #[sv y, .int .i64 er], sv y, .int .i64 er] 29
abbrev rgEL0 : Array Bool := Array.replicate 30 false
def rgES0 (M : Pm) (s s1 : Nat → Sv) (srv : Bool) (tb xb : Nat) (x y : Sv) (er : Int) : List (Nat × Value) := []
abbrev rgEA1 (M : Pm) (s s1 : Nat → Sv) (srv : Bool) (tb xb : Nat) (x y : Sv) (er : Int) (f : Func) : Act := (putL (RofN f 5) (rgES0 M s s1 srv tb xb x y er) (rgEA0 M s s1 srv tb xb x y er)).put (some 29) (.bool true)
abbrev rgEL1 (M : Pm) (s s1 : Nat → Sv) (srv : Bool) (tb xb : Nat) (x y : Sv) (er : Int) : Array Bool := (setL (rgES0 M s s1 srv tb xb x y er) (rgEL0)).setIfInBounds 0 true
def rgES1 (M : Pm) (s s1 : Nat → Sv) (srv : Bool) (tb xb : Nat) (x y : Sv) (er : Int) : List (Nat × Value) := [(1, .bool true), (2, .int .i64 er), (3, .int .i64 er), (4, .bool true), (5, .bool true), (6, .bool true), (7, sv x), (8, sv y)]
abbrev rgEA2 (M : Pm) (s s1 : Nat → Sv) (srv : Bool) (tb xb : Nat) (x y : Sv) (er : Int) (f : Func) : Act := (putL (RofN f 5) (rgES1 M s s1 srv tb xb x y er) (rgEA1 M s s1 srv tb xb x y er f)).put (some 38) (.bool true)
abbrev rgEL2 (M : Pm) (s s1 : Nat → Sv) (srv : Bool) (tb xb : Nat) (x y : Sv) (er : Int) : Array Bool := (setL (rgES1 M s s1 srv tb xb x y er) (rgEL1 M s s1 srv tb xb x y er)).setIfInBounds 9 true
def rgES2 (M : Pm) (s s1 : Nat → Sv) (srv : Bool) (tb xb : Nat) (x y : Sv) (er : Int) : List (Nat × Value) := [(10, .bool true), (11, .bool true), (12, .int .i64 er), (13, .int .i64 er), (14, .bool true), (15, .bool true), (16, .bool true), (17, .agg (pc M s1)), (19, .agg (pc M s))]
abbrev rgEA3 (M : Pm) (s s1 : Nat → Sv) (srv : Bool) (tb xb : Nat) (x y : Sv) (er : Int) (f : Func) : Act := (((putL (RofN f 5) (rgES2 M s s1 srv tb xb x y er) (rgEA2 M s s1 srv tb xb x y er f)).put (some 47) (.agg (rc (nrm M) (nrS s1)))).put (some 49) (.agg (rc (nrm M) (nrS s)))).put (some 50) (.bool true)
abbrev rgEL3 (M : Pm) (s s1 : Nat → Sv) (srv : Bool) (tb xb : Nat) (x y : Sv) (er : Int) : Array Bool := (((setL (rgES2 M s s1 srv tb xb x y er) (rgEL2 M s s1 srv tb xb x y er)).setIfInBounds 18 true).setIfInBounds 20 true).setIfInBounds 21 true
def rgES3 (M : Pm) (s s1 : Nat → Sv) (srv : Bool) (tb xb : Nat) (x y : Sv) (er : Int) : List (Nat × Value) := [(22, .bool true), (23, .bool true)]
abbrev rgEA4 (M : Pm) (s s1 : Nat → Sv) (srv : Bool) (tb xb : Nat) (x y : Sv) (er : Int) (f : Func) : Act := ((((putL (RofN f 5) (rgES3 M s s1 srv tb xb x y er) (rgEA3 M s s1 srv tb xb x y er f)).put (some 53) (.agg usA)).put (some 54) (.agg (rc (nrm usM) (nrS (fun _ => nilS))))).put (some 55) (.agg (rc usM (fun _ => nilS)))).put (some 56) (.bool true)
abbrev rgEL4 (M : Pm) (s s1 : Nat → Sv) (srv : Bool) (tb xb : Nat) (x y : Sv) (er : Int) : Array Bool := ((((setL (rgES3 M s s1 srv tb xb x y er) (rgEL3 M s s1 srv tb xb x y er)).setIfInBounds 24 true).setIfInBounds 25 true).setIfInBounds 26 true).setIfInBounds 27 true
def rgES4 (M : Pm) (s s1 : Nat → Sv) (srv : Bool) (tb xb : Nat) (x y : Sv) (er : Int) : List (Nat × Value) := [(28, .bool true), (29, .bool true)]
abbrev rgEA5 (M : Pm) (s s1 : Nat → Sv) (srv : Bool) (tb xb : Nat) (x y : Sv) (er : Int) (f : Func) : Act := putL (RofN f 5) (rgES4 M s s1 srv tb xb x y er) (rgEA4 M s s1 srv tb xb x y er f)
abbrev rgEL5 (M : Pm) (s s1 : Nat → Sv) (srv : Bool) (tb xb : Nat) (x y : Sv) (er : Int) : Array Bool := setL (rgES4 M s s1 srv tb xb x y er) (rgEL4 M s s1 srv tb xb x y er)
theorem rgEH0 (M : Pm) (s s1 : Nat → Sv) (srv : Bool) (tb xb : Nat) (x y : Sv) (er : Int) (w : World) : Chn Try.prog (RofN Try.f3 5) (SE w tb xb M s s1) (rgES0 M s s1 srv tb xb x y er) rgEL0 (rgEA0 M s s1 srv tb xb x y er) :=
  trivial
theorem rgEH1 (M : Pm) (s s1 : Nat → Sv) (srv : Bool) (tb xb : Nat) (x y : Sv) (er : Int) (w : World) : Chn Try.prog (RofN Try.f3 5) (SE w tb xb M s s1) (rgES1 M s s1 srv tb xb x y er) (rgEL1 M s s1 srv tb xb x y er) (rgEA1 M s s1 srv tb xb x y er Try.f3) :=
  ⟨⟨by kernel_rfl, by kernel_rfl, by kernel_rfl, by kernel_rfl, fun w h => by kernel_rfl⟩,
    ⟨by kernel_rfl, by kernel_rfl, by kernel_rfl, by kernel_rfl, fun w h => by kernel_rfl⟩,
    ⟨by kernel_rfl, by kernel_rfl, by kernel_rfl, by kernel_rfl, fun w h => by kernel_rfl⟩,
    ⟨by kernel_rfl, by kernel_rfl, by kernel_rfl, by kernel_rfl, fun w h => run_eql (.tmp 31) (.tmp 32) er (by kernel_rfl) (by kernel_rfl) (by kernel_rfl)⟩,
    ⟨by kernel_rfl, by kernel_rfl, by kernel_rfl, by kernel_rfl, fun w h => by kernel_rfl⟩,
    ⟨by kernel_rfl, by kernel_rfl, by kernel_rfl, by kernel_rfl, fun w h => by kernel_rfl⟩,
    ⟨by kernel_rfl, by kernel_rfl, by kernel_rfl, by kernel_rfl, fun w h => by kernel_rfl⟩,
    ⟨by kernel_rfl, by kernel_rfl, by kernel_rfl, by kernel_rfl, fun w h => by kernel_rfl⟩,
    trivial⟩
theorem rgEH2 (M : Pm) (s s1 : Nat → Sv) (srv : Bool) (tb xb : Nat) (x y : Sv) (er : Int) (w : World) : Chn Try.prog (RofN Try.f3 5) (SE w tb xb M s s1) (rgES2 M s s1 srv tb xb x y er) (rgEL2 M s s1 srv tb xb x y er) (rgEA2 M s s1 srv tb xb x y er Try.f3) :=
  ⟨⟨by kernel_rfl, by kernel_rfl, by kernel_rfl, by kernel_rfl, fun w h => by kernel_rfl⟩,
    ⟨by kernel_rfl, by kernel_rfl, by kernel_rfl, by kernel_rfl, fun w h => by kernel_rfl⟩,
    ⟨by kernel_rfl, by kernel_rfl, by kernel_rfl, by kernel_rfl, fun w h => by kernel_rfl⟩,
    ⟨by kernel_rfl, by kernel_rfl, by kernel_rfl, by kernel_rfl, fun w h => by kernel_rfl⟩,
    ⟨by kernel_rfl, by kernel_rfl, by kernel_rfl, by kernel_rfl, fun w h => run_eql (.tmp 41) (.tmp 42) er (by kernel_rfl) (by kernel_rfl) (by kernel_rfl)⟩,
    ⟨by kernel_rfl, by kernel_rfl, by kernel_rfl, by kernel_rfl, fun w h => by kernel_rfl⟩,
    ⟨by kernel_rfl, by kernel_rfl, by kernel_rfl, by kernel_rfl, fun w h => by kernel_rfl⟩,
    ⟨by kernel_rfl, by kernel_rfl, by kernel_rfl, by kernel_rfl, fun w h => ld24 (.tmp 5) xb M s1 (by kernel_rfl) (by kernel_rfl) h.2.2⟩,
    ⟨by kernel_rfl, by kernel_rfl, by kernel_rfl, by kernel_rfl, fun w h => ld24 (.tmp 2) tb M s (by kernel_rfl) (by kernel_rfl) h.2.1⟩,
    trivial⟩
theorem rgEH3 (M : Pm) (s s1 : Nat → Sv) (srv : Bool) (tb xb : Nat) (x y : Sv) (er : Int) (w : World) : Chn Try.prog (RofN Try.f3 5) (SE w tb xb M s s1) (rgES3 M s s1 srv tb xb x y er) (rgEL3 M s s1 srv tb xb x y er) (rgEA3 M s s1 srv tb xb x y er Try.f3) :=
  ⟨⟨by kernel_rfl, by kernel_rfl, by kernel_rfl, by kernel_rfl, fun w h => by kernel_rfl⟩,
    ⟨by kernel_rfl, by kernel_rfl, by kernel_rfl, by kernel_rfl, fun w h => by kernel_rfl⟩,
    trivial⟩
theorem rgEH4 (M : Pm) (s s1 : Nat → Sv) (srv : Bool) (tb xb : Nat) (x y : Sv) (er : Int) (w : World) : Chn Try.prog (RofN Try.f3 5) (SE w tb xb M s s1) (rgES4 M s s1 srv tb xb x y er) (rgEL4 M s s1 srv tb xb x y er) (rgEA4 M s s1 srv tb xb x y er Try.f3) :=
  ⟨⟨by kernel_rfl, by kernel_rfl, by kernel_rfl, by kernel_rfl, fun w h => by kernel_rfl⟩,
    ⟨by kernel_rfl, by kernel_rfl, by kernel_rfl, by kernel_rfl, fun w h => by kernel_rfl⟩,
    trivial⟩

set_option maxHeartbeats 8000000 in
theorem rgE (M : Pm) (s s1 : Nat → Sv) (srv : Bool) (tb xb : Nat) (x y : Sv) (er : Int) (w : World) (R : Exit → Act → World → Prop) (hS : SE w tb xb M s s1 w) (hQ : ∀ c a d v w, R (.panic c) (a.put d v) w → R (.panic c) a w)
    (HX : ∀ W, Q w W → Calls Try.prog 14 #[sv x, sv y] W fun e w' => e = .returned (.bool true) ∧ Q W w')
    (HS : ∀ W, Q w W → Calls Try.prog 15 #[(.agg (rc (nrm M) (nrS s1))), (.agg (rc (nrm M) (nrS s)))] W fun e w' => e = .returned (.bool true) ∧ Q W w')
    (HU : ∀ W, Calls Try.prog 15 #[(.agg (rc (nrm usM) (nrS (fun _ => nilS)))), (.agg (rc usM (fun _ => nilS)))] W fun e w' => e = .returned (.bool true) ∧ Q W w')
    (h : ∀ (A : Act) (W : World), A.defers = [] → A.tmps.getD 4 undef = .bool true → Q w W → R .normal A W) :
    (Code.region 5 (RofN Try.f3 5) true).wp Try.prog R (rgEA0 M s s1 srv tb xb x y er) w := by
  refine wp_region_held (S := SE w tb xb M s s1) (by kernel_rfl) ?_
  have hsz : (RofN Try.f3 5).size = 30 := by kernel_rfl
  rw [hsz]
  have hS0 : SE w tb xb M s s1 w.drew := se_q hS ((Q.refl w).drew)
  generalize hA0 : (rgEA0 M s s1 srv tb xb x y er) = A0
  generalize hL0 : Array.replicate 30 false = L0
  have hr0_0 : Region.ready .any (RofN Try.f3 5) L0 = [0] := by rw [← hL0]; kernel_rfl
  have hw0_0 : Region.wanted (((RofN Try.f3 5)[0]?).getD default) (yielded (RofN Try.f3 5) (A0).tmps) = true := by rw [← hA0]; kernel_rfl
  have hc0_0 : (execOp (A0).eval (((RofN Try.f3 5)[0]?).getD default)).run Try.prog w.drew = .ok (.enter 13 #[]) w.drew := by rw [← hA0]; kernel_rfl
  refine wpAnyH_one (i := 0) hr0_0 ?_
  refine wpOp_call (some 29) (by kernel_rfl) (by kernel_rfl) hw0_0 13 #[] hc0_0 (awake_any w.drew) (.bool true) ?_
  rintro e w1 ⟨rfl, qq⟩
  have hS1 := se_q hS0 qq
  clear qq
  refine ⟨rfl, hS1, ?_⟩
  have j1 : Chn Try.prog (RofN Try.f3 5) (SE w tb xb M s s1) (rgES1 M s s1 srv tb xb x y er) ((L0).setIfInBounds 0 true) ((A0).put (some 29) (.bool true)) := by rw [← hA0, ← hL0]; exact rgEH1 M s s1 srv tb xb x y er w
  refine chn_take (by kernel_rfl) hQ hS1 21 (rgES1 M s s1 srv tb xb x y er) _ _ j1 ?_
  generalize hA1 : putL _ _ _ = A1
  generalize hL1 : setL _ _ = L1
  have hr1_9 : Region.ready .any (RofN Try.f3 5) L1 = [9] := by rw [← hL1, ← hL0]; kernel_rfl
  have hw1_9 : Region.wanted (((RofN Try.f3 5)[9]?).getD default) (yielded (RofN Try.f3 5) (A1).tmps) = true := by rw [← hA1, ← hA0]; kernel_rfl
  have hc1_9 : (execOp (A1).eval (((RofN Try.f3 5)[9]?).getD default)).run Try.prog w1 = .ok (.enter 14 #[sv x, sv y]) w1 := by rw [← hA1, ← hA0]; kernel_rfl
  refine wpAnyH_one (i := 9) hr1_9 ?_
  refine wpOp_call (some 38) (by kernel_rfl) (by kernel_rfl) hw1_9 14 #[sv x, sv y] hc1_9 (HX w1 hS1.1) (.bool true) ?_
  rintro e w2 ⟨rfl, qq⟩
  have hS2 := se_q hS1 qq
  clear qq
  refine ⟨rfl, hS2, ?_⟩
  have j2 : Chn Try.prog (RofN Try.f3 5) (SE w tb xb M s s1) (rgES2 M s s1 srv tb xb x y er) ((L1).setIfInBounds 9 true) ((A1).put (some 38) (.bool true)) := by rw [← hA1, ← hA0, ← hL1, ← hL0]; exact rgEH2 M s s1 srv tb xb x y er w
  refine chn_take (by kernel_rfl) hQ hS2 11 (rgES2 M s s1 srv tb xb x y er) _ _ j2 ?_
  generalize hA2 : putL _ _ _ = A2
  generalize hL2 : setL _ _ = L2
  have hr2_18 : Region.ready .any (RofN Try.f3 5) L2 = [18] := by rw [← hL2, ← hL1, ← hL0]; kernel_rfl
  have hw2_18 : Region.wanted (((RofN Try.f3 5)[18]?).getD default) (yielded (RofN Try.f3 5) (A2).tmps) = true := by rw [← hA2, ← hA1, ← hA0]; kernel_rfl
  have hc2_18 : (execOp (A2).eval (((RofN Try.f3 5)[18]?).getD default)).run Try.prog w2 = .ok (.enter 12 #[.agg (pc M s1)]) w2 := by rw [← hA2, ← hA1, ← hA0]; kernel_rfl
  refine wpAnyH_one (i := 18) hr2_18 ?_
  refine wpOp_call (some 47) (by kernel_rfl) (by kernel_rfl) hw2_18 12 #[.agg (pc M s1)] hc2_18 (of_any M s1 w2) (.agg (rc (nrm M) (nrS s1))) ?_
  rintro e w3 ⟨rfl, qq⟩
  have hS3 := se_q hS2 qq
  clear qq
  refine ⟨rfl, hS3, ?_⟩
  have hr2_20 : Region.ready .any (RofN Try.f3 5) ((L2).setIfInBounds 18 true) = [20] := by rw [← hL2, ← hL1, ← hL0]; kernel_rfl
  have hw2_20 : Region.wanted (((RofN Try.f3 5)[20]?).getD default) (yielded (RofN Try.f3 5) (((A2).put (some 47) (.agg (rc (nrm M) (nrS s1))))).tmps) = true := by rw [← hA2, ← hA1, ← hA0]; kernel_rfl
  have hc2_20 : (execOp (((A2).put (some 47) (.agg (rc (nrm M) (nrS s1))))).eval (((RofN Try.f3 5)[20]?).getD default)).run Try.prog w3 = .ok (.enter 12 #[.agg (pc M s)]) w3 := by rw [← hA2, ← hA1, ← hA0]; kernel_rfl
  refine wpAnyH_one (i := 20) hr2_20 ?_
  refine wpOp_call (some 49) (by kernel_rfl) (by kernel_rfl) hw2_20 12 #[.agg (pc M s)] hc2_20 (of_any M s w3) (.agg (rc (nrm M) (nrS s))) ?_
  rintro e w4 ⟨rfl, qq⟩
  have hS4 := se_q hS3 qq
  clear qq
  refine ⟨rfl, hS4, ?_⟩
  have hr2_21 : Region.ready .any (RofN Try.f3 5) ((((L2).setIfInBounds 18 true)).setIfInBounds 20 true) = [21] := by rw [← hL2, ← hL1, ← hL0]; kernel_rfl
  have hw2_21 : Region.wanted (((RofN Try.f3 5)[21]?).getD default) (yielded (RofN Try.f3 5) (((((A2).put (some 47) (.agg (rc (nrm M) (nrS s1))))).put (some 49) (.agg (rc (nrm M) (nrS s))))).tmps) = true := by rw [← hA2, ← hA1, ← hA0]; kernel_rfl
  have hc2_21 : (execOp (((((A2).put (some 47) (.agg (rc (nrm M) (nrS s1))))).put (some 49) (.agg (rc (nrm M) (nrS s))))).eval (((RofN Try.f3 5)[21]?).getD default)).run Try.prog w4 = .ok (.enter 15 #[(.agg (rc (nrm M) (nrS s1))), (.agg (rc (nrm M) (nrS s)))]) w4 := by rw [← hA2, ← hA1, ← hA0]; kernel_rfl
  refine wpAnyH_one (i := 21) hr2_21 ?_
  refine wpOp_call (some 50) (by kernel_rfl) (by kernel_rfl) hw2_21 15 #[(.agg (rc (nrm M) (nrS s1))), (.agg (rc (nrm M) (nrS s)))] hc2_21 (HS w4 hS4.1) (.bool true) ?_
  rintro e w5 ⟨rfl, qq⟩
  have hS5 := se_q hS4 qq
  clear qq
  refine ⟨rfl, hS5, ?_⟩
  have j3 : Chn Try.prog (RofN Try.f3 5) (SE w tb xb M s s1) (rgES3 M s s1 srv tb xb x y er) ((((((L2).setIfInBounds 18 true)).setIfInBounds 20 true)).setIfInBounds 21 true) ((((((A2).put (some 47) (.agg (rc (nrm M) (nrS s1))))).put (some 49) (.agg (rc (nrm M) (nrS s))))).put (some 50) (.bool true)) := by rw [← hA2, ← hA1, ← hA0, ← hL2, ← hL1, ← hL0]; exact rgEH3 M s s1 srv tb xb x y er w
  refine chn_take (by kernel_rfl) hQ hS5 6 (rgES3 M s s1 srv tb xb x y er) _ _ j3 ?_
  generalize hA3 : putL _ _ _ = A3
  generalize hL3 : setL _ _ = L3
  have hr3_24 : Region.ready .any (RofN Try.f3 5) L3 = [24] := by rw [← hL3, ← hL2, ← hL1, ← hL0]; kernel_rfl
  have hw3_24 : Region.wanted (((RofN Try.f3 5)[24]?).getD default) (yielded (RofN Try.f3 5) (A3).tmps) = true := by rw [← hA3, ← hA2, ← hA1, ← hA0]; kernel_rfl
  have hc3_24 : (execOp (A3).eval (((RofN Try.f3 5)[24]?).getD default)).run Try.prog w5 = .ok (.enter 16 #[]) w5 := by rw [← hA3, ← hA2, ← hA1, ← hA0]; kernel_rfl
  refine wpAnyH_one (i := 24) hr3_24 ?_
  refine wpOp_call (some 53) (by kernel_rfl) (by kernel_rfl) hw3_24 16 #[] hc3_24 (usual_any w5) (.agg usA) ?_
  rintro e w6 ⟨rfl, qq⟩
  have hS6 := se_q hS5 qq
  clear qq
  refine ⟨rfl, hS6, ?_⟩
  have hr3_25 : Region.ready .any (RofN Try.f3 5) ((L3).setIfInBounds 24 true) = [25] := by rw [← hL3, ← hL2, ← hL1, ← hL0]; kernel_rfl
  have hw3_25 : Region.wanted (((RofN Try.f3 5)[25]?).getD default) (yielded (RofN Try.f3 5) (((A3).put (some 53) (.agg usA))).tmps) = true := by rw [← hA3, ← hA2, ← hA1, ← hA0]; kernel_rfl
  have hc3_25 : (execOp (((A3).put (some 53) (.agg usA))).eval (((RofN Try.f3 5)[25]?).getD default)).run Try.prog w6 = .ok (.enter 12 #[.agg usA]) w6 := by rw [← hA3, ← hA2, ← hA1, ← hA0]; kernel_rfl
  refine wpAnyH_one (i := 25) hr3_25 ?_
  refine wpOp_call (some 54) (by kernel_rfl) (by kernel_rfl) hw3_25 12 #[.agg usA] hc3_25 (of_any usM (fun _ => nilS) w6) (.agg (rc (nrm usM) (nrS (fun _ => nilS)))) ?_
  rintro e w7 ⟨rfl, qq⟩
  have hS7 := se_q hS6 qq
  clear qq
  refine ⟨rfl, hS7, ?_⟩
  have hr3_26 : Region.ready .any (RofN Try.f3 5) ((((L3).setIfInBounds 24 true)).setIfInBounds 25 true) = [26] := by rw [← hL3, ← hL2, ← hL1, ← hL0]; kernel_rfl
  have hw3_26 : Region.wanted (((RofN Try.f3 5)[26]?).getD default) (yielded (RofN Try.f3 5) (((((A3).put (some 53) (.agg usA))).put (some 54) (.agg (rc (nrm usM) (nrS (fun _ => nilS)))))).tmps) = true := by rw [← hA3, ← hA2, ← hA1, ← hA0]; kernel_rfl
  have hc3_26 : (execOp (((((A3).put (some 53) (.agg usA))).put (some 54) (.agg (rc (nrm usM) (nrS (fun _ => nilS)))))).eval (((RofN Try.f3 5)[26]?).getD default)).run Try.prog w7 = .ok (.enter 17 #[]) w7 := by rw [← hA3, ← hA2, ← hA1, ← hA0]; kernel_rfl
  refine wpAnyH_one (i := 26) hr3_26 ?_
  refine wpOp_call (some 55) (by kernel_rfl) (by kernel_rfl) hw3_26 17 #[] hc3_26 (rusual_any w7) (.agg (rc usM (fun _ => nilS))) ?_
  rintro e w8 ⟨rfl, qq⟩
  have hS8 := se_q hS7 qq
  clear qq
  refine ⟨rfl, hS8, ?_⟩
  have hr3_27 : Region.ready .any (RofN Try.f3 5) ((((((L3).setIfInBounds 24 true)).setIfInBounds 25 true)).setIfInBounds 26 true) = [27] := by rw [← hL3, ← hL2, ← hL1, ← hL0]; kernel_rfl
  have hw3_27 : Region.wanted (((RofN Try.f3 5)[27]?).getD default) (yielded (RofN Try.f3 5) (((((((A3).put (some 53) (.agg usA))).put (some 54) (.agg (rc (nrm usM) (nrS (fun _ => nilS)))))).put (some 55) (.agg (rc usM (fun _ => nilS))))).tmps) = true := by rw [← hA3, ← hA2, ← hA1, ← hA0]; kernel_rfl
  have hc3_27 : (execOp (((((((A3).put (some 53) (.agg usA))).put (some 54) (.agg (rc (nrm usM) (nrS (fun _ => nilS)))))).put (some 55) (.agg (rc usM (fun _ => nilS))))).eval (((RofN Try.f3 5)[27]?).getD default)).run Try.prog w8 = .ok (.enter 15 #[(.agg (rc (nrm usM) (nrS (fun _ => nilS)))), (.agg (rc usM (fun _ => nilS)))]) w8 := by rw [← hA3, ← hA2, ← hA1, ← hA0]; kernel_rfl
  refine wpAnyH_one (i := 27) hr3_27 ?_
  refine wpOp_call (some 56) (by kernel_rfl) (by kernel_rfl) hw3_27 15 #[(.agg (rc (nrm usM) (nrS (fun _ => nilS)))), (.agg (rc usM (fun _ => nilS)))] hc3_27 (HU w8) (.bool true) ?_
  rintro e w9 ⟨rfl, qq⟩
  have hS9 := se_q hS8 qq
  clear qq
  refine ⟨rfl, hS9, ?_⟩
  have j4 : Chn Try.prog (RofN Try.f3 5) (SE w tb xb M s s1) (rgES4 M s s1 srv tb xb x y er) ((((((((L3).setIfInBounds 24 true)).setIfInBounds 25 true)).setIfInBounds 26 true)).setIfInBounds 27 true) ((((((((A3).put (some 53) (.agg usA))).put (some 54) (.agg (rc (nrm usM) (nrS (fun _ => nilS)))))).put (some 55) (.agg (rc usM (fun _ => nilS))))).put (some 56) (.bool true)) := by rw [← hA3, ← hA2, ← hA1, ← hA0, ← hL3, ← hL2, ← hL1, ← hL0]; exact rgEH4 M s s1 srv tb xb x y er w
  have hf1 : Region.ready .any (RofN Try.f3 5) (setL (rgES4 M s s1 srv tb xb x y er) ((((((((L3).setIfInBounds 24 true)).setIfInBounds 25 true)).setIfInBounds 26 true)).setIfInBounds 27 true)) = [] := by rw [← hL3, ← hL2, ← hL1, ← hL0]; kernel_rfl
  have hf2 : (putL (RofN Try.f3 5) (rgES4 M s s1 srv tb xb x y er) ((((((((A3).put (some 53) (.agg usA))).put (some 54) (.agg (rc (nrm usM) (nrS (fun _ => nilS)))))).put (some 55) (.agg (rc usM (fun _ => nilS))))).put (some 56) (.bool true))).defers = [] := by rw [← hA3, ← hA2, ← hA1, ← hA0]; kernel_rfl
  have hf3 : (putL (RofN Try.f3 5) (rgES4 M s s1 srv tb xb x y er) ((((((((A3).put (some 53) (.agg usA))).put (some 54) (.agg (rc (nrm usM) (nrS (fun _ => nilS)))))).put (some 55) (.agg (rc usM (fun _ => nilS))))).put (some 56) (.bool true))).tmps.getD 4 undef = .bool true := by rw [← hA3, ← hA2, ← hA1, ← hA0]; kernel_rfl
  clear hA3 hA2 hA1 hA0 hL3 hL2 hL1 hL0
  refine chn_take (by kernel_rfl) hQ hS9 0 (rgES4 M s s1 srv tb xb x y er) _ _ j4 ?_
  refine wpAnyH_done hf1 ?_ _
  exact h _ _ hf2 hf3 hS9.1
end Go.Proofs.Ytidbimhcebfjfaa
