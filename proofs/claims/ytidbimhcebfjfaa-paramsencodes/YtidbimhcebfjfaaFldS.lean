/-
  What the program's own fields does: a contract that the statements' walks use. One region of 135 operations that draws its order: the first 133 only reckon, or read cells that nobody writes, so that they may be taken in the order of the text.
-/
import Derived.Test.YtidbimhcebfjfaaPm
import Derived.OrdersHeld
import Derived.Great.BuildSlice
namespace Go.Proofs.Ytidbimhcebfjfaa
open Go.RowKit
set_option linter.unusedVariables false
set_option maxRecDepth 20000

/-! ### operations that are taken in the order of the text -/
def opsOf : Code → Nat → Option (Array Oper)
  | .region id ops _, k => if id == k then some ops else none
  | .seq a b, k => (opsOf a k).orElse fun _ => opsOf b k
  | .cond _ a b, k => (opsOf a k).orElse fun _ => opsOf b k
  | .block _ b, k => opsOf b k
  | .loop b, k => opsOf b k
  | .scope b, k => opsOf b k
  | _, _ => none
def lst (n : Nat) : Nat → Array Bool
  | 0 => Array.replicate n false
  | k + 1 => (lst n k).setIfInBounds k true
theorem lst_size (n : Nat) : ∀ k, (lst n k).size = n
  | 0 => by simp [lst]
  | k + 1 => by simp [lst, lst_size n k]
theorem lst_opt (n : Nat) (j : Nat) : ∀ k, k ≤ n → (lst n k)[j]? = if j < n then some (decide (j < k)) else none
  | 0, _ => by
    rw [lst, Array.getElem?_replicate]
    by_cases h : j < n
    · simp [h]
    · simp [h]
  | k + 1, hk => by
    have ih := lst_opt n j k (by omega)
    rw [lst, Array.getElem?_setIfInBounds, ih, lst_size]
    by_cases e : k = j
    · subst e; rw [if_pos rfl, if_pos (by omega), if_pos (by omega)]; simp
    · rw [if_neg e]
      by_cases h : j < n
      · rw [if_pos h, if_pos h]; congr 1; by_cases h2 : j < k
        · simp [h2]; omega
        · simp [h2]; omega
      · rw [if_neg h, if_neg h]
theorem lst_get (n : Nat) (j : Nat) (d : Bool) (k : Nat) (hk : k ≤ n) : (lst n k).getD j d = if j < n then decide (j < k) else d := by
  rw [Array.getD_eq_getD_getElem?, lst_opt n j k hk]
  by_cases h : j < n
  · rw [if_pos h, if_pos h]; rfl
  · rw [if_neg h, if_neg h]; rfl
def chkK (ops : Array Oper) (k : Nat) : Bool :=
  match ops[k]? with
  | none => false
  | some oi => oi.after.all (fun e => !Region.binds .any e || decide (e.on < k)) && (List.range ops.size).all fun j => decide (j ≤ k) || match ops[j]? with
      | some oj => oj.after.any (fun e => Region.binds .any e && e.on == k) || oi.apart ops oj
      | none => true
theorem chk_ok {ops : Array Oper} {k : Nat} (h : chkK ops k = true) : Region.free .any ops (lst ops.size k) k = true ∧ (Region.ready .any ops (lst ops.size k)).contains k = true := by
  unfold chkK at h
  cases ho : ops[k]? with
  | none => rw [ho] at h; cases h
  | some oi =>
    have hk : k < ops.size := by
      by_cases hk : k < ops.size
      · exact hk
      · rw [Array.getElem?_eq_none (by omega)] at ho; cases ho
    rw [ho] at h
    simp only [Bool.and_eq_true] at h
    refine ⟨?_, ?_⟩
    · unfold Region.free
      rw [ho]
      simp only [List.all_eq_true] at h ⊢
      intro j hj
      have := h.2 j hj
      have hjn : j < ops.size := List.mem_range.1 hj
      rw [lst_get _ _ _ _ (by omega), if_pos hjn]
      simp only [Bool.or_eq_true, decide_eq_true_eq] at this ⊢
      rcases this with t | t
      · by_cases e : j = k
        · left; left; simp [e]
        · left; right; omega
      · right
        cases hoj : ops[j]? with
        | none => rfl
        | some oj => rw [hoj] at t; simpa using t
    · unfold Region.ready
      rw [List.contains_iff_mem, List.mem_filter]
      refine ⟨List.mem_range.2 hk, ?_⟩
      rw [lst_get _ _ _ _ (by omega), if_pos hk, ho]
      simp only [Nat.lt_irrefl, decide_false, Bool.not_false, Bool.true_and, Option.map_some, Option.getD_some]
      rw [Array.all_eq_true_iff_forall_mem] at h ⊢
      intro e he
      have := h.1 e he
      simp only [Bool.or_eq_true, decide_eq_true_eq] at this
      rcases this with t | t
      · simp [t]
      · rw [lst_get _ _ _ _ (by omega), if_pos (by omega)]; simp [t]
/-- The frame when k operations have come: what stood there, what they yield, one slot behind the other, nothing. -/
def actK (ini vs : List Value) (n k : Nat) : Act := ⟨(ini ++ (vs.take k ++ List.replicate (n - k) undef)).toArray, []⟩
theorem actK_put {ini vs : List Value} {n k : Nat} (hk : k < n) (hv : k < vs.length) : (actK ini vs n k).put (some (ini.length + k)) (vs.getD k undef) = actK ini vs n (k + 1) := by
  simp only [actK, Act.put, List.setIfInBounds_toArray]
  congr 2
  apply List.ext_getElem?
  intro i
  have a1 : (vs.take k).length = k := by rw [List.length_take]; omega
  have a2 : (vs.take (k + 1)).length = k + 1 := by rw [List.length_take]; omega
  have a3 : (vs.take k ++ List.replicate (n - k) undef).length = n := by rw [List.length_append, a1, List.length_replicate]; omega
  rw [List.getElem?_set]
  by_cases h1 : i < ini.length
  · rw [if_neg (by omega), List.getElem?_append_left h1, List.getElem?_append_left h1]
  · obtain ⟨m, rfl⟩ : ∃ m, i = ini.length + m := ⟨i - ini.length, by omega⟩
    have hap : ∀ L : List Value, (ini ++ L)[ini.length + m]? = L[m]? := fun L => by rw [List.getElem?_append_right (by omega), Nat.add_sub_cancel_left]
    rw [hap, hap]
    by_cases e : m = k
    · subst e
      have a4 : vs[m]? = some vs[m] := List.getElem?_eq_getElem hv
      rw [if_pos rfl, if_pos (by rw [List.length_append, a3]; omega), List.getElem?_append_left (by omega), List.getElem?_take, if_pos (by omega), List.getD_eq_getElem?_getD, a4]
      rfl
    · rw [if_neg (by omega)]
      by_cases h2 : m < k
      · rw [List.getElem?_append_left (by omega), List.getElem?_append_left (by omega), List.getElem?_take, List.getElem?_take, if_pos h2, if_pos (by omega)]
      · rw [List.getElem?_append_right (by omega), List.getElem?_append_right (by omega), List.getElem?_replicate, List.getElem?_replicate, a1, a2]
        by_cases h3 : m < n
        · rw [if_pos (by omega), if_pos (by omega)]
        · rw [if_neg (by omega), if_neg (by omega)]
def StpG (P : Program) (ops : Array Oper) (ini vs : List Value) (n : Nat) (S : World → Prop) (k : Nat) : Prop :=
  chkK ops k = true ∧ (ops[k]?).map (·.dst) = some (some (ini.length + k)) ∧ Region.wanted ((ops[k]?).getD default) (yielded ops (actK ini vs n k).tmps) = true ∧ ∀ w, S w → (execOp (actK ini vs n k).eval ((ops[k]?).getD default)).run P w = .ok (.value (vs.getD k undef)) w
theorem lex_from {P : Program} {ops : Array Oper} {Q : Exit → Act → World → Prop} {S : World → Prop} {ini vs : List Value} {w : World} {N n : Nat} (hs : Region.noSelect ops = true) (hN : n ≤ N) (hv : n ≤ vs.length) (hst : ∀ k, k < n → StpG P ops ini vs N S k)
    (hQ : ∀ c a d v w, Q (.panic c) (a.put d v) w → Q (.panic c) a w) (hS : S w) (fuel : Nat) (h : wpAnyH P .any ops Q S fuel (lst ops.size n) (actK ini vs N n) w) :
    ∀ d, d ≤ n → wpAnyH P .any ops Q S (fuel + d) (lst ops.size (n - d)) (actK ini vs N (n - d)) w := by
  intro d
  induction d with
  | zero => intro _; exact h
  | succ d ih =>
    intro hd
    have h1 := ih (by omega)
    obtain ⟨k, hk⟩ : ∃ k, n - d = k + 1 := ⟨n - d - 1, by omega⟩
    have hk' : n - (d + 1) = k := by omega
    rw [hk] at h1
    rw [hk']
    obtain ⟨y, x1, x2, x3⟩ := hst k (by omega)
    obtain ⟨y1, y2⟩ := chk_ok y
    cases ho : ops[k]? with
    | none => rw [ho] at x1; cases x1
    | some o =>
      rw [ho] at x1 x2 x3
      have hd' : o.dst = some (ini.length + k) := by simpa using x1
      refine wpAnyH_take (v := vs.getD k undef) ho hs y1 y2 (fun c a w => hQ c a _ _ w) (.inl ⟨x2, x3⟩) hS ?_
      rw [hd', actK_put (by omega) (by omega)]
      exact h1

abbrev Rof (f : Func) : Array Oper := ((f.body).bind (opsOf · 2)).getD #[]
/-- What the operations yield. -/
def vsF (pb ub : Nat) : List Value := [
    .pointer (some ⟨pb, 0, none⟩),
    .pointer (some ⟨pb, 0, none⟩),
    .pointer (some ⟨pb, 0, none⟩),
    .pointer (some ⟨pb, 0, none⟩),
    .pointer (some ⟨pb, 0, none⟩),
    .pointer (some ⟨pb, 4, none⟩),
    .agg #[.pointer (some ⟨pb, 0, none⟩), .pointer (some ⟨pb, 4, none⟩), .int .i64 0, .int .i64 20],
    .agg #[.pointer (some ⟨pb, 0, none⟩), .pointer (some ⟨pb, 4, none⟩), .int .i64 0, .int .i64 20],
    .iface 86 (.agg #[.pointer (some ⟨pb, 0, none⟩), .pointer (some ⟨pb, 4, none⟩), .int .i64 0, .int .i64 20]),
    .agg #[.int .i64 0, .iface 86 (.agg #[.pointer (some ⟨pb, 0, none⟩), .pointer (some ⟨pb, 4, none⟩), .int .i64 0, .int .i64 20])],
    .pointer (some ⟨pb, 0, none⟩),
    .pointer (some ⟨pb, 0, none⟩),
    .pointer (some ⟨pb, 8, none⟩),
    .pointer (some ⟨ub, 8, none⟩),
    .int .i64 0,
    .agg #[.pointer (some ⟨pb, 8, none⟩), .int .i64 0, .int .i64 0, .int .i64 4611686018427387903],
    .iface 89 (.agg #[.pointer (some ⟨pb, 8, none⟩), .int .i64 0, .int .i64 0, .int .i64 4611686018427387903]),
    .agg #[.int .i64 1, .iface 89 (.agg #[.pointer (some ⟨pb, 8, none⟩), .int .i64 0, .int .i64 0, .int .i64 4611686018427387903])],
    .pointer (some ⟨pb, 0, none⟩),
    .pointer (some ⟨pb, 0, none⟩),
    .pointer (some ⟨pb, 1, none⟩),
    .pointer (some ⟨pb, 0, none⟩),
    .pointer (some ⟨pb, 0, none⟩),
    .pointer (some ⟨pb, 5, none⟩),
    .agg #[.pointer (some ⟨pb, 1, none⟩), .pointer (some ⟨pb, 5, none⟩), .int .i64 16, .int .i64 16],
    .agg #[.pointer (some ⟨pb, 1, none⟩), .pointer (some ⟨pb, 5, none⟩), .int .i64 16, .int .i64 16],
    .iface 86 (.agg #[.pointer (some ⟨pb, 1, none⟩), .pointer (some ⟨pb, 5, none⟩), .int .i64 16, .int .i64 16]),
    .agg #[.int .i64 2, .iface 86 (.agg #[.pointer (some ⟨pb, 1, none⟩), .pointer (some ⟨pb, 5, none⟩), .int .i64 16, .int .i64 16])],
    .pointer (some ⟨pb, 0, none⟩),
    .pointer (some ⟨pb, 0, none⟩),
    .pointer (some ⟨pb, 9, none⟩),
    .pointer (some ⟨ub, 9, none⟩),
    .int .i64 65527,
    .agg #[.pointer (some ⟨pb, 9, none⟩), .int .i64 65527, .int .i64 1200, .int .i64 4611686018427387903],
    .iface 89 (.agg #[.pointer (some ⟨pb, 9, none⟩), .int .i64 65527, .int .i64 1200, .int .i64 4611686018427387903]),
    .agg #[.int .i64 3, .iface 89 (.agg #[.pointer (some ⟨pb, 9, none⟩), .int .i64 65527, .int .i64 1200, .int .i64 4611686018427387903])],
    .pointer (some ⟨pb, 0, none⟩),
    .pointer (some ⟨pb, 0, none⟩),
    .pointer (some ⟨pb, 10, none⟩),
    .pointer (some ⟨ub, 10, none⟩),
    .int .i64 0,
    .agg #[.pointer (some ⟨pb, 10, none⟩), .int .i64 0, .int .i64 0, .int .i64 4611686018427387903],
    .iface 89 (.agg #[.pointer (some ⟨pb, 10, none⟩), .int .i64 0, .int .i64 0, .int .i64 4611686018427387903]),
    .agg #[.int .i64 4, .iface 89 (.agg #[.pointer (some ⟨pb, 10, none⟩), .int .i64 0, .int .i64 0, .int .i64 4611686018427387903])],
    .pointer (some ⟨pb, 0, none⟩),
    .pointer (some ⟨pb, 0, none⟩),
    .pointer (some ⟨pb, 11, none⟩),
    .pointer (some ⟨ub, 11, none⟩),
    .int .i64 0,
    .agg #[.pointer (some ⟨pb, 11, none⟩), .int .i64 0, .int .i64 0, .int .i64 4611686018427387903],
    .iface 89 (.agg #[.pointer (some ⟨pb, 11, none⟩), .int .i64 0, .int .i64 0, .int .i64 4611686018427387903]),
    .agg #[.int .i64 5, .iface 89 (.agg #[.pointer (some ⟨pb, 11, none⟩), .int .i64 0, .int .i64 0, .int .i64 4611686018427387903])],
    .pointer (some ⟨pb, 0, none⟩),
    .pointer (some ⟨pb, 0, none⟩),
    .pointer (some ⟨pb, 12, none⟩),
    .pointer (some ⟨ub, 12, none⟩),
    .int .i64 0,
    .agg #[.pointer (some ⟨pb, 12, none⟩), .int .i64 0, .int .i64 0, .int .i64 4611686018427387903],
    .iface 89 (.agg #[.pointer (some ⟨pb, 12, none⟩), .int .i64 0, .int .i64 0, .int .i64 4611686018427387903]),
    .agg #[.int .i64 6, .iface 89 (.agg #[.pointer (some ⟨pb, 12, none⟩), .int .i64 0, .int .i64 0, .int .i64 4611686018427387903])],
    .pointer (some ⟨pb, 0, none⟩),
    .pointer (some ⟨pb, 0, none⟩),
    .pointer (some ⟨pb, 13, none⟩),
    .pointer (some ⟨ub, 13, none⟩),
    .int .i64 0,
    .agg #[.pointer (some ⟨pb, 13, none⟩), .int .i64 0, .int .i64 0, .int .i64 4611686018427387903],
    .iface 89 (.agg #[.pointer (some ⟨pb, 13, none⟩), .int .i64 0, .int .i64 0, .int .i64 4611686018427387903]),
    .agg #[.int .i64 7, .iface 89 (.agg #[.pointer (some ⟨pb, 13, none⟩), .int .i64 0, .int .i64 0, .int .i64 4611686018427387903])],
    .pointer (some ⟨pb, 0, none⟩),
    .pointer (some ⟨pb, 0, none⟩),
    .pointer (some ⟨pb, 14, none⟩),
    .pointer (some ⟨ub, 14, none⟩),
    .int .i64 0,
    .agg #[.pointer (some ⟨pb, 14, none⟩), .int .i64 0, .int .i64 0, .int .i64 1152921504606846976],
    .iface 89 (.agg #[.pointer (some ⟨pb, 14, none⟩), .int .i64 0, .int .i64 0, .int .i64 1152921504606846976]),
    .agg #[.int .i64 8, .iface 89 (.agg #[.pointer (some ⟨pb, 14, none⟩), .int .i64 0, .int .i64 0, .int .i64 1152921504606846976])],
    .pointer (some ⟨pb, 0, none⟩),
    .pointer (some ⟨pb, 0, none⟩),
    .pointer (some ⟨pb, 15, none⟩),
    .pointer (some ⟨ub, 15, none⟩),
    .int .i64 0,
    .agg #[.pointer (some ⟨pb, 15, none⟩), .int .i64 0, .int .i64 0, .int .i64 1152921504606846976],
    .iface 89 (.agg #[.pointer (some ⟨pb, 15, none⟩), .int .i64 0, .int .i64 0, .int .i64 1152921504606846976]),
    .agg #[.int .i64 9, .iface 89 (.agg #[.pointer (some ⟨pb, 15, none⟩), .int .i64 0, .int .i64 0, .int .i64 1152921504606846976])],
    .pointer (some ⟨pb, 0, none⟩),
    .pointer (some ⟨pb, 0, none⟩),
    .pointer (some ⟨pb, 16, none⟩),
    .pointer (some ⟨ub, 16, none⟩),
    .int .i64 3,
    .agg #[.pointer (some ⟨pb, 16, none⟩), .int .i64 3, .int .i64 0, .int .i64 20],
    .iface 89 (.agg #[.pointer (some ⟨pb, 16, none⟩), .int .i64 3, .int .i64 0, .int .i64 20]),
    .agg #[.int .i64 10, .iface 89 (.agg #[.pointer (some ⟨pb, 16, none⟩), .int .i64 3, .int .i64 0, .int .i64 20])],
    .pointer (some ⟨pb, 0, none⟩),
    .pointer (some ⟨pb, 0, none⟩),
    .pointer (some ⟨pb, 17, none⟩),
    .pointer (some ⟨ub, 17, none⟩),
    .int .i64 25,
    .agg #[.pointer (some ⟨pb, 17, none⟩), .int .i64 25, .int .i64 0, .int .i64 16383],
    .iface 89 (.agg #[.pointer (some ⟨pb, 17, none⟩), .int .i64 25, .int .i64 0, .int .i64 16383]),
    .agg #[.int .i64 11, .iface 89 (.agg #[.pointer (some ⟨pb, 17, none⟩), .int .i64 25, .int .i64 0, .int .i64 16383])],
    .pointer (some ⟨pb, 0, none⟩),
    .pointer (some ⟨pb, 0, none⟩),
    .pointer (some ⟨pb, 19, none⟩),
    .agg #[.pointer (some ⟨pb, 19, none⟩)],
    .iface 91 (.agg #[.pointer (some ⟨pb, 19, none⟩)]),
    .agg #[.int .i64 12, .iface 91 (.agg #[.pointer (some ⟨pb, 19, none⟩)])],
    .pointer (some ⟨pb, 0, none⟩),
    .pointer (some ⟨pb, 0, none⟩),
    .pointer (some ⟨pb, 18, none⟩),
    .pointer (some ⟨ub, 18, none⟩),
    .int .i64 2,
    .agg #[.pointer (some ⟨pb, 18, none⟩), .int .i64 2, .int .i64 2, .int .i64 4611686018427387903],
    .iface 89 (.agg #[.pointer (some ⟨pb, 18, none⟩), .int .i64 2, .int .i64 2, .int .i64 4611686018427387903]),
    .agg #[.int .i64 14, .iface 89 (.agg #[.pointer (some ⟨pb, 18, none⟩), .int .i64 2, .int .i64 2, .int .i64 4611686018427387903])],
    .pointer (some ⟨pb, 0, none⟩),
    .pointer (some ⟨pb, 0, none⟩),
    .pointer (some ⟨pb, 2, none⟩),
    .pointer (some ⟨pb, 0, none⟩),
    .pointer (some ⟨pb, 0, none⟩),
    .pointer (some ⟨pb, 6, none⟩),
    .agg #[.pointer (some ⟨pb, 2, none⟩), .pointer (some ⟨pb, 6, none⟩), .int .i64 0, .int .i64 20],
    .iface 84 (.agg #[.pointer (some ⟨pb, 2, none⟩), .pointer (some ⟨pb, 6, none⟩), .int .i64 0, .int .i64 20]),
    .agg #[.int .i64 15, .iface 84 (.agg #[.pointer (some ⟨pb, 2, none⟩), .pointer (some ⟨pb, 6, none⟩), .int .i64 0, .int .i64 20])],
    .pointer (some ⟨pb, 0, none⟩),
    .pointer (some ⟨pb, 0, none⟩),
    .pointer (some ⟨pb, 3, none⟩),
    .pointer (some ⟨pb, 0, none⟩),
    .pointer (some ⟨pb, 0, none⟩),
    .pointer (some ⟨pb, 7, none⟩),
    .agg #[.pointer (some ⟨pb, 3, none⟩), .pointer (some ⟨pb, 7, none⟩), .int .i64 0, .int .i64 20],
    .agg #[.pointer (some ⟨pb, 3, none⟩), .pointer (some ⟨pb, 7, none⟩), .int .i64 0, .int .i64 20],
    .iface 86 (.agg #[.pointer (some ⟨pb, 3, none⟩), .pointer (some ⟨pb, 7, none⟩), .int .i64 0, .int .i64 20]),
    .agg #[.int .i64 16, .iface 86 (.agg #[.pointer (some ⟨pb, 3, none⟩), .pointer (some ⟨pb, 7, none⟩), .int .i64 0, .int .i64 20])]]
def iniF (pb ub : Nat) : List Value := [.pointer (some ⟨pb, 0, none⟩), undef, .slice none 0 0, .pointer (some ⟨ub, 0, none⟩), .agg usA]
def SF (ub : Nat) (w : World) : Prop := w.heap[ub]? = some (.cells usA 24 (0, 0))
abbrev Stp (pb ub k : Nat) : Prop := StpG Try.prog (Rof Try.f23) (iniF pb ub) (vsF pb ub) 134 (SF ub) k
theorem run_ld {o : Oper} {a : Act} {w : World} (x : Operand) (b j : Nat) (n : Int) (ho : o.op = .load 3 x) (hx : a.eval x = .pointer (some ⟨b, j, none⟩)) (hc : w.cell? ⟨b, j, none⟩ = some (.int .i64 n)) :
    (execOp a.eval o).run Try.prog w = .ok (.value (.int .i64 n)) w := by
  have hst : (loadVar 3 ⟨b, j, none⟩).run Try.prog w = .ok (.int .i64 n) w := by simp [loadVar, go_sem, hc]
  unfold execOp
  simp only [ho, hx, Instr.loadAt, Instr.sureAddr, Sem.run_bind, Sem.run_pure, Result.andThen_ok, hst]
theorem sf_cell {ub : Nat} {w : World} (h : SF ub w) (j : Nat) (n : Int) (hj : usA[j]? = some (.int .i64 n)) : w.cell? ⟨ub, j, none⟩ = some (.int .i64 n) := by
  rw [cell_of_row w ub j _ 24 (0, 0) h]; exact hj
theorem size2 : (Rof Try.f23).size = 135 := by kernel_rfl
theorem sel2 : Region.noSelect (Rof Try.f23) = true := by kernel_rfl
theorem st0 (pb ub : Nat) : Stp pb ub 0 := ⟨by kernel_rfl, by kernel_rfl, by kernel_rfl, fun _ _ => by kernel_rfl⟩
theorem st1 (pb ub : Nat) : Stp pb ub 1 := ⟨by kernel_rfl, by kernel_rfl, by kernel_rfl, fun _ _ => by kernel_rfl⟩
theorem st2 (pb ub : Nat) : Stp pb ub 2 := ⟨by kernel_rfl, by kernel_rfl, by kernel_rfl, fun _ _ => by kernel_rfl⟩
theorem st3 (pb ub : Nat) : Stp pb ub 3 := ⟨by kernel_rfl, by kernel_rfl, by kernel_rfl, fun _ _ => by kernel_rfl⟩
theorem st4 (pb ub : Nat) : Stp pb ub 4 := ⟨by kernel_rfl, by kernel_rfl, by kernel_rfl, fun _ _ => by kernel_rfl⟩
theorem st5 (pb ub : Nat) : Stp pb ub 5 := ⟨by kernel_rfl, by kernel_rfl, by kernel_rfl, fun _ _ => by kernel_rfl⟩
theorem st6 (pb ub : Nat) : Stp pb ub 6 := ⟨by kernel_rfl, by kernel_rfl, by kernel_rfl, fun _ _ => by kernel_rfl⟩
theorem st7 (pb ub : Nat) : Stp pb ub 7 := ⟨by kernel_rfl, by kernel_rfl, by kernel_rfl, fun _ _ => by kernel_rfl⟩
theorem st8 (pb ub : Nat) : Stp pb ub 8 := ⟨by kernel_rfl, by kernel_rfl, by kernel_rfl, fun _ _ => by kernel_rfl⟩
theorem st9 (pb ub : Nat) : Stp pb ub 9 := ⟨by kernel_rfl, by kernel_rfl, by kernel_rfl, fun _ _ => by kernel_rfl⟩
theorem st10 (pb ub : Nat) : Stp pb ub 10 := ⟨by kernel_rfl, by kernel_rfl, by kernel_rfl, fun _ _ => by kernel_rfl⟩
theorem st11 (pb ub : Nat) : Stp pb ub 11 := ⟨by kernel_rfl, by kernel_rfl, by kernel_rfl, fun _ _ => by kernel_rfl⟩
theorem st12 (pb ub : Nat) : Stp pb ub 12 := ⟨by kernel_rfl, by kernel_rfl, by kernel_rfl, fun _ _ => by kernel_rfl⟩
theorem st13 (pb ub : Nat) : Stp pb ub 13 := ⟨by kernel_rfl, by kernel_rfl, by kernel_rfl, fun _ _ => by kernel_rfl⟩
theorem st14 (pb ub : Nat) : Stp pb ub 14 := ⟨by kernel_rfl, by kernel_rfl, by kernel_rfl, fun w h => run_ld (.tmp 18) ub 8 0 (by kernel_rfl) (by kernel_rfl) (sf_cell h _ _ rfl)⟩
theorem st15 (pb ub : Nat) : Stp pb ub 15 := ⟨by kernel_rfl, by kernel_rfl, by kernel_rfl, fun _ _ => by kernel_rfl⟩
theorem st16 (pb ub : Nat) : Stp pb ub 16 := ⟨by kernel_rfl, by kernel_rfl, by kernel_rfl, fun _ _ => by kernel_rfl⟩
theorem st17 (pb ub : Nat) : Stp pb ub 17 := ⟨by kernel_rfl, by kernel_rfl, by kernel_rfl, fun _ _ => by kernel_rfl⟩
theorem st18 (pb ub : Nat) : Stp pb ub 18 := ⟨by kernel_rfl, by kernel_rfl, by kernel_rfl, fun _ _ => by kernel_rfl⟩
theorem st19 (pb ub : Nat) : Stp pb ub 19 := ⟨by kernel_rfl, by kernel_rfl, by kernel_rfl, fun _ _ => by kernel_rfl⟩
theorem st20 (pb ub : Nat) : Stp pb ub 20 := ⟨by kernel_rfl, by kernel_rfl, by kernel_rfl, fun _ _ => by kernel_rfl⟩
theorem st21 (pb ub : Nat) : Stp pb ub 21 := ⟨by kernel_rfl, by kernel_rfl, by kernel_rfl, fun _ _ => by kernel_rfl⟩
theorem st22 (pb ub : Nat) : Stp pb ub 22 := ⟨by kernel_rfl, by kernel_rfl, by kernel_rfl, fun _ _ => by kernel_rfl⟩
theorem st23 (pb ub : Nat) : Stp pb ub 23 := ⟨by kernel_rfl, by kernel_rfl, by kernel_rfl, fun _ _ => by kernel_rfl⟩
theorem st24 (pb ub : Nat) : Stp pb ub 24 := ⟨by kernel_rfl, by kernel_rfl, by kernel_rfl, fun _ _ => by kernel_rfl⟩
theorem st25 (pb ub : Nat) : Stp pb ub 25 := ⟨by kernel_rfl, by kernel_rfl, by kernel_rfl, fun _ _ => by kernel_rfl⟩
theorem st26 (pb ub : Nat) : Stp pb ub 26 := ⟨by kernel_rfl, by kernel_rfl, by kernel_rfl, fun _ _ => by kernel_rfl⟩
theorem st27 (pb ub : Nat) : Stp pb ub 27 := ⟨by kernel_rfl, by kernel_rfl, by kernel_rfl, fun _ _ => by kernel_rfl⟩
theorem st28 (pb ub : Nat) : Stp pb ub 28 := ⟨by kernel_rfl, by kernel_rfl, by kernel_rfl, fun _ _ => by kernel_rfl⟩
theorem st29 (pb ub : Nat) : Stp pb ub 29 := ⟨by kernel_rfl, by kernel_rfl, by kernel_rfl, fun _ _ => by kernel_rfl⟩
theorem st30 (pb ub : Nat) : Stp pb ub 30 := ⟨by kernel_rfl, by kernel_rfl, by kernel_rfl, fun _ _ => by kernel_rfl⟩
theorem st31 (pb ub : Nat) : Stp pb ub 31 := ⟨by kernel_rfl, by kernel_rfl, by kernel_rfl, fun _ _ => by kernel_rfl⟩
theorem st32 (pb ub : Nat) : Stp pb ub 32 := ⟨by kernel_rfl, by kernel_rfl, by kernel_rfl, fun w h => run_ld (.tmp 36) ub 9 65527 (by kernel_rfl) (by kernel_rfl) (sf_cell h _ _ rfl)⟩
theorem st33 (pb ub : Nat) : Stp pb ub 33 := ⟨by kernel_rfl, by kernel_rfl, by kernel_rfl, fun _ _ => by kernel_rfl⟩
theorem st34 (pb ub : Nat) : Stp pb ub 34 := ⟨by kernel_rfl, by kernel_rfl, by kernel_rfl, fun _ _ => by kernel_rfl⟩
theorem st35 (pb ub : Nat) : Stp pb ub 35 := ⟨by kernel_rfl, by kernel_rfl, by kernel_rfl, fun _ _ => by kernel_rfl⟩
theorem st36 (pb ub : Nat) : Stp pb ub 36 := ⟨by kernel_rfl, by kernel_rfl, by kernel_rfl, fun _ _ => by kernel_rfl⟩
theorem st37 (pb ub : Nat) : Stp pb ub 37 := ⟨by kernel_rfl, by kernel_rfl, by kernel_rfl, fun _ _ => by kernel_rfl⟩
theorem st38 (pb ub : Nat) : Stp pb ub 38 := ⟨by kernel_rfl, by kernel_rfl, by kernel_rfl, fun _ _ => by kernel_rfl⟩
theorem st39 (pb ub : Nat) : Stp pb ub 39 := ⟨by kernel_rfl, by kernel_rfl, by kernel_rfl, fun _ _ => by kernel_rfl⟩
theorem st40 (pb ub : Nat) : Stp pb ub 40 := ⟨by kernel_rfl, by kernel_rfl, by kernel_rfl, fun w h => run_ld (.tmp 44) ub 10 0 (by kernel_rfl) (by kernel_rfl) (sf_cell h _ _ rfl)⟩
theorem st41 (pb ub : Nat) : Stp pb ub 41 := ⟨by kernel_rfl, by kernel_rfl, by kernel_rfl, fun _ _ => by kernel_rfl⟩
theorem st42 (pb ub : Nat) : Stp pb ub 42 := ⟨by kernel_rfl, by kernel_rfl, by kernel_rfl, fun _ _ => by kernel_rfl⟩
theorem st43 (pb ub : Nat) : Stp pb ub 43 := ⟨by kernel_rfl, by kernel_rfl, by kernel_rfl, fun _ _ => by kernel_rfl⟩
theorem st44 (pb ub : Nat) : Stp pb ub 44 := ⟨by kernel_rfl, by kernel_rfl, by kernel_rfl, fun _ _ => by kernel_rfl⟩
theorem st45 (pb ub : Nat) : Stp pb ub 45 := ⟨by kernel_rfl, by kernel_rfl, by kernel_rfl, fun _ _ => by kernel_rfl⟩
theorem st46 (pb ub : Nat) : Stp pb ub 46 := ⟨by kernel_rfl, by kernel_rfl, by kernel_rfl, fun _ _ => by kernel_rfl⟩
theorem st47 (pb ub : Nat) : Stp pb ub 47 := ⟨by kernel_rfl, by kernel_rfl, by kernel_rfl, fun _ _ => by kernel_rfl⟩
theorem st48 (pb ub : Nat) : Stp pb ub 48 := ⟨by kernel_rfl, by kernel_rfl, by kernel_rfl, fun w h => run_ld (.tmp 52) ub 11 0 (by kernel_rfl) (by kernel_rfl) (sf_cell h _ _ rfl)⟩
theorem st49 (pb ub : Nat) : Stp pb ub 49 := ⟨by kernel_rfl, by kernel_rfl, by kernel_rfl, fun _ _ => by kernel_rfl⟩
theorem st50 (pb ub : Nat) : Stp pb ub 50 := ⟨by kernel_rfl, by kernel_rfl, by kernel_rfl, fun _ _ => by kernel_rfl⟩
theorem st51 (pb ub : Nat) : Stp pb ub 51 := ⟨by kernel_rfl, by kernel_rfl, by kernel_rfl, fun _ _ => by kernel_rfl⟩
theorem st52 (pb ub : Nat) : Stp pb ub 52 := ⟨by kernel_rfl, by kernel_rfl, by kernel_rfl, fun _ _ => by kernel_rfl⟩
theorem st53 (pb ub : Nat) : Stp pb ub 53 := ⟨by kernel_rfl, by kernel_rfl, by kernel_rfl, fun _ _ => by kernel_rfl⟩
theorem st54 (pb ub : Nat) : Stp pb ub 54 := ⟨by kernel_rfl, by kernel_rfl, by kernel_rfl, fun _ _ => by kernel_rfl⟩
theorem st55 (pb ub : Nat) : Stp pb ub 55 := ⟨by kernel_rfl, by kernel_rfl, by kernel_rfl, fun _ _ => by kernel_rfl⟩
theorem st56 (pb ub : Nat) : Stp pb ub 56 := ⟨by kernel_rfl, by kernel_rfl, by kernel_rfl, fun w h => run_ld (.tmp 60) ub 12 0 (by kernel_rfl) (by kernel_rfl) (sf_cell h _ _ rfl)⟩
theorem st57 (pb ub : Nat) : Stp pb ub 57 := ⟨by kernel_rfl, by kernel_rfl, by kernel_rfl, fun _ _ => by kernel_rfl⟩
theorem st58 (pb ub : Nat) : Stp pb ub 58 := ⟨by kernel_rfl, by kernel_rfl, by kernel_rfl, fun _ _ => by kernel_rfl⟩
theorem st59 (pb ub : Nat) : Stp pb ub 59 := ⟨by kernel_rfl, by kernel_rfl, by kernel_rfl, fun _ _ => by kernel_rfl⟩
theorem st60 (pb ub : Nat) : Stp pb ub 60 := ⟨by kernel_rfl, by kernel_rfl, by kernel_rfl, fun _ _ => by kernel_rfl⟩
theorem st61 (pb ub : Nat) : Stp pb ub 61 := ⟨by kernel_rfl, by kernel_rfl, by kernel_rfl, fun _ _ => by kernel_rfl⟩
theorem st62 (pb ub : Nat) : Stp pb ub 62 := ⟨by kernel_rfl, by kernel_rfl, by kernel_rfl, fun _ _ => by kernel_rfl⟩
theorem st63 (pb ub : Nat) : Stp pb ub 63 := ⟨by kernel_rfl, by kernel_rfl, by kernel_rfl, fun _ _ => by kernel_rfl⟩
theorem st64 (pb ub : Nat) : Stp pb ub 64 := ⟨by kernel_rfl, by kernel_rfl, by kernel_rfl, fun w h => run_ld (.tmp 68) ub 13 0 (by kernel_rfl) (by kernel_rfl) (sf_cell h _ _ rfl)⟩
theorem st65 (pb ub : Nat) : Stp pb ub 65 := ⟨by kernel_rfl, by kernel_rfl, by kernel_rfl, fun _ _ => by kernel_rfl⟩
theorem st66 (pb ub : Nat) : Stp pb ub 66 := ⟨by kernel_rfl, by kernel_rfl, by kernel_rfl, fun _ _ => by kernel_rfl⟩
theorem st67 (pb ub : Nat) : Stp pb ub 67 := ⟨by kernel_rfl, by kernel_rfl, by kernel_rfl, fun _ _ => by kernel_rfl⟩
theorem st68 (pb ub : Nat) : Stp pb ub 68 := ⟨by kernel_rfl, by kernel_rfl, by kernel_rfl, fun _ _ => by kernel_rfl⟩
theorem st69 (pb ub : Nat) : Stp pb ub 69 := ⟨by kernel_rfl, by kernel_rfl, by kernel_rfl, fun _ _ => by kernel_rfl⟩
theorem st70 (pb ub : Nat) : Stp pb ub 70 := ⟨by kernel_rfl, by kernel_rfl, by kernel_rfl, fun _ _ => by kernel_rfl⟩
theorem st71 (pb ub : Nat) : Stp pb ub 71 := ⟨by kernel_rfl, by kernel_rfl, by kernel_rfl, fun _ _ => by kernel_rfl⟩
theorem st72 (pb ub : Nat) : Stp pb ub 72 := ⟨by kernel_rfl, by kernel_rfl, by kernel_rfl, fun w h => run_ld (.tmp 76) ub 14 0 (by kernel_rfl) (by kernel_rfl) (sf_cell h _ _ rfl)⟩
theorem st73 (pb ub : Nat) : Stp pb ub 73 := ⟨by kernel_rfl, by kernel_rfl, by kernel_rfl, fun _ _ => by kernel_rfl⟩
theorem st74 (pb ub : Nat) : Stp pb ub 74 := ⟨by kernel_rfl, by kernel_rfl, by kernel_rfl, fun _ _ => by kernel_rfl⟩
theorem st75 (pb ub : Nat) : Stp pb ub 75 := ⟨by kernel_rfl, by kernel_rfl, by kernel_rfl, fun _ _ => by kernel_rfl⟩
theorem st76 (pb ub : Nat) : Stp pb ub 76 := ⟨by kernel_rfl, by kernel_rfl, by kernel_rfl, fun _ _ => by kernel_rfl⟩
theorem st77 (pb ub : Nat) : Stp pb ub 77 := ⟨by kernel_rfl, by kernel_rfl, by kernel_rfl, fun _ _ => by kernel_rfl⟩
theorem st78 (pb ub : Nat) : Stp pb ub 78 := ⟨by kernel_rfl, by kernel_rfl, by kernel_rfl, fun _ _ => by kernel_rfl⟩
theorem st79 (pb ub : Nat) : Stp pb ub 79 := ⟨by kernel_rfl, by kernel_rfl, by kernel_rfl, fun _ _ => by kernel_rfl⟩
theorem st80 (pb ub : Nat) : Stp pb ub 80 := ⟨by kernel_rfl, by kernel_rfl, by kernel_rfl, fun w h => run_ld (.tmp 84) ub 15 0 (by kernel_rfl) (by kernel_rfl) (sf_cell h _ _ rfl)⟩
theorem st81 (pb ub : Nat) : Stp pb ub 81 := ⟨by kernel_rfl, by kernel_rfl, by kernel_rfl, fun _ _ => by kernel_rfl⟩
theorem st82 (pb ub : Nat) : Stp pb ub 82 := ⟨by kernel_rfl, by kernel_rfl, by kernel_rfl, fun _ _ => by kernel_rfl⟩
theorem st83 (pb ub : Nat) : Stp pb ub 83 := ⟨by kernel_rfl, by kernel_rfl, by kernel_rfl, fun _ _ => by kernel_rfl⟩
theorem st84 (pb ub : Nat) : Stp pb ub 84 := ⟨by kernel_rfl, by kernel_rfl, by kernel_rfl, fun _ _ => by kernel_rfl⟩
theorem st85 (pb ub : Nat) : Stp pb ub 85 := ⟨by kernel_rfl, by kernel_rfl, by kernel_rfl, fun _ _ => by kernel_rfl⟩
theorem st86 (pb ub : Nat) : Stp pb ub 86 := ⟨by kernel_rfl, by kernel_rfl, by kernel_rfl, fun _ _ => by kernel_rfl⟩
theorem st87 (pb ub : Nat) : Stp pb ub 87 := ⟨by kernel_rfl, by kernel_rfl, by kernel_rfl, fun _ _ => by kernel_rfl⟩
theorem st88 (pb ub : Nat) : Stp pb ub 88 := ⟨by kernel_rfl, by kernel_rfl, by kernel_rfl, fun w h => run_ld (.tmp 92) ub 16 3 (by kernel_rfl) (by kernel_rfl) (sf_cell h _ _ rfl)⟩
theorem st89 (pb ub : Nat) : Stp pb ub 89 := ⟨by kernel_rfl, by kernel_rfl, by kernel_rfl, fun _ _ => by kernel_rfl⟩
theorem st90 (pb ub : Nat) : Stp pb ub 90 := ⟨by kernel_rfl, by kernel_rfl, by kernel_rfl, fun _ _ => by kernel_rfl⟩
theorem st91 (pb ub : Nat) : Stp pb ub 91 := ⟨by kernel_rfl, by kernel_rfl, by kernel_rfl, fun _ _ => by kernel_rfl⟩
theorem st92 (pb ub : Nat) : Stp pb ub 92 := ⟨by kernel_rfl, by kernel_rfl, by kernel_rfl, fun _ _ => by kernel_rfl⟩
theorem st93 (pb ub : Nat) : Stp pb ub 93 := ⟨by kernel_rfl, by kernel_rfl, by kernel_rfl, fun _ _ => by kernel_rfl⟩
theorem st94 (pb ub : Nat) : Stp pb ub 94 := ⟨by kernel_rfl, by kernel_rfl, by kernel_rfl, fun _ _ => by kernel_rfl⟩
theorem st95 (pb ub : Nat) : Stp pb ub 95 := ⟨by kernel_rfl, by kernel_rfl, by kernel_rfl, fun _ _ => by kernel_rfl⟩
theorem st96 (pb ub : Nat) : Stp pb ub 96 := ⟨by kernel_rfl, by kernel_rfl, by kernel_rfl, fun w h => run_ld (.tmp 100) ub 17 25 (by kernel_rfl) (by kernel_rfl) (sf_cell h _ _ rfl)⟩
theorem st97 (pb ub : Nat) : Stp pb ub 97 := ⟨by kernel_rfl, by kernel_rfl, by kernel_rfl, fun _ _ => by kernel_rfl⟩
theorem st98 (pb ub : Nat) : Stp pb ub 98 := ⟨by kernel_rfl, by kernel_rfl, by kernel_rfl, fun _ _ => by kernel_rfl⟩
theorem st99 (pb ub : Nat) : Stp pb ub 99 := ⟨by kernel_rfl, by kernel_rfl, by kernel_rfl, fun _ _ => by kernel_rfl⟩
theorem st100 (pb ub : Nat) : Stp pb ub 100 := ⟨by kernel_rfl, by kernel_rfl, by kernel_rfl, fun _ _ => by kernel_rfl⟩
theorem st101 (pb ub : Nat) : Stp pb ub 101 := ⟨by kernel_rfl, by kernel_rfl, by kernel_rfl, fun _ _ => by kernel_rfl⟩
theorem st102 (pb ub : Nat) : Stp pb ub 102 := ⟨by kernel_rfl, by kernel_rfl, by kernel_rfl, fun _ _ => by kernel_rfl⟩
theorem st103 (pb ub : Nat) : Stp pb ub 103 := ⟨by kernel_rfl, by kernel_rfl, by kernel_rfl, fun _ _ => by kernel_rfl⟩
theorem st104 (pb ub : Nat) : Stp pb ub 104 := ⟨by kernel_rfl, by kernel_rfl, by kernel_rfl, fun _ _ => by kernel_rfl⟩
theorem st105 (pb ub : Nat) : Stp pb ub 105 := ⟨by kernel_rfl, by kernel_rfl, by kernel_rfl, fun _ _ => by kernel_rfl⟩
theorem st106 (pb ub : Nat) : Stp pb ub 106 := ⟨by kernel_rfl, by kernel_rfl, by kernel_rfl, fun _ _ => by kernel_rfl⟩
theorem st107 (pb ub : Nat) : Stp pb ub 107 := ⟨by kernel_rfl, by kernel_rfl, by kernel_rfl, fun _ _ => by kernel_rfl⟩
theorem st108 (pb ub : Nat) : Stp pb ub 108 := ⟨by kernel_rfl, by kernel_rfl, by kernel_rfl, fun _ _ => by kernel_rfl⟩
theorem st109 (pb ub : Nat) : Stp pb ub 109 := ⟨by kernel_rfl, by kernel_rfl, by kernel_rfl, fun _ _ => by kernel_rfl⟩
theorem st110 (pb ub : Nat) : Stp pb ub 110 := ⟨by kernel_rfl, by kernel_rfl, by kernel_rfl, fun w h => run_ld (.tmp 114) ub 18 2 (by kernel_rfl) (by kernel_rfl) (sf_cell h _ _ rfl)⟩
theorem st111 (pb ub : Nat) : Stp pb ub 111 := ⟨by kernel_rfl, by kernel_rfl, by kernel_rfl, fun _ _ => by kernel_rfl⟩
theorem st112 (pb ub : Nat) : Stp pb ub 112 := ⟨by kernel_rfl, by kernel_rfl, by kernel_rfl, fun _ _ => by kernel_rfl⟩
theorem st113 (pb ub : Nat) : Stp pb ub 113 := ⟨by kernel_rfl, by kernel_rfl, by kernel_rfl, fun _ _ => by kernel_rfl⟩
theorem st114 (pb ub : Nat) : Stp pb ub 114 := ⟨by kernel_rfl, by kernel_rfl, by kernel_rfl, fun _ _ => by kernel_rfl⟩
theorem st115 (pb ub : Nat) : Stp pb ub 115 := ⟨by kernel_rfl, by kernel_rfl, by kernel_rfl, fun _ _ => by kernel_rfl⟩
theorem st116 (pb ub : Nat) : Stp pb ub 116 := ⟨by kernel_rfl, by kernel_rfl, by kernel_rfl, fun _ _ => by kernel_rfl⟩
theorem st117 (pb ub : Nat) : Stp pb ub 117 := ⟨by kernel_rfl, by kernel_rfl, by kernel_rfl, fun _ _ => by kernel_rfl⟩
theorem st118 (pb ub : Nat) : Stp pb ub 118 := ⟨by kernel_rfl, by kernel_rfl, by kernel_rfl, fun _ _ => by kernel_rfl⟩
theorem st119 (pb ub : Nat) : Stp pb ub 119 := ⟨by kernel_rfl, by kernel_rfl, by kernel_rfl, fun _ _ => by kernel_rfl⟩
theorem st120 (pb ub : Nat) : Stp pb ub 120 := ⟨by kernel_rfl, by kernel_rfl, by kernel_rfl, fun _ _ => by kernel_rfl⟩
theorem st121 (pb ub : Nat) : Stp pb ub 121 := ⟨by kernel_rfl, by kernel_rfl, by kernel_rfl, fun _ _ => by kernel_rfl⟩
theorem st122 (pb ub : Nat) : Stp pb ub 122 := ⟨by kernel_rfl, by kernel_rfl, by kernel_rfl, fun _ _ => by kernel_rfl⟩
theorem st123 (pb ub : Nat) : Stp pb ub 123 := ⟨by kernel_rfl, by kernel_rfl, by kernel_rfl, fun _ _ => by kernel_rfl⟩
theorem st124 (pb ub : Nat) : Stp pb ub 124 := ⟨by kernel_rfl, by kernel_rfl, by kernel_rfl, fun _ _ => by kernel_rfl⟩
theorem st125 (pb ub : Nat) : Stp pb ub 125 := ⟨by kernel_rfl, by kernel_rfl, by kernel_rfl, fun _ _ => by kernel_rfl⟩
theorem st126 (pb ub : Nat) : Stp pb ub 126 := ⟨by kernel_rfl, by kernel_rfl, by kernel_rfl, fun _ _ => by kernel_rfl⟩
theorem st127 (pb ub : Nat) : Stp pb ub 127 := ⟨by kernel_rfl, by kernel_rfl, by kernel_rfl, fun _ _ => by kernel_rfl⟩
theorem st128 (pb ub : Nat) : Stp pb ub 128 := ⟨by kernel_rfl, by kernel_rfl, by kernel_rfl, fun _ _ => by kernel_rfl⟩
theorem st129 (pb ub : Nat) : Stp pb ub 129 := ⟨by kernel_rfl, by kernel_rfl, by kernel_rfl, fun _ _ => by kernel_rfl⟩
theorem st130 (pb ub : Nat) : Stp pb ub 130 := ⟨by kernel_rfl, by kernel_rfl, by kernel_rfl, fun _ _ => by kernel_rfl⟩
theorem st131 (pb ub : Nat) : Stp pb ub 131 := ⟨by kernel_rfl, by kernel_rfl, by kernel_rfl, fun _ _ => by kernel_rfl⟩
theorem st132 (pb ub : Nat) : Stp pb ub 132 := ⟨by kernel_rfl, by kernel_rfl, by kernel_rfl, fun _ _ => by kernel_rfl⟩
theorem steps (pb ub : Nat) : ∀ k, k < 133 → Stp pb ub k
  | 0, _ => st0 pb ub
  | 1, _ => st1 pb ub
  | 2, _ => st2 pb ub
  | 3, _ => st3 pb ub
  | 4, _ => st4 pb ub
  | 5, _ => st5 pb ub
  | 6, _ => st6 pb ub
  | 7, _ => st7 pb ub
  | 8, _ => st8 pb ub
  | 9, _ => st9 pb ub
  | 10, _ => st10 pb ub
  | 11, _ => st11 pb ub
  | 12, _ => st12 pb ub
  | 13, _ => st13 pb ub
  | 14, _ => st14 pb ub
  | 15, _ => st15 pb ub
  | 16, _ => st16 pb ub
  | 17, _ => st17 pb ub
  | 18, _ => st18 pb ub
  | 19, _ => st19 pb ub
  | 20, _ => st20 pb ub
  | 21, _ => st21 pb ub
  | 22, _ => st22 pb ub
  | 23, _ => st23 pb ub
  | 24, _ => st24 pb ub
  | 25, _ => st25 pb ub
  | 26, _ => st26 pb ub
  | 27, _ => st27 pb ub
  | 28, _ => st28 pb ub
  | 29, _ => st29 pb ub
  | 30, _ => st30 pb ub
  | 31, _ => st31 pb ub
  | 32, _ => st32 pb ub
  | 33, _ => st33 pb ub
  | 34, _ => st34 pb ub
  | 35, _ => st35 pb ub
  | 36, _ => st36 pb ub
  | 37, _ => st37 pb ub
  | 38, _ => st38 pb ub
  | 39, _ => st39 pb ub
  | 40, _ => st40 pb ub
  | 41, _ => st41 pb ub
  | 42, _ => st42 pb ub
  | 43, _ => st43 pb ub
  | 44, _ => st44 pb ub
  | 45, _ => st45 pb ub
  | 46, _ => st46 pb ub
  | 47, _ => st47 pb ub
  | 48, _ => st48 pb ub
  | 49, _ => st49 pb ub
  | 50, _ => st50 pb ub
  | 51, _ => st51 pb ub
  | 52, _ => st52 pb ub
  | 53, _ => st53 pb ub
  | 54, _ => st54 pb ub
  | 55, _ => st55 pb ub
  | 56, _ => st56 pb ub
  | 57, _ => st57 pb ub
  | 58, _ => st58 pb ub
  | 59, _ => st59 pb ub
  | 60, _ => st60 pb ub
  | 61, _ => st61 pb ub
  | 62, _ => st62 pb ub
  | 63, _ => st63 pb ub
  | 64, _ => st64 pb ub
  | 65, _ => st65 pb ub
  | 66, _ => st66 pb ub
  | 67, _ => st67 pb ub
  | 68, _ => st68 pb ub
  | 69, _ => st69 pb ub
  | 70, _ => st70 pb ub
  | 71, _ => st71 pb ub
  | 72, _ => st72 pb ub
  | 73, _ => st73 pb ub
  | 74, _ => st74 pb ub
  | 75, _ => st75 pb ub
  | 76, _ => st76 pb ub
  | 77, _ => st77 pb ub
  | 78, _ => st78 pb ub
  | 79, _ => st79 pb ub
  | 80, _ => st80 pb ub
  | 81, _ => st81 pb ub
  | 82, _ => st82 pb ub
  | 83, _ => st83 pb ub
  | 84, _ => st84 pb ub
  | 85, _ => st85 pb ub
  | 86, _ => st86 pb ub
  | 87, _ => st87 pb ub
  | 88, _ => st88 pb ub
  | 89, _ => st89 pb ub
  | 90, _ => st90 pb ub
  | 91, _ => st91 pb ub
  | 92, _ => st92 pb ub
  | 93, _ => st93 pb ub
  | 94, _ => st94 pb ub
  | 95, _ => st95 pb ub
  | 96, _ => st96 pb ub
  | 97, _ => st97 pb ub
  | 98, _ => st98 pb ub
  | 99, _ => st99 pb ub
  | 100, _ => st100 pb ub
  | 101, _ => st101 pb ub
  | 102, _ => st102 pb ub
  | 103, _ => st103 pb ub
  | 104, _ => st104 pb ub
  | 105, _ => st105 pb ub
  | 106, _ => st106 pb ub
  | 107, _ => st107 pb ub
  | 108, _ => st108 pb ub
  | 109, _ => st109 pb ub
  | 110, _ => st110 pb ub
  | 111, _ => st111 pb ub
  | 112, _ => st112 pb ub
  | 113, _ => st113 pb ub
  | 114, _ => st114 pb ub
  | 115, _ => st115 pb ub
  | 116, _ => st116 pb ub
  | 117, _ => st117 pb ub
  | 118, _ => st118 pb ub
  | 119, _ => st119 pb ub
  | 120, _ => st120 pb ub
  | 121, _ => st121 pb ub
  | 122, _ => st122 pb ub
  | 123, _ => st123 pb ub
  | 124, _ => st124 pb ub
  | 125, _ => st125 pb ub
  | 126, _ => st126 pb ub
  | 127, _ => st127 pb ub
  | 128, _ => st128 pb ub
  | 129, _ => st129 pb ub
  | 130, _ => st130 pb ub
  | 131, _ => st131 pb ub
  | 132, _ => st132 pb ub
  | k + 133, h => by omega

end Go.Proofs.Ytidbimhcebfjfaa
