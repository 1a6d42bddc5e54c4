/-
  The document's own Encode as plain mathematics: the items one by one make the frame's bytes. No Go in it.
-/
import Derived.Test.YtdoodbaogmdloaaRAck
namespace Go.Proofs.Ytdoodbaogmdloaa
set_option linter.unusedVariables false
set_option maxRecDepth 20000

/-- The number that is told for the kind. -/
def kdr (f : Fr) : Int := if f.kind = 8 then (if 0 < f.pl then 14 else 10) + (if f.fin then 1 else 0) else f.kind
/-- The bytes of an item. -/
def itB (f : Fr) (c : UInt8) : List Int :=
  if c = 105 then form f.id else if c = 97 then (if f.kind ≠ 8 ∨ 0 < f.pl then form f.pl else []) else if c = 110 then form f.num else if c = 99 then form f.code
  else if c = 100 then form f.data.length ++ f.data else if c = 107 then [(f.cid.length : Int)] ++ f.cid else if c = 116 ∨ c = 112 then f.data else if c = 115 then forms (ackH f)
  else if c = 101 then form f.e0 ++ form f.e1 ++ form f.e2 else []

set_option maxHeartbeats 4000000 in
theorem renc_eq {f : Fr} (h : isK f.kind = true) (h0 : f.kind ≠ 0) : form (kdr f) ++ (itL f.kind).flatMap (itB f) = enc f := by
  have hA := ackN_eq f
  obtain ⟨k, id, pl, num, code, fin, data, cid, sp, dl, e0, e1, e2⟩ := f
  dsimp only at h h0
  rcases isK_cases h with rfl | rfl | rfl | rfl | rfl | rfl | rfl | rfl | rfl | rfl | rfl | rfl | rfl | rfl | rfl | rfl | rfl | rfl | rfl | rfl | rfl | rfl | rfl | rfl
  · exact absurd rfl h0
  all_goals
    simp [kdr, itL, itB, enc, forms, leads, lead, fget, last, shead, hA, marks]
    try (cases fin <;> by_cases hp : 0 < pl <;> simp [hp])

theorem let_in {k : Int} (hk : isK k = true) : ∀ c ∈ itL k, c = 105 ∨ c = 97 ∨ c = 110 ∨ c = 99 ∨ c = 100 ∨ c = 107 ∨ c = 116 ∨ c = 112 ∨ c = 115 ∨ c = 101 := by
  rcases isK_cases hk with rfl | rfl | rfl | rfl | rfl | rfl | rfl | rfl | rfl | rfl | rfl | rfl | rfl | rfl | rfl | rfl | rfl | rfl | rfl | rfl | rfl | rfl | rfl | rfl <;> decide
theorem itL_len4 {k : Int} (hk : isK k = true) : (itL k).length ≤ 4 := by
  rcases isK_cases hk with rfl | rfl | rfl | rfl | rfl | rfl | rfl | rfl | rfl | rfl | rfl | rfl | rfl | rfl | rfl | rfl | rfl | rfl | rfl | rfl | rfl | rfl | rfl | rfl <;> decide
theorem let_24 {k : Int} (hk : isK k = true) (h : (107 : UInt8) ∈ itL k) : k = 24 := by
  rcases isK_cases hk with rfl | rfl | rfl | rfl | rfl | rfl | rfl | rfl | rfl | rfl | rfl | rfl | rfl | rfl | rfl | rfl | rfl | rfl | rfl | rfl | rfl | rfl | rfl | rfl
  all_goals first | rfl | (exact absurd h (by decide))
theorem isN_iff {n : Int} (h : isN n = true) : 0 ≤ n ∧ n ≤ 4611686018427387903 := by unfold isN at h; simpa using h
/-- What a right frame's items are. -/
structure LtOk (f : Fr) (c : UInt8) : Prop where
  id : c = 105 → 0 ≤ f.id ∧ f.id ≤ 4611686018427387903
  pl : c = 97 → 0 ≤ f.pl ∧ f.pl ≤ 4611686018427387903
  num : c = 110 → 0 ≤ f.num ∧ f.num ≤ 4611686018427387903
  code : c = 99 → 0 ≤ f.code ∧ f.code ≤ 4611686018427387903
  sp : c = 115 → spansB f.sp = true ∧ isN f.dl = true
  cid : c = 107 → f.cid.length ≤ 20
  e0 : c = 101 → 0 ≤ f.e0 ∧ f.e0 ≤ 4611686018427387903
  e1 : c = 101 → 0 ≤ f.e1 ∧ f.e1 ≤ 4611686018427387903
  e2 : c = 101 → 0 ≤ f.e2 ∧ f.e2 ≤ 4611686018427387903
theorem let_ok {f : Fr} (h : chk f = 0) {c : UInt8} (hc : c ∈ itL f.kind) : LtOk f c := by
  have hk := (chk_ok h).1
  have h1 : rchk f = 0 := by rw [rchk_eq]; exact h
  unfold rchk at h1
  rw [if_neg (by rw [hk]; simp)] at h1
  by_cases g2 : 16384 < f.data.length
  · rw [if_pos g2] at h1; omega
  rw [if_neg g2] at h1
  cases r1 : rt1 f
  · cases r2 : rt2 f
    · cases r3 : rt3 f
      · have hh : ∀ m : UInt8, c = m → hasB (itL f.kind) m = true := fun m e => by subst e; exact List.contains_iff_mem.2 hc
        unfold rt1 at r1
        unfold rt2 at r2
        simp only [Bool.or_eq_false_iff, Bool.and_eq_false_iff, Bool.not_eq_false'] at r1 r2
        refine ⟨fun e => ?_, fun e => ?_, fun e => ?_, fun e => ?_, fun e => ?_, fun e => ?_, fun e => ?_, fun e => ?_, fun e => ?_⟩
        · have := hh _ e; rcases r1.1.1.1 with g | g
          · rw [g] at this; cases this
          · exact isN_iff g
        · have := hh _ e; rcases r1.1.1.2 with g | g
          · rw [g] at this; cases this
          · exact isN_iff g
        · have := hh _ e; rcases r1.1.2 with g | g
          · rw [g] at this; cases this
          · exact isN_iff g
        · have := hh _ e; rcases r1.2 with g | g
          · rw [g] at this; cases this
          · exact isN_iff g
        · have := hh _ e; rcases r2.1 with g | g
          · rw [g] at this; cases this
          · exact g
        · have h24 := let_24 hk (by rw [← e]; exact hc)
          unfold rt3 at r3
          rw [if_neg (by omega), if_neg (by omega), if_neg (by omega), if_neg (by omega), if_pos h24] at r3
          simp only [Bool.or_eq_false_iff, decide_eq_false_iff_not] at r3
          omega
        · have := hh _ e; rcases r2.2 with g | g
          · rw [g] at this; cases this
          · exact isN_iff g.1.1
        · have := hh _ e; rcases r2.2 with g | g
          · rw [g] at this; cases this
          · exact isN_iff g.1.2
        · have := hh _ e; rcases r2.2 with g | g
          · rw [g] at this; cases this
          · exact isN_iff g.2
      · rw [r1, r2, r3] at h1; simp at h1
    · rw [r1, r2] at h1; simp at h1
  · rw [r1] at h1; simp at h1
theorem itB_len {f : Fr} {c : UInt8} (hd : f.data.length ≤ 16384) (h : LtOk f c) : (itB f c).length ≤ 20000 := by
  have f1 := form_len8 f.id
  have f2 := form_len8 f.pl
  have f3 := form_len8 f.num
  have f4 := form_len8 f.code
  have f5 := form_len8 f.data.length
  have f6 := form_len8 f.e0
  have f7 := form_len8 f.e1
  have f8 := form_len8 f.e2
  unfold itB
  split
  · omega
  split
  · split
    · omega
    · simp
  split
  · omega
  split
  · omega
  split
  · simp only [List.length_append]; omega
  split
  · rename_i e; have := h.cid e; simp only [List.length_append, List.length_cons, List.length_nil]; omega
  split
  · omega
  split
  · rename_i e
    have h1 := (h.sp e).1
    unfold spansB at h1
    rw [Bool.and_eq_true, decide_eq_true_eq] at h1
    have := ackH_len h1.1.2
    omega
  split
  · simp only [List.length_append]; omega
  · simp
/-- The bytes behind the first j items. -/
def pre (f : Fr) (j : Nat) : List Int := form (kdr f) ++ ((itL f.kind).take j).flatMap (itB f)
theorem pre_succ {f : Fr} {j : Nat} (h : j < (itL f.kind).length) : pre f (j + 1) = pre f j ++ itB f (itL f.kind)[j] := by
  unfold pre
  rw [List.take_succ_eq_append_getElem h, List.flatMap_append]
  simp
theorem pre_len {f : Fr} (he : chk f = 0) : ∀ j, j ≤ (itL f.kind).length → (pre f j).length ≤ 8 + 20000 * j
  | 0, _ => by have := form_len8 (kdr f); simp [pre]; exact this
  | j + 1, h => by
    rw [pre_succ h, List.length_append]
    have h1 := pre_len he j (by omega)
    have h2 := itB_len (c := (itL f.kind)[j]) (chk_ok he).2.1 (let_ok he (List.getElem_mem _))
    omega
theorem pre_all {f : Fr} (hk : isK f.kind = true) (h0 : f.kind ≠ 0) : pre f (itL f.kind).length = enc f := by
  unfold pre
  rw [List.take_length]
  exact renc_eq hk h0
theorem kdr_range {f : Fr} (hk : isK f.kind = true) : 0 ≤ kdr f ∧ kdr f ≤ 4611686018427387903 := by
  unfold kdr
  unfold isK at hk
  simp only [decide_eq_true_eq] at hk
  split
  · split <;> split <;> omega
  · omega
end Go.Proofs.Ytdoodbaogmdloaa
