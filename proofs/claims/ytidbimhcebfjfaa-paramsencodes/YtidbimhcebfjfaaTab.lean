/-
  The table of the parameters by ids: kinds, bounds, cells; what is right, told and taken, as plain mathematics; how the program's row of fields and its cells follow the table.
-/
import Derived.Test.YtidbimhcebfjfaaPm
import Derived.Test.YtidbimhcebfjfaaMathTwo
namespace Go.Proofs.Ytidbimhcebfjfaa
open Go.RowKit
set_option linter.unusedVariables false
set_option maxRecDepth 20000

/-- 1: a number; 2: the server's bytes; 3: bytes; 4: a mark; 0: an id that the table does not name. -/
def kd (i : Nat) : Nat := if i = 0 ∨ i = 2 ∨ i = 16 then 2 else if i = 15 then 3 else if i = 12 then 4 else if i = 13 ∨ 16 < i then 0 else 1
def lo (i : Nat) : Int := if i = 2 then 16 else if i = 3 then 1200 else if i = 14 then 2 else 0
def hi (i : Nat) : Int := if i = 0 ∨ i = 15 ∨ i = 16 then 20 else if i = 2 then 16 else if i = 8 ∨ i = 9 then 1152921504606846976 else if i = 10 then 20 else if i = 11 then 16383 else 4611686018427387903
def cn (i : Nat) : Nat := if i = 0 then 4 else if i = 2 then 5 else if i = 15 then 6 else if i = 16 then 7 else if i = 1 then 8 else if i = 12 then 19 else if i = 14 then 18 else i + 6
def ch (i : Nat) : Nat := if i = 0 then 0 else if i = 2 then 1 else if i = 15 then 2 else 3
def idl : List Nat := [0, 1, 2, 3, 4, 5, 6, 7, 8, 9, 10, 11, 12, 14, 15, 16]
def fvI (pb i : Nat) : Value := if kd i = 1 then fnum pb (cn i) (usM.num i) (lo i) (hi i) else if kd i = 2 then fsrv pb (ch i) (cn i) (lo i) (hi i) else if kd i = 3 then fdat pb (ch i) (cn i) (lo i) (hi i) else fmrk pb (cn i)
theorem frow_eq (pb : Nat) : frow pb = (idl.flatMap fun i => [.int .i64 (i : Int), fvI pb i]).toArray := by kernel_rfl
/-- The k-th field's two cells. -/
theorem frow_id (pb : Nat) : ∀ k, k < 16 → (frow pb)[k * 2]? = some (.int .i64 ((idl.getD k 0 : Nat) : Int)) ∧ (frow pb)[k * 2 + 1]? = some (fvI pb (idl.getD k 0))
  | 0, _ => ⟨rfl, rfl⟩
  | 1, _ => ⟨rfl, rfl⟩
  | 2, _ => ⟨rfl, rfl⟩
  | 3, _ => ⟨rfl, rfl⟩
  | 4, _ => ⟨rfl, rfl⟩
  | 5, _ => ⟨rfl, rfl⟩
  | 6, _ => ⟨rfl, rfl⟩
  | 7, _ => ⟨rfl, rfl⟩
  | 8, _ => ⟨rfl, rfl⟩
  | 9, _ => ⟨rfl, rfl⟩
  | 10, _ => ⟨rfl, rfl⟩
  | 11, _ => ⟨rfl, rfl⟩
  | 12, _ => ⟨rfl, rfl⟩
  | 13, _ => ⟨rfl, rfl⟩
  | 14, _ => ⟨rfl, rfl⟩
  | 15, _ => ⟨rfl, rfl⟩
  | k + 16, h => by omega
/-- Each id of the table is of one of four kinds, its cells where they are. -/
def Kinds (pb i : Nat) : Prop :=
  (kd i = 1 ∧ fvI pb i = fnum pb (cn i) (usM.num i) (lo i) (hi i) ∧ (∀ m s, (pc m s)[cn i]? = some (.int .i64 (m.num i))) ∧ 0 ≤ lo i ∧ hi i ≤ 4611686018427387903) ∨
  (kd i = 2 ∧ fvI pb i = fsrv pb (ch i) (cn i) (lo i) (hi i) ∧ (∀ m s, (pc m s)[ch i]? = some (.bool (m.has i)) ∧ (pc m s)[cn i]? = some (sv (s i))) ∧ ch i ≠ cn i) ∨
  (kd i = 3 ∧ fvI pb i = fdat pb (ch i) (cn i) (lo i) (hi i) ∧ (∀ m s, (pc m s)[ch i]? = some (.bool (m.has i)) ∧ (pc m s)[cn i]? = some (sv (s i))) ∧ ch i ≠ cn i) ∨
  (kd i = 4 ∧ fvI pb i = fmrk pb (cn i) ∧ ∀ m s, (pc m s)[cn i]? = some (.bool m.mv))
theorem kinds (pb : Nat) : ∀ k, k < 16 → Kinds pb (idl.getD k 0)
  | 0, _ => .inr (.inl ⟨rfl, rfl, fun _ _ => ⟨rfl, rfl⟩, by decide⟩)
  | 1, _ => .inl ⟨rfl, rfl, fun _ _ => rfl, by decide, by decide⟩
  | 2, _ => .inr (.inl ⟨rfl, rfl, fun _ _ => ⟨rfl, rfl⟩, by decide⟩)
  | 3, _ => .inl ⟨rfl, rfl, fun _ _ => rfl, by decide, by decide⟩
  | 4, _ => .inl ⟨rfl, rfl, fun _ _ => rfl, by decide, by decide⟩
  | 5, _ => .inl ⟨rfl, rfl, fun _ _ => rfl, by decide, by decide⟩
  | 6, _ => .inl ⟨rfl, rfl, fun _ _ => rfl, by decide, by decide⟩
  | 7, _ => .inl ⟨rfl, rfl, fun _ _ => rfl, by decide, by decide⟩
  | 8, _ => .inl ⟨rfl, rfl, fun _ _ => rfl, by decide, by decide⟩
  | 9, _ => .inl ⟨rfl, rfl, fun _ _ => rfl, by decide, by decide⟩
  | 10, _ => .inl ⟨rfl, rfl, fun _ _ => rfl, by decide, by decide⟩
  | 11, _ => .inl ⟨rfl, rfl, fun _ _ => rfl, by decide, by decide⟩
  | 12, _ => .inr (.inr (.inr ⟨rfl, rfl, fun _ _ => rfl⟩))
  | 13, _ => .inl ⟨rfl, rfl, fun _ _ => rfl, by decide, by decide⟩
  | 14, _ => .inr (.inr (.inl ⟨rfl, rfl, fun _ _ => ⟨rfl, rfl⟩, by decide⟩))
  | 15, _ => .inr (.inl ⟨rfl, rfl, fun _ _ => ⟨rfl, rfl⟩, by decide⟩)
  | k + 16, h => by omega

/-! ### what is right -/
def rgt (m : Pm) (i : Nat) (srv : Bool) : Bool :=
  if kd i = 1 then decide (lo i ≤ m.num i) && decide (m.num i ≤ hi i)
  else if kd i = 2 then (!m.has i || (decide (lo i ≤ ((m.byt i).length : Int)) && decide (((m.byt i).length : Int) ≤ hi i))) && (srv || !m.has i)
  else if kd i = 3 then !m.has i || (decide (lo i ≤ ((m.byt i).length : Int)) && decide (((m.byt i).length : Int) ≤ hi i))
  else true
def allR (m : Pm) (srv : Bool) : Bool := idl.all (rgt m · srv)
def tld (m : Pm) (i : Nat) : Bool := if kd i = 1 then m.num i != usM.num i else if kd i = 4 then m.mv else m.has i
def bts (m : Pm) (i : Nat) : List Int := if kd i = 1 then form (m.num i) else if kd i = 4 then [] else m.byt i
/-- What an id's value makes of the parameters, if it is of its kind. -/
def tkn (m : Pm) (i : Nat) (v : List Int) : Option Pm :=
  if kd i = 1 then (if (rd v 0).2.2 == 0 && (rd v 0).2.1 == (v.length : Int) then some { m with num := fun j => if j = i then (rd v 0).1 else m.num j } else none)
  else if kd i = 2 ∨ kd i = 3 then some { m with has := fun j => if j = i then true else m.has j, byt := fun j => if j = i then v else m.byt j }
  else if kd i = 4 then (if v = [] then some { m with mv := true } else none)
  else some m
/-- .. and holds what it must. -/
def takesM (m : Pm) (i : Nat) (v : List Int) (srv : Bool) : Option Pm := (tkn m i v).bind fun m' => if rgt m' i srv then some m' else none
theorem kd_ids {i : Nat} (h : kd i ≠ 0) : ∃ k, k < 16 ∧ idl.getD k 0 = i := by
  have hi : i ≤ 16 ∧ i ≠ 13 := by
    unfold kd at h
    by_cases h1 : i = 0 ∨ i = 2 ∨ i = 16
    · omega
    · by_cases h2 : i = 15
      · omega
      · by_cases h3 : i = 12
        · omega
        · by_cases h4 : i = 13 ∨ 16 < i
          · rw [if_neg h1, if_neg h2, if_neg h3, if_pos h4] at h; exact absurd rfl h
          · omega
  obtain ⟨h1, h2⟩ := hi
  by_cases h3 : i < 13
  · refine ⟨i, by omega, ?_⟩
    rcases (show i = 0 ∨ i = 1 ∨ i = 2 ∨ i = 3 ∨ i = 4 ∨ i = 5 ∨ i = 6 ∨ i = 7 ∨ i = 8 ∨ i = 9 ∨ i = 10 ∨ i = 11 ∨ i = 12 by omega) with rfl | rfl | rfl | rfl | rfl | rfl | rfl | rfl | rfl | rfl | rfl | rfl | rfl <;> rfl
  · rcases (show i = 14 ∨ i = 15 ∨ i = 16 by omega) with rfl | rfl | rfl
    · exact ⟨13, by omega, rfl⟩
    · exact ⟨14, by omega, rfl⟩
    · exact ⟨15, by omega, rfl⟩
theorem idl_inj : ∀ j k, j < 16 → k < 16 → idl.getD j 0 = idl.getD k 0 → j = k := by
  have h : ∀ j : Fin 16, ∀ k : Fin 16, idl.getD j.1 0 = idl.getD k.1 0 → j.1 = k.1 := by decide
  intro j k hj hk
  exact h ⟨j, hj⟩ ⟨k, hk⟩
theorem kd_le (i : Nat) : kd i ≤ 4 := by unfold kd; repeat' split
                                         all_goals omega
theorem idl_kd : ∀ k, k < 16 → kd (idl.getD k 0) ≠ 0 := by
  have h : ∀ k : Fin 16, kd (idl.getD k.1 0) ≠ 0 := by decide
  intro k hk
  exact h ⟨k, hk⟩
end Go.Proofs.Ytidbimhcebfjfaa
