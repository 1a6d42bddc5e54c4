/-
  How a first packet's bytes are read: plain mathematics.
-/
import Derived.Test.YtnnjogfpapndaaaAsk
namespace Go.Proofs.Ytnnjogfpapndaaa
open Go.RowKit
set_option linter.unusedVariables false
set_option maxRecDepth 20000

/-- These bytes stand at this place. -/
def At (zs : List Int) (p : Int) (m : List Int) : Prop := ∃ a b, zs = a ++ m ++ b ∧ p = (a.length : Int)
section
variable {zs : List Int} {p : Int} {m m1 m2 : List Int}
theorem At.left (h : At zs p (m1 ++ m2)) : At zs p m1 := by
  obtain ⟨a, b, rfl, rfl⟩ := h
  exact ⟨a, m2 ++ b, by simp, rfl⟩
theorem At.right (h : At zs p (m1 ++ m2)) : At zs (p + m1.length) m2 := by
  obtain ⟨a, b, rfl, rfl⟩ := h
  exact ⟨a ++ m1, b, by simp, by simp⟩
theorem oneO_at {x : Int} (h : At zs p [x]) : oneO zs p = .ok x (p + 1) := by
  obtain ⟨a, b, rfl, rfl⟩ := h
  unfold oneO
  rw [if_neg (by simp; omega)]
  simp
theorem someO_at (h : At zs p m) : someO zs p m.length = .ok m (p + m.length) := by
  obtain ⟨a, b, rfl, rfl⟩ := h
  unfold someO
  rw [if_neg (by simp; omega)]
  simp
theorem idO_at (h : At zs p ((m.length : Int) :: m)) (hl : m.length ≤ 20) : idO zs p = .ok m (p + 1 + m.length) := by
  have h' : At zs p ([(m.length : Int)] ++ m) := h
  unfold idO
  rw [oneO_at h'.left]
  show (if 20 < (m.length : Int) then _ else _) = _
  rw [if_neg (by omega)]
  exact someO_at h'.right
theorem verO_one (h : At zs p [0, 0, 0, 1]) : verO zs p = .ok 1 (p + 4) := by
  have := someO_at h
  unfold verO
  rw [show (4 : Int) = (([0, 0, 0, 1] : List Int).length : Int) from rfl, this]
  rfl
theorem numO_at {n : Int} (h0 : 0 ≤ n) (h1 : n ≤ 4611686018427387903) (h : At zs p (form n)) : numO zs p = .ok n (p + (form n).length) := by
  obtain ⟨a, b, rfl, rfl⟩ := h
  unfold numO
  rw [rd_form h0 h1, form_length]
  rfl
end
theorem form_1000 : form 1000 = [67, 232] := by decide
/-- The header of a first packet. -/
def akD (ps is ts : List Int) : Hd := ⟨1, 1, is, ps, ts, [], 1000⟩
theorem par_ak (ps is ts : List Int) (lp : ps.length ≤ 20) (li : is.length ≤ 20) (lt : ts.length ≤ 100) : ∃ a b : Int, parM (akL ps is ts) 8 = (akD ps is ts, a, b, 0) := by
  have A : At (akL ps is ts) 0 (akH ps is ts) := ⟨[], List.replicate 1200 0, by simp [akL], rfl⟩
  have hN : ((akL ps is ts).length : Int) = (akH ps is ts).length + 1200 := by rw [akL_len]; omega
  have hB : ((akH ps is ts).length : Int) = 1 + 4 + (1 + is.length) + (1 + ps.length) + ((form ts.length).length + (ts.length + 2)) := by unfold akH sdL; simp; omega
  unfold akH at A
  generalize akL ps is ts = zs at *
  have A1 := A.right
  rw [show (0 : Int) + (([192] : List Int).length : Int) = 1 from rfl] at A1
  have A2 := A1.right
  rw [show (1 : Int) + (([0, 0, 0, 1] : List Int).length : Int) = 5 from rfl] at A2
  have A3 := A2.right
  rw [show (5 : Int) + ((sdL is).length : Int) = 5 + 1 + (is.length : Int) from by rw [sdL_len]; omega] at A3
  have A4 := A3.right
  rw [show 5 + 1 + (is.length : Int) + ((sdL ps).length : Int) = 5 + 1 + (is.length : Int) + 1 + (ps.length : Int) from by rw [sdL_len]; omega] at A4
  have A5 := A4.right
  have A6 := A5.right
  have i0 := oneO_at A.left
  have i1 := verO_one A1.left
  have i2 := idO_at A2.left li
  have i3 := idO_at A3.left lp
  have i4 := numO_at (by omega) (by omega) A4.left
  have i5 := someO_at A5.left
  rw [← form_1000] at A6
  have i6 := numO_at (n := 1000) (by omega) (by omega) A6
  have f2 : ((form 1000).length : Int) = 2 := by rw [form_1000]; rfl
  rw [f2] at i6
  have F : fillO zs 1 (5 + 1 + (is.length : Int) + 1 + (ps.length : Int)) = .ok (ts, 1000) (5 + 1 + (is.length : Int) + 1 + (ps.length : Int) + ((form ts.length).length : Int) + (ts.length : Int) + 2) := by
    unfold fillO
    rw [if_neg (by omega), if_pos rfl, i4]
    simp only [Out.bind]
    rw [i5]
    simp only
    unfold lenO
    rw [i6]
    simp only [Out.bind]
    rw [if_neg (by omega)]
  have L : longO zs 192 1 = .ok (akD ps is ts) (5 + 1 + (is.length : Int) + 1 + (ps.length : Int) + ((form ts.length).length : Int) + (ts.length : Int) + 2) := by
    unfold longO
    rw [i1]
    simp only [Out.bind]
    rw [show (1 : Int) + 4 = 5 from rfl, i2]
    simp only
    rw [i3]
    simp only
    rw [if_neg (by omega), if_pos (by trivial), if_neg (by omega), show (1 : Int) + 192 / 16 % 4 = 1 from by decide, F]
    simp [akD]
  unfold parM hdrO
  rw [if_neg (by omega), i0]
  simp only [Out.bind]
  rw [if_pos (by omega), show (0 : Int) + 1 = 1 from rfl, L]
  exact ⟨_, _, rfl⟩
end Go.Proofs.Ytnnjogfpapndaaa
