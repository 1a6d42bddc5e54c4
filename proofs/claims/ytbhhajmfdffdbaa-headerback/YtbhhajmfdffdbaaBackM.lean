/-
  What Build writes is read back, as plain mathematics. Nothing is proved of a statement here.
-/
import Derived.Test.YtbhhajmfdffdbaaBld
import Derived.Test.YtbhhajmfdffdbaaPar
namespace Go.Proofs.Ytbhhajmfdffdbaa
open Go.RowKit
set_option linter.unusedVariables false
set_option maxRecDepth 20000

/-- These bytes stand at this place. -/
def At (zs : List Int) (p : Int) (m : List Int) : Prop := ∃ a b, zs = a ++ m ++ b ∧ p = (a.length : Int)
section
variable {zs : List Int} {p : Int} {m m1 m2 : List Int}
theorem At.left (h : At zs p (m1 ++ m2)) : At zs p m1 := by
  obtain ⟨a, b, rfl, rfl⟩ := h
  exact ⟨a, m2 ++ b, by simp, rfl⟩
theorem At.right (h : At zs p (m1 ++ m2)) : At zs (p + m1.length) m2 := by
  obtain ⟨a, b, rfl, rfl⟩ := h
  exact ⟨a ++ m1, b, by simp, by simp⟩
theorem oneO_at {x : Int} (h : At zs p [x]) : oneO zs p = .ok x (p + 1) := by
  obtain ⟨a, b, rfl, rfl⟩ := h
  unfold oneO
  rw [if_neg (by simp; omega)]
  simp
theorem someO_at (h : At zs p m) : someO zs p m.length = .ok m (p + m.length) := by
  obtain ⟨a, b, rfl, rfl⟩ := h
  unfold someO
  rw [if_neg (by simp; omega)]
  simp
theorem idO_at (h : At zs p ((m.length : Int) :: m)) (hl : m.length ≤ 20) : idO zs p = .ok m (p + 1 + m.length) := by
  have h' : At zs p ([(m.length : Int)] ++ m) := h
  unfold idO
  rw [oneO_at h'.left]
  show (if 20 < (m.length : Int) then _ else _) = _
  rw [if_neg (by omega)]
  exact someO_at h'.right
theorem verO_one (h : At zs p [0, 0, 0, 1]) : verO zs p = .ok 1 (p + 4) := by
  have := someO_at h
  unfold verO
  rw [show (4 : Int) = (([0, 0, 0, 1] : List Int).length : Int) from rfl, this]
  rfl
theorem numO_at {n : Int} (h0 : 0 ≤ n) (h1 : n ≤ 4611686018427387903) (h : At zs p (form n)) : numO zs p = .ok n (p + (form n).length) := by
  obtain ⟨a, b, rfl, rfl⟩ := h
  unfold numO
  rw [rd_form h0 h1, form_length]
  rfl
theorem numO_lenF {n : Int} (h0 : 0 ≤ n) (h1 : n ≤ 4611686018427387903) (h : At zs p (lenF n)) : numO zs p = .ok n (p + (lenF n).length) := by
  unfold lenF at h ⊢
  by_cases h6 : n < 64
  · rw [if_pos h6] at h ⊢
    obtain ⟨a, b, rfl, rfl⟩ := h
    unfold numO
    have : rd (a ++ [64, n] ++ b) a.length = (n, (a.length : Int) + 2, 0) := by
      rw [rd, if_neg (by simp; omega), Int.toNat_natCast, List.append_assoc, List.drop_left]
      simp [rdAt, width, val]
    rw [this]
    rfl
  · rw [if_neg h6] at h ⊢
    exact numO_at h0 h1 h
theorem lenO_at {n : Int} {tk : List Int} (h0 : 1 ≤ n) (h1 : n ≤ 4611686018427387903) (h : At zs p (lenF n)) (hr : p + (lenF n).length + n ≤ zs.length) : lenO zs tk p = .ok (tk, n) (p + (lenF n).length) := by
  unfold lenO
  rw [numO_lenF (by omega) h1 h]
  show (if n = 0 ∨ _ then _ else _) = _
  rw [if_neg (by omega)]
end
/-- What is read back. -/
def bak (h : Hd) (n : Int) : Hd := if h.kind = 6 then ⟨6, 0, h.dst, [], [], [], n⟩ else ⟨h.kind, 1, h.dst, h.src, if h.kind = 1 then h.tok else [], [], h.len⟩
theorem bld_head (h : Hd) (width : Int) (h6 : h.kind ≠ 6) : bldL h width = [fstB h.kind width] ++ ([0, 0, 0, 1] ++ (((h.dst.length : Int) :: h.dst) ++ (((h.src.length : Int) :: h.src) ++ ((if h.kind = 1 then form h.tok.length ++ h.tok else []) ++ lenF h.len)))) := by
  unfold bldL
  rw [if_neg h6]
  simp
theorem back_par {h : Hd} {width : Int} (e : bldE h width = 0) (rest : List Int) (hr : h.kind ≠ 6 → h.len ≤ rest.length) :
    parM (bldL h width ++ rest) h.dst.length = (bak h rest.length, ((bldL h width).length : Int), ((bldL h width).length : Int) + (if h.kind = 6 then (rest.length : Int) else h.len), 0) := by
  obtain ⟨k, w1, w2, l1, l2, l3, l4⟩ := bld_ok e
  by_cases h6 : h.kind = 6
  · have hb : bldL h width = [64 + (width - 1)] ++ h.dst := by unfold bldL; rw [if_pos h6, h6]; simp [fstB]
    rw [hb]
    have A : At ([64 + (width - 1)] ++ h.dst ++ rest) 0 ([64 + (width - 1)] ++ h.dst) := ⟨[], rest, by simp, rfl⟩
    unfold parM hdrO
    rw [if_neg (by omega), oneO_at A.left]
    have hs := someO_at A.right
    have e1 : ((0 : Int) + (([64 + (width - 1)] : List Int).length : Int)) = 0 + 1 := rfl
    rw [e1] at hs
    simp only [Out.bind]
    rw [if_neg (by omega), if_neg (by omega), hs]
    simp [bak, h6, behM]
    omega
  · have hr' := hr h6
    have hk : h.kind = 1 ∨ h.kind = 2 ∨ h.kind = 3 := by omega
    have hl : 1 ≤ h.len ∧ h.len ≤ 16384 := by omega
    have ls : h.src.length ≤ 20 := by omega
    have A : At (bldL h width ++ rest) 0 (bldL h width) := ⟨[], rest, by simp, rfl⟩
    have hN : ((bldL h width ++ rest).length : Int) = (bldL h width).length + rest.length := by simp
    have hB : ((bldL h width).length : Int) = 1 + 4 + (1 + h.dst.length) + (1 + h.src.length) + ((if h.kind = 1 then form h.tok.length ++ h.tok else []).length + (lenF h.len).length) := by
      rw [bld_head h width h6]; simp; omega
    rw [show At (bldL h width ++ rest) 0 (bldL h width) = At (bldL h width ++ rest) 0 ([fstB h.kind width] ++ ([0, 0, 0, 1] ++ (((h.dst.length : Int) :: h.dst) ++ (((h.src.length : Int) :: h.src) ++ ((if h.kind = 1 then form h.tok.length ++ h.tok else []) ++ lenF h.len))))) from by rw [← bld_head h width h6]] at A
    generalize bldL h width ++ rest = zs at *
    have A1 := A.right
    rw [show (0 : Int) + (([fstB h.kind width] : List Int).length : Int) = 1 from rfl] at A1
    have A2 := A1.right
    rw [show (1 : Int) + (([0, 0, 0, 1] : List Int).length : Int) = 5 from rfl] at A2
    have A3 := A2.right
    rw [show (5 : Int) + (((h.dst.length : Int) :: h.dst).length : Int) = 5 + 1 + (h.dst.length : Int) from by simp; omega] at A3
    have A4 := A3.right
    rw [show 5 + 1 + (h.dst.length : Int) + (((h.src.length : Int) :: h.src).length : Int) = 5 + 1 + (h.dst.length : Int) + 1 + (h.src.length : Int) from by simp; omega] at A4
    have f1 : fstB h.kind width = 192 + 16 * (h.kind - 1) + (width - 1) := by unfold fstB; rw [if_neg h6]
    have f2 : 1 + fstB h.kind width / 16 % 4 = h.kind := by omega
    have i0 := oneO_at A.left
    have i1 := verO_one A1.left
    have i2 := idO_at A2.left l1
    have i3 := idO_at A3.left ls
    have F : fillO zs h.kind (5 + 1 + (h.dst.length : Int) + 1 + (h.src.length : Int)) = .ok ((if h.kind = 1 then h.tok else []), h.len) ((bldL h width).length : Int) := by
      unfold fillO
      rw [if_neg (by omega)]
      by_cases h1 : h.kind = 1
      · rw [if_pos h1] at A4 hB
        rw [if_pos h1, if_pos h1]
        have A5 := A4.left
        have A6 := A5.right
        have A7 := A4.right
        rw [numO_at (by omega) (by omega) A5.left]
        simp only [Out.bind]
        rw [someO_at A6]
        simp only
        have e7 : 5 + 1 + (h.dst.length : Int) + 1 + (h.src.length : Int) + ((form h.tok.length).length : Int) + (h.tok.length : Int) = 5 + 1 + (h.dst.length : Int) + 1 + (h.src.length : Int) + ((form h.tok.length ++ h.tok).length : Int) := by simp; omega
        rw [e7, lenO_at hl.1 (by omega) A7 (by omega)]
        congr 1
        omega
      · rw [if_neg h1] at A4 hB
        rw [if_neg h1, if_neg h1]
        have A7 := A4.right
        simp only [List.length_nil] at A7 hB
        rw [show 5 + 1 + (h.dst.length : Int) + 1 + (h.src.length : Int) + ((0 : Nat) : Int) = 5 + 1 + (h.dst.length : Int) + 1 + (h.src.length : Int) from by omega] at A7
        rw [lenO_at hl.1 (by omega) A7 (by omega)]
        congr 1
        omega
    have L : longO zs (fstB h.kind width) 1 = .ok (bak h rest.length) ((bldL h width).length : Int) := by
      unfold longO
      rw [i1]
      simp only [Out.bind]
      rw [show (1 : Int) + 4 = 5 from rfl, i2]
      simp only
      rw [i3]
      simp only
      rw [if_neg (by omega), if_pos (by trivial), if_neg (by omega), f2, F]
      simp [bak, h6]
    unfold parM hdrO
    rw [if_neg (by omega), i0]
    simp only [Out.bind]
    rw [if_pos (by omega), show (0 : Int) + 1 = 1 from rfl, L]
    simp [bak, h6, behM, hk]
end Go.Proofs.Ytbhhajmfdffdbaa
