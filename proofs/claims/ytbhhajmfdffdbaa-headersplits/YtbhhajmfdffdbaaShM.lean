/-
  Reading behind a place is reading what stands behind it. Plain mathematics. Nothing is proved of a statement here.
-/
import Derived.Test.YtbhhajmfdffdbaaPar
namespace Go.Proofs.Ytbhhajmfdffdbaa
open Go.RowKit
set_option linter.unusedVariables false
set_option maxRecDepth 20000

/-- The same outcome, its place counted from P further ahead. -/
def Out.sh {α : Type} (P : Int) (o : Out α) : Out α :=
  match o with
  | .ok a q => .ok a (q + P)
  | .bad x => .bad x
theorem sh_bind {α β : Type} {P : Int} {o : Out α} {f g : α → Int → Out β} (h : ∀ a q, o = .ok a q → f a (q + P) = (g a q).sh P) : (o.sh P).bind f = (o.bind g).sh P := by
  cases o with
  | ok a q => exact h a q rfl
  | bad x => rfl
section
variable {zs : List Int} {P : Nat} (hP : P ≤ zs.length)
include hP
theorem drop_len : ((zs.drop P).length : Int) = (zs.length : Int) - P := by rw [List.length_drop]; omega
theorem numO_sh {p : Int} (hp : 0 ≤ p) (hpl : p ≤ (zs.drop P).length) : numO zs (p + P) = (numO (zs.drop P) p).sh P := by
  have hl := drop_len hP
  have e : (p + P).toNat = P + p.toNat := by omega
  have h1 : rd zs (p + P) = rdAt (zs.drop (P + p.toNat)) (p + P) := by unfold rd; rw [if_neg (by omega), e]
  have h2 : rd (zs.drop P) p = rdAt (zs.drop (P + p.toNat)) p := by unfold rd; rw [if_neg (by omega), List.drop_drop]
  unfold numO
  rw [h1, h2]
  generalize zs.drop (P + p.toNat) = l
  cases l with
  | nil => simp [rdAt, Out.sh]
  | cons x r =>
    simp only [rdAt]
    by_cases hw : r.length + 1 < width x
    · simp [hw, Out.sh]
    · simp only [hw, if_false, if_true, Out.sh]
      congr 1
      omega
theorem someO_sh {p k : Int} (hp : 0 ≤ p) : someO zs (p + P) k = (someO (zs.drop P) p k).sh P := by
  have hl := drop_len hP
  have e : (p + P).toNat = P + p.toNat := by omega
  unfold someO
  rw [hl, e, List.drop_drop]
  by_cases h : (zs.length : Int) - (p + P) < k
  · rw [if_pos h, if_pos (by omega)]; rfl
  · rw [if_neg h, if_neg (by omega)]
    show Out.ok _ _ = Out.ok _ _
    congr 1
    omega
theorem oneO_sh {p : Int} (hp : 0 ≤ p) : oneO zs (p + P) = (oneO (zs.drop P) p).sh P := by
  have hl := drop_len hP
  have e : (p + P).toNat = P + p.toNat := by omega
  unfold oneO
  rw [hl, e]
  by_cases h : (zs.length : Int) - (p + P) < 1
  · rw [if_pos h, if_pos (by omega)]; rfl
  · rw [if_neg h, if_neg (by omega)]
    show Out.ok _ _ = Out.ok _ _
    congr 1
    · simp [List.getD_eq_getElem?_getD, List.getElem?_drop]
    · omega
theorem verO_sh {p : Int} (hp : 0 ≤ p) : verO zs (p + P) = (verO (zs.drop P) p).sh P := by
  unfold verO
  rw [someO_sh hP hp]
  exact sh_bind (fun a q _ => rfl)
theorem idO_sh {p : Int} (hz : ∀ y ∈ zs, 0 ≤ y ∧ y < 256) (hp : 0 ≤ p) (hpl : p ≤ (zs.drop P).length) : idO zs (p + P) = (idO (zs.drop P) p).sh P := by
  unfold idO
  rw [oneO_sh hP hp]
  refine sh_bind (fun m q ho => ?_)
  have hpl' := oneO_pl ⟨fun y hy => hz y (List.mem_of_mem_drop hy), hp, hpl⟩ ho
  split
  · rfl
  · exact someO_sh hP hpl'.1.h0
theorem versO_sh {p : Int} (hp : 0 ≤ p) : versO zs (p + P) = (versO (zs.drop P) p).sh P := by
  have hl := drop_len hP
  have e : (p + P).toNat = P + p.toNat := by omega
  unfold versO
  rw [hl, e]
  by_cases h : (zs.length : Int) - (p + P) = 0 ∨ ((zs.length : Int) - (p + P)) % 4 ≠ 0
  · rw [if_pos h, if_pos (by omega)]; rfl
  · rw [if_neg h, if_neg (by omega)]
    show Out.ok _ _ = Out.ok _ _
    have e2 : zs.length - (P + p.toNat) = (zs.drop P).length - p.toNat := by rw [List.length_drop]; omega
    rw [e2]
    congr 1
    · apply List.map_congr_left
      intro j _
      unfold vat
      rw [List.drop_drop, show P + (p.toNat + 4 * j) = P + p.toNat + 4 * j by omega]
    · omega
theorem lenO_sh {tk : List Int} {p : Int} (hp : 0 ≤ p) (hpl : p ≤ (zs.drop P).length) : lenO zs tk (p + P) = (lenO (zs.drop P) tk p).sh P := by
  have hl := drop_len hP
  unfold lenO
  rw [numO_sh hP hp hpl]
  refine sh_bind (fun l q _ => ?_)
  rw [hl]
  by_cases h : l = 0 ∨ (zs.length : Int) - (q + P) < l
  · rw [if_pos h, if_pos (by omega)]; rfl
  · rw [if_neg h, if_neg (by omega)]; rfl
theorem fillO_sh {kind p : Int} (hz : ∀ y ∈ zs, 0 ≤ y ∧ y < 256) (hp : 0 ≤ p) (hpl : p ≤ (zs.drop P).length) : fillO zs kind (p + P) = (fillO (zs.drop P) kind p).sh P := by
  have hl := drop_len hP
  have hz' : ∀ y ∈ zs.drop P, 0 ≤ y ∧ y < 256 := fun y hy => hz y (List.mem_of_mem_drop hy)
  unfold fillO
  by_cases h4 : kind = 4
  · rw [if_pos h4, if_pos h4, hl]
    by_cases h : (zs.length : Int) - (p + P) < 16
    · rw [if_pos h, if_pos (by omega)]; rfl
    · rw [if_neg h, if_neg (by omega), show (zs.length : Int) - (p + P) - 16 = (zs.length : Int) - P - p - 16 by omega, someO_sh hP hp]
      exact sh_bind (fun a q _ => rfl)
  · rw [if_neg h4, if_neg h4]
    by_cases h1 : kind = 1
    · rw [if_pos h1, if_pos h1, numO_sh hP hp hpl]
      refine sh_bind (fun m q ho => ?_)
      obtain ⟨p1, _, m0, _⟩ := numO_pl ⟨hz', hp, hpl⟩ ho
      rw [someO_sh hP p1.h0]
      refine sh_bind (fun tk q2 ho2 => ?_)
      obtain ⟨p2, _⟩ := someO_pl p1 m0 ho2
      exact lenO_sh hP p2.h0 p2.h1
    · rw [if_neg h1, if_neg h1]
      exact lenO_sh hP hp hpl
theorem longO_sh {first p : Int} (hz : ∀ y ∈ zs, 0 ≤ y ∧ y < 256) (hp : 0 ≤ p) (hpl : p ≤ (zs.drop P).length) : longO zs first (p + P) = (longO (zs.drop P) first p).sh P := by
  have hz' : ∀ y ∈ zs.drop P, 0 ≤ y ∧ y < 256 := fun y hy => hz y (List.mem_of_mem_drop hy)
  unfold longO
  rw [verO_sh hP hp]
  refine sh_bind (fun ve q1 o1 => ?_)
  obtain ⟨p1, _⟩ := verO_pl ⟨hz', hp, hpl⟩ o1
  rw [idO_sh hP hz p1.h0 p1.h1]
  refine sh_bind (fun d q2 o2 => ?_)
  obtain ⟨p2, _⟩ := idO_pl p1 o2
  rw [idO_sh hP hz p2.h0 p2.h1]
  refine sh_bind (fun s q3 o3 => ?_)
  obtain ⟨p3, _⟩ := idO_pl p2 o3
  split
  · rw [versO_sh hP p3.h0]
    exact sh_bind (fun a q _ => rfl)
  split
  · split
    · rfl
    · rw [fillO_sh hP hz p3.h0 p3.h1]
      exact sh_bind (fun a q _ => rfl)
  · rfl
/-- A header read at P is the header of what stands behind P. -/
theorem hdrO_sh {cid : Int} (hz : ∀ y ∈ zs, 0 ≤ y ∧ y < 256) : hdrO zs cid P = (hdrO (zs.drop P) cid 0).sh P := by
  have hl := drop_len hP
  have hz' : ∀ y ∈ zs.drop P, 0 ≤ y ∧ y < 256 := fun y hy => hz y (List.mem_of_mem_drop hy)
  unfold hdrO
  by_cases hc : cid < 0 ∨ 20 < cid
  · rw [if_pos hc, if_pos hc]; rfl
  rw [if_neg hc, if_neg hc]
  have h0 := oneO_sh hP (p := 0) (by omega)
  rw [Int.zero_add] at h0
  rw [h0]
  refine sh_bind (fun m q o => ?_)
  obtain ⟨p1, _⟩ := oneO_pl ⟨hz', by omega, by omega⟩ o
  split
  · exact longO_sh hP hz p1.h0 p1.h1
  split
  · rfl
  · rw [someO_sh hP p1.h0]
    refine sh_bind (fun d q2 _ => ?_)
    rw [hl]
    show Out.ok _ _ = Out.ok _ _
    congr 2
    omega
/-- .. so that Split's next piece is Parse's of what stands behind. -/
theorem hdrO_parM {cid : Int} (hz : ∀ y ∈ zs, 0 ≤ y ∧ y < 256) : match hdrO zs cid P with
    | .ok H q => parM (zs.drop P) cid = (H, q - P, q + behM zs.length H.kind H.len q - P, 0)
    | .bad x => parM (zs.drop P) cid = (zh, 0, 0, x) := by
  have hl := drop_len hP
  rw [hdrO_sh hP hz]
  unfold parM
  cases hdrO (zs.drop P) cid 0 with
  | bad x => rfl
  | ok H q =>
    show (H, q, q + behM (zs.drop P).length H.kind H.len q, 0) = _
    have e : behM (zs.drop P).length H.kind H.len q = behM zs.length H.kind H.len (q + P) := by
      unfold behM
      split
      · rfl
      · omega
    rw [e]
    simp only [Prod.mk.injEq, true_and, and_true]
    omega
end
end Go.Proofs.Ytbhhajmfdffdbaa
