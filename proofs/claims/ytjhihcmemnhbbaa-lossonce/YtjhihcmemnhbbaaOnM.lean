/-
  The law's book of packets as plain mathematics: what taking numbers out of it leaves, space by space. No Go in it.
-/
import Derived.Test.YtjhihcmemnhbbaaBk
namespace Go.Proofs.Ytjhihcmemnhbbaa
set_option linter.unusedVariables false

def hit (k n : Int) (x : On) : Bool := decide (x.k = k) && decide (x.n = n)
/-- The place of the last entry with that space and number among the first j; -1: none. -/
def atB (l : List On) (k n : Int) : Nat → Int
  | 0 => -1
  | j + 1 => if hit k n (l.getD j noOn) = true then j else atB l k n j
theorem atB_range (l : List On) (k n : Int) : ∀ j, -1 ≤ atB l k n j ∧ atB l k n j < j ∨ (j = 0 ∧ atB l k n j = -1)
  | 0 => .inr ⟨rfl, rfl⟩
  | j + 1 => by
    unfold atB
    split
    · left; omega
    · rcases atB_range l k n j with h | h
      · left; omega
      · left; omega
theorem atB_hit (l : List On) (k n : Int) : ∀ j, 0 ≤ atB l k n j → hit k n (l.getD (atB l k n j).toNat noOn) = true
  | 0, h => by unfold atB at h; omega
  | j + 1, h => by
    unfold atB at h ⊢
    split
    · rename_i h1; simpa using h1
    · rename_i h1; rw [if_neg h1] at h; exact atB_hit l k n j h
theorem atB_none (l : List On) (k n : Int) : ∀ j, atB l k n j < 0 → ∀ i, i < j → hit k n (l.getD i noOn) = false
  | 0, _, i, hi => by omega
  | j + 1, h, i, hi => by
    unfold atB at h
    split at h
    · omega
    · rename_i h1
      by_cases e : i = j
      · rw [e]; simpa using h1
      · exact atB_none l k n j h i (by omega)
/-- Taking numbers of a space out of the book, one by one. -/
def tkB (k : Int) : List Int → List On → Int → Bool × List On × Int
  | [], l, U => (true, l, U)
  | n :: ns, l, U => if atB l k n l.length < 0 then (false, l, U) else tkB k ns (l.eraseIdx (atB l k n l.length).toNat) (U - (l.getD (atB l k n l.length).toNat noOn).s)
/-- The book's entries of a space: numbers and sizes. -/
def spB (l : List On) (k : Int) : List (Int × Int) := (l.filter (fun x => decide (x.k = k))).map (fun x => (x.n, x.s))
theorem spB_append (x y : List On) (k : Int) : spB (x ++ y) k = spB x k ++ spB y k := by unfold spB; rw [List.filter_append, List.map_append]
theorem spB_cons (x : On) (y : List On) (k : Int) : spB (x :: y) k = (if x.k = k then [(x.n, x.s)] else []) ++ spB y k := by
  unfold spB
  by_cases h : x.k = k
  · rw [List.filter_cons_of_pos (by simpa using h), if_pos h]; rfl
  · rw [List.filter_cons_of_neg (by simpa using h), if_neg h]; rfl
theorem erase_split {l : List On} {i : Nat} (h : i < l.length) : l = l.take i ++ l.getD i noOn :: l.drop (i + 1) ∧ l.eraseIdx i = l.take i ++ l.drop (i + 1) := by
  refine ⟨?_, List.eraseIdx_eq_take_drop_succ l i⟩
  have e : l.getD i noOn :: l.drop (i + 1) = l.drop i := by rw [List.drop_eq_getElem_cons h, List.getD_eq_getElem?_getD, List.getElem?_eq_getElem h]; rfl
  rw [e, List.take_append_drop]
theorem filter_off {x : List (Int × Int)} {n : Int} (h : ∀ p ∈ x, p.1 ≠ n) : x.filter (fun p => decide (p.1 ≠ n)) = x := by
  rw [List.filter_eq_self]
  intro p hp
  simpa using h p hp
/-- One number taken. -/
theorem take_one {l : List On} {k n : Int} (hd : ((spB l k).map Prod.fst).Nodup) (hin : ∃ s, (n, s) ∈ spB l k) :
    0 ≤ atB l k n l.length ∧ (n, (l.getD (atB l k n l.length).toNat noOn).s) ∈ spB l k ∧ spB (l.eraseIdx (atB l k n l.length).toNat) k = (spB l k).filter (fun p => decide (p.1 ≠ n)) ∧ (∀ k', k' ≠ k → spB (l.eraseIdx (atB l k n l.length).toNat) k' = spB l k') ∧ (l.eraseIdx (atB l k n l.length).toNat).length + 1 = l.length := by
  have h0 : 0 ≤ atB l k n l.length := by
    by_cases h : atB l k n l.length < 0
    · exfalso
      obtain ⟨s, hs⟩ := hin
      unfold spB at hs
      obtain ⟨x, hx, e⟩ := List.mem_map.1 hs
      obtain ⟨hx1, hx2⟩ := List.mem_filter.1 hx
      obtain ⟨i, hi, rfl⟩ := List.getElem_of_mem hx1
      have := atB_none l k n l.length h i hi
      rw [List.getD_eq_getElem?_getD, List.getElem?_eq_getElem hi] at this
      simp only [Prod.mk.injEq] at e
      simp only [hit, Option.getD_some, Bool.and_eq_false_iff, decide_eq_false_iff_not] at this
      simp only [decide_eq_true_eq] at hx2
      rcases this with h1 | h1
      · exact h1 hx2
      · exact h1 e.1
    · omega
  have hlt : (atB l k n l.length).toNat < l.length := by
    rcases atB_range l k n l.length with h | h <;> omega
  have hh := atB_hit l k n l.length h0
  generalize (atB l k n l.length).toNat = i at *
  obtain ⟨e1, e2⟩ := erase_split hlt
  generalize hx : l.getD i noOn = x at *
  simp only [hit, Bool.and_eq_true, decide_eq_true_eq] at hh
  have hs : spB l k = spB (l.take i) k ++ (n, x.s) :: spB (l.drop (i + 1)) k := by
    conv => lhs; rw [e1]
    rw [spB_append, spB_cons, if_pos hh.1, hh.2]; rfl
  refine ⟨h0, by rw [hs]; simp, ?_, fun k' hk' => ?_, by rw [List.length_eraseIdx, if_pos hlt]; omega⟩
  · rw [e2, spB_append, hs]
    rw [hs] at hd
    rw [List.map_append, List.map_cons, List.nodup_append] at hd
    obtain ⟨d1, d2, d3⟩ := hd
    have n1 : ∀ p ∈ spB (l.take i) k, p.1 ≠ n := fun p hp e => d3 p.1 (List.mem_map.2 ⟨p, hp, rfl⟩) n List.mem_cons_self e
    have n2 : ∀ p ∈ spB (l.drop (i + 1)) k, p.1 ≠ n := fun p hp e => (List.nodup_cons.1 d2).1 (by rw [← e]; exact List.mem_map.2 ⟨p, hp, rfl⟩)
    rw [List.filter_append, filter_off n1, List.filter_cons_of_neg (by simp), filter_off n2]
  · rw [e2, spB_append]
    conv => rhs; rw [e1]
    rw [spB_append, spB_cons, if_neg (fun e => hk' (by rw [← e]; exact hh.1))]
    simp
end Go.Proofs.Ytjhihcmemnhbbaa
