/-
  Split at bytes of any length, a piece of a row of pieces, and that the pieces tile the datagram. Used by the statements' walks.
-/
import Derived.Test.YtbhhajmfdffdbaaSpl
namespace Go.Proofs.Ytbhhajmfdffdbaa
open Go.RowKit
set_option linter.unusedVariables false
set_option maxRecDepth 20000

set_option maxHeartbeats 1000000 in
theorem split_any (a : Option Addr) (n c : Nat) (zs : List Int) (cid : Int) (w : World) (hl : zs.length = n) (hz : ∀ y ∈ zs, 0 ≤ y ∧ y < 256) (hn : n ≤ 140737488355328) (hs : Seg w a zs) :
    Calls Try.prog 19 #[.slice a n c, .int .i64 cid] w fun e w' => AnsS w (splA zs cid) e w' := by
  by_cases h1 : 16384 < n
  · have HD := hid (show splA zs cid = ([], 52) from by unfold splA; rw [if_pos (by omega)])
    have hi : (16384 : Int) < (n : Int) := by omega
    clear hl hz hs
    go_enter Try.func19, Try.ntmps19
    go_wp2
    go_ret2
    exact ⟨nilS, [], by rw [HD.out]; rfl, Q.refl _, pcs_nil _ _, by rw [HD.out]; rfl⟩
  by_cases h0 : n = 0
  · subst h0
    have HD := hid (show splA zs cid = ([], 12) from by unfold splA; rw [if_neg (by omega), if_pos hl])
    clear hl hz hs
    go_enter Try.func19, Try.ntmps19
    go_wp2
    go_ret2
    exact ⟨nilS, [], by rw [HD.out]; rfl, Q.refl _, pcs_nil _ _, by rw [HD.out]; rfl⟩
  have e : splA zs cid = spl zs cid zs.length 0 [] := by unfold splA; rw [if_neg (by omega), if_neg (by omega)]
  rw [e]
  exact split_small a n c zs cid w hl hz (by omega) (by omega) hs

def zp : Pd := ((zh, 0, 0, 0), nilS, nilS, nilS, nilS)
theorem flatP_get : ∀ {l : List Pd} {j i : Nat} {v : Value}, j < l.length → (pc (l.getD j zp)).toList[i]? = some v → (flatP l)[j * 10 + i]? = some v := by
  intro l
  induction l with
  | nil => intro j i v hj; simp at hj
  | cons t r ih =>
    intro j i v hj hv
    have e : flatP (t :: r) = (pc t).toList ++ flatP r := rfl
    have h10 : (pc t).toList.length = 10 := rfl
    cases j with
    | zero =>
      have hv' : (pc t).toList[i]? = some v := hv
      have hi : i < 10 := by
        rcases Nat.lt_or_ge i 10 with hh | hh
        · exact hh
        · rw [List.getElem?_eq_none (by rw [h10]; exact hh)] at hv'; cases hv'
      rw [e, List.getElem?_append_left (by rw [h10]; omega), Nat.zero_mul, Nat.zero_add]
      exact hv'
    | succ j =>
      rw [e, List.getElem?_append_right (by rw [h10]; omega), h10]
      rw [show (j + 1) * 10 + i - 10 = j * 10 + i by omega]
      exact ih (by simpa using hj) hv
/-- A piece of a row, cell by cell. -/
theorem Pcs.el {B : Nat} {w : World} {x : Sv} {l : List Pd} (h : Pcs B w x l) {j : Nat} (hj : j < l.length) : ∃ g off H d s t v fr at_ en, x.a = some ⟨g, off, none⟩ ∧ (∀ i u, (pcells H d s t v fr at_ en).toList[i]? = some u → w.cell? ⟨g, off + j * 10 + i, none⟩ = some u) ∧ Holds B w H d s t v ∧ (l.map (·.1)).getD j zp.1 = (H, fr, at_, en) := by
  obtain ⟨g, off, ha, _, hc⟩ := h.sub.some_ (by rw [← h.len]; omega)
  have hm : l.getD j zp ∈ l := by rw [List.getD_eq_getElem?_getD, List.getElem?_eq_getElem hj]; exact List.getElem_mem _
  refine ⟨g, off, (l.getD j zp).1.1, (l.getD j zp).2.1, (l.getD j zp).2.2.1, (l.getD j zp).2.2.2.1, (l.getD j zp).2.2.2.2, (l.getD j zp).1.2.1, (l.getD j zp).1.2.2.1, (l.getD j zp).1.2.2.2, ha, fun i u hu => ?_, h.hold _ hm, ?_⟩
  · have := hc _ _ (flatP_get hj hu)
    rw [Nat.add_assoc]; exact this
  · simp [List.getD_eq_getElem?_getD, hj]

/-- Where the j-th piece is to begin. -/
def endAt (L : List Pc) (j : Nat) : Int := if j = 0 then 0 else (L.getD (j - 1) zp.1).2.2.2
/-- The pieces tile the bytes up to P; all but those that reach the end are of a kind that says its length. -/
def Tiled (n : Int) (L : List Pc) (P : Int) : Prop := endAt L L.length = P ∧ ∀ j, j < L.length → (L.getD j zp.1).2.1 = endAt L j ∧ (L.getD j zp.1).2.1 < (L.getD j zp.1).2.2.1 ∧ (L.getD j zp.1).2.2.1 ≤ (L.getD j zp.1).2.2.2 ∧ (L.getD j zp.1).2.2.2 ≤ n ∧ (j + 1 < L.length ∨ P < n → (L.getD j zp.1).1.kind = 1 ∨ (L.getD j zp.1).1.kind = 2 ∨ (L.getD j zp.1).1.kind = 3)
theorem getD_old {L : List Pc} {t : Pc} {j : Nat} (h : j < L.length) : (L ++ [t]).getD j zp.1 = L.getD j zp.1 := by
  simp [List.getD_eq_getElem?_getD, List.getElem?_append_left h]
theorem getD_last {L : List Pc} {t : Pc} : (L ++ [t]).getD L.length zp.1 = t := by simp [List.getD_eq_getElem?_getD]
theorem endAt_old {L : List Pc} {t : Pc} {j : Nat} (h : j ≤ L.length) : endAt (L ++ [t]) j = endAt L j := by
  unfold endAt
  split
  · rfl
  · rw [getD_old (by omega)]
theorem tiled_push {n P q e : Int} {L : List Pc} {H : Hd} (h : Tiled n L P) (hP : P < n) (h1 : P < q) (h2 : q ≤ e) (h3 : e ≤ n) (hk : e < n → H.kind = 1 ∨ H.kind = 2 ∨ H.kind = 3) : Tiled n (L ++ [(H, P, q, e)]) e := by
  have hlen : (L ++ [(H, P, q, e)]).length = L.length + 1 := by simp
  refine ⟨?_, fun j hj => ?_⟩
  · rw [hlen]; unfold endAt; rw [if_neg (by omega), Nat.add_sub_cancel, getD_last]
  · rw [hlen] at hj ⊢
    rcases Nat.lt_or_ge j L.length with hl | hl
    · rw [getD_old hl, endAt_old (by omega)]
      obtain ⟨a, b, c, d, f⟩ := h.2 j hl
      exact ⟨a, b, c, d, fun _ => f (.inr hP)⟩
    · obtain rfl : j = L.length := by omega
      rw [getD_last, endAt_old (Nat.le_refl _)]
      exact ⟨h.1.symm, h1, h2, h3, fun hh => hk (by omega)⟩
theorem spl_tiled {zs : List Int} {cid : Int} (hz : ∀ y ∈ zs, 0 ≤ y ∧ y < 256) : ∀ (k : Nat) (P : Int) (acc : List Pc), 0 ≤ P → P ≤ zs.length → Tiled zs.length acc P →
    ((spl zs cid k P acc).2 = 0 → (∃ P', Tiled zs.length (spl zs cid k P acc).1 P') ∧ (acc ≠ [] ∨ (0 < k ∧ P < zs.length) → (spl zs cid k P acc).1 ≠ [])) ∧ ((spl zs cid k P acc).2 ≠ 0 → (spl zs cid k P acc).1 = []) := by
  intro k
  induction k with
  | zero =>
    intro P acc h0 h1 ht
    refine ⟨fun _ => ⟨⟨P, ht⟩, fun h => ?_⟩, fun h => absurd rfl h⟩
    rcases h with h | h
    · exact h
    · omega
  | succ k ih =>
    intro P acc h0 h1 ht
    rw [spl]
    by_cases hP : (zs.length : Int) ≤ P
    · rw [if_pos hP]
      refine ⟨fun _ => ⟨⟨P, ht⟩, fun h => ?_⟩, fun h => absurd rfl h⟩
      rcases h with h | h
      · exact h
      · omega
    rw [if_neg hP]
    cases ho : hdrO zs cid P with
    | bad x =>
      dsimp only
      by_cases ha : acc = []
      · rw [if_pos ha]
        exact ⟨fun h => absurd h (hdrO_bad ho), fun _ => rfl⟩
      · rw [if_neg ha]
        exact ⟨fun _ => ⟨⟨P, ht⟩, fun _ => ha⟩, fun h => absurd rfl h⟩
    | ok H q =>
      dsimp only
      obtain ⟨pq, h2, h3, h4⟩ := hdrO_pl ⟨hz, h0, h1⟩ ho
      have ht' := tiled_push (H := H) ht (by omega) h2 (show q ≤ q + behM zs.length H.kind H.len q by omega) h4 (fun hh => by
        by_cases hk : H.kind = 1 ∨ H.kind = 2 ∨ H.kind = 3
        · exact hk
        · unfold behM at hh; rw [if_neg hk] at hh; omega)
      obtain ⟨i1, i2⟩ := ih (q + behM zs.length H.kind H.len q) (acc ++ [(H, P, q, q + behM zs.length H.kind H.len q)]) (by omega) h4 ht'
      exact ⟨fun h => ⟨(i1 h).1, fun _ => (i1 h).2 (.inl (by simp))⟩, i2⟩
theorem tiled_le {n P : Int} {L : List Pc} (h : Tiled n L P) : ∀ j, j ≤ L.length → (j : Int) ≤ endAt L j ∧ (0 < j → endAt L j ≤ n) := by
  intro j
  induction j with
  | zero => intro _; exact ⟨by simp [endAt], fun h => by omega⟩
  | succ j ih =>
    intro hj
    obtain ⟨a, b, c, d, _⟩ := h.2 j (by omega)
    have i := (ih (by omega)).1
    have e : endAt L (j + 1) = (L.getD j zp.1).2.2.2 := by unfold endAt; rw [if_neg (by omega), Nat.add_sub_cancel]
    rw [e]
    exact ⟨by omega, fun _ => d⟩
theorem splA_tiled {zs : List Int} {cid : Int} (hz : ∀ y ∈ zs, 0 ≤ y ∧ y < 256) :
    ((splA zs cid).2 = 0 → (∃ P, Tiled zs.length (splA zs cid).1 P) ∧ (splA zs cid).1 ≠ []) ∧ ((splA zs cid).2 ≠ 0 → (splA zs cid).1 = []) := by
  unfold splA
  split
  · exact ⟨fun h => by simp at h, fun _ => rfl⟩
  split
  · exact ⟨fun h => by simp at h, fun _ => rfl⟩
  · have := spl_tiled (cid := cid) hz zs.length 0 [] (by omega) (by omega) ⟨rfl, fun j hj => by simp at hj⟩
    exact ⟨fun h => ⟨(this.1 h).1, (this.1 h).2 (.inr ⟨by omega, by omega⟩)⟩, this.2⟩
end Go.Proofs.Ytbhhajmfdffdbaa
