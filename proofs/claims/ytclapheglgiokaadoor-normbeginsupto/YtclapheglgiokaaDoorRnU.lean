/-
  Rows of fields that grow; the fields that are left: contracts that the statements' walks use.
-/
import Derived.Test.YtclapheglgiokaaDoorRnT
import Derived.Lib.BytesEntry
import Derived.Deep.RegionLaw
namespace Go.Proofs.YtclapheglgiokaaDoor
open Go.RowKit
set_option linter.unusedVariables false
set_option maxRecDepth 20000

theorem Sub.q' {w w' : World} {e size n cap : Nat} {a : Option Addr} {vs : List Value} (h : Sub w e size a n cap vs) (k : Q w w') : Sub w' e size a n cap vs := Sub.keep h (Keep.ofQ (F := fun _ => False) k) (fun b e h => h)
/-- append of one struct out of a new block of its own. -/
theorem app_st {w : World} {t e : TypeId} {z : Value} {cs : Array Value} {a : Option Addr} {n cap by_ size : Nat} {vs : List Value} {i0 : TypeInfo} (ht : Tryd.prog.underlying t = some (.slice e)) (hi : Tryd.prog.info? e = some i0) (hz0 : i0.zero = some z) (hz1 : i0.size = size) (hz2 : i0.bytes = by_) (hby : by_ ≤ 32) (hzs : z.cells.size = size) (hc : cs.size = size) (hv : ∀ v ∈ cs.toList, v.oneCell' = true)
    (hs : Sub w e size a n cap vs) (hn : n ≤ 4398046511104) :
    ∃ a' cap' w', (Builtin.append_ #[t, t] t #[.slice a n cap, .slice (some ⟨w.heap.size, 0, none⟩) 1 1]).run Tryd.prog (w.alloc (.cells cs e)) = .ok (.slice a' (n + 1) cap') w' ∧ Sub w' e size a' (n + 1) cap' (vs ++ cs.toList) ∧ Keep (fun b => blk a = some b) w w' ∧ (∀ b, blk a' = some b → blk a = some b ∨ w.heap.size ≤ b) := by
  have hq : Q w (w.alloc (.cells cs e)) := (Q.refl w).alloc _
  have hg : (w.alloc (.cells cs e)).heap[w.heap.size]? = some (.cells cs e (0, 0)) := heap_alloc_new w _
  have hsrc : ∀ j u, cs.toList[j]? = some u → (w.alloc (.cells cs e)).cell? ((⟨w.heap.size, 0, none⟩ : Addr).add j) = some u := by
    intro j u hj
    rw [addr_add, cell_of_row _ _ _ _ e (0, 0) hg, Nat.zero_add]
    simpa using hj
  have hmul : (n + 1 + (n + 1) / 4 + 192) * by_ ≤ 281474976710656 := Nat.le_trans (Nat.mul_le_mul_left _ hby) (by omega)
  obtain ⟨a', cap', w', hr, h1, h2, h3⟩ := sub_append (P := Tryd.prog) (ty := t) ht hi hz0 hz1 hz2 hzs (Sub.q' hs hq) (Src.ofSlice _ ht ⟨w.heap.size, 0, none⟩ 1 1 cs.toList (by simp [hc]) hsrc hv) (by unfold maxLen; omega) hmul
  refine ⟨a', cap', w', hr, h1, (Keep.ofQ hq).trans h2, fun b hb => ?_⟩
  rcases h3 with h | h
  · exact .inl (by rw [← h]; exact hb)
  · rw [h] at hb
    simp at hb
    right
    have := hq.size
    omega
def fcl (p : Fd) : List Value := [.string p.1, .string p.2]
def RowG (w : World) (x : Sv) (l : List Fd) : Prop := Sub w 57 2 x.a x.n x.c (l.flatMap fcl)
theorem fcl_len (l : List Fd) : (l.flatMap fcl).length = l.length * 2 := by
  induction l with
  | nil => rfl
  | cons x r ih => rw [List.flatMap_cons, List.length_append, ih, List.length_cons]; simp [fcl]; omega
theorem fcl_get {l : List Fd} {k : Nat} {p : Fd} (h : l[k]? = some p) : (l.flatMap fcl)[k * 2]? = some (.string p.1) ∧ (l.flatMap fcl)[k * 2 + 1]? = some (.string p.2) := by
  induction l generalizing k with
  | nil => cases h
  | cons x r ih =>
    cases k with
    | zero => simp at h; subst h; exact ⟨rfl, rfl⟩
    | succ k =>
      have := ih (k := k) (by simpa using h)
      rw [List.flatMap_cons, List.getElem?_append_right (by simp [fcl]; omega), List.getElem?_append_right (by simp [fcl]; omega)]
      simp only [fcl, List.length_cons, List.length_nil]
      rw [show (k + 1) * 2 - (0 + 1 + 1) = k * 2 by omega, show (k + 1) * 2 + 1 - (0 + 1 + 1) = k * 2 + 1 by omega]
      exact this
theorem RowG.len {w : World} {x : Sv} {l : List Fd} (h : RowG w x l) : l.length = x.n := by
  have := Sub.len h
  rw [fcl_len] at this
  omega
theorem RowG.q {w w' : World} {x : Sv} {l : List Fd} (h : RowG w x l) (k : Q w w') : RowG w' x l := Sub.q' h k
theorem RowG.get {w : World} {x : Sv} {l : List Fd} (h : RowG w x l) {k : Nat} {p : Fd} (hk : l[k]? = some p) : ∃ g off, x.a = some ⟨g, off, none⟩ ∧ w.cell? ⟨g, off + k * 2, none⟩ = some (.string p.1) ∧ w.cell? ⟨g, off + k * 2 + 1, none⟩ = some (.string p.2) := by
  have hl := h.len
  have hkl := (List.getElem?_eq_some_iff.1 hk).1
  obtain ⟨_, h0 | ⟨g, off, cur, ha, hg, h1, h2, h3, h4⟩⟩ := h
  · omega
  · obtain ⟨e1, e2⟩ := fcl_get hk
    refine ⟨g, off, ha, ?_, ?_⟩
    · rw [cell_of_row w g _ cur 57 (0, 0) hg, h4 (k * 2) (by omega), e1]
    · rw [Nat.add_assoc, cell_of_row w g _ cur 57 (0, 0) hg, h4 (k * 2 + 1) (by omega), e2]
theorem info37 : (Tryd.prog.info? 57).map (fun i => (i.zero, i.size, i.bytes)) = some (some (.agg #[.string ⟨#[]⟩, .string ⟨#[]⟩]), 2, 32) := by kernel_rfl
theorem rowG_one {w : World} {d : Sv} {l : List Fd} (p : Fd) (h : RowG w d l) (hn : d.n ≤ 4398046511104) :
    ∃ d' w', (Builtin.append_ #[22, 22] 22 #[.slice d.a d.n d.c, .slice (some ⟨w.heap.size, 0, none⟩) 1 1]).run Tryd.prog (w.alloc (.cells #[.string p.1, .string p.2] 57)) = .ok (.slice d'.a d'.n d'.c) w' ∧ RowG w' d' (l ++ [p]) ∧ Keep (fun b => blk d.a = some b) w w' ∧ (∀ b, blk d'.a = some b → blk d.a = some b ∨ w.heap.size ≤ b) := by
  obtain ⟨i0, hi, hz0, hz1, hz2⟩ := info_parts info37
  obtain ⟨a', c', w', h1, h2, h3, h4⟩ := app_st (cs := #[.string p.1, .string p.2]) Tryd.underlying22 hi hz0 hz1 hz2 (by omega) rfl rfl (by intro v hv; simp at hv; rcases hv with rfl | rfl <;> rfl) h hn
  exact ⟨⟨a', d.n + 1, c'⟩, w', h1, by show Sub _ _ _ _ _ _ (List.flatMap fcl _); rw [List.flatMap_append]; exact h2, h3, h4⟩

theorem new_step' {B : Nat} {w wr w' : World} {x y : Sv} (hB : B = w.heap.size) (hq : Q w wr) (hx : New B x) (k : Keep (fun b => blk x.a = some b) wr w') (h : ∀ b, blk y.a = some b → blk x.a = some b ∨ wr.heap.size ≤ b) : Q w w' ∧ New B y := by
  subst hB
  refine ⟨k.below hq hq.size (fun i hi => hx i hi), fun b hb => ?_⟩
  rcases h b hb with h | h
  · exact hx b h
  · have := hq.size; omega
theorem RowG.seg {w : World} {x : Sv} {l : List Fd} (h : RowG w x l) : SegF w x.a l := by
  intro hne
  have h0 : 0 < l.length := by cases l with | nil => exact absurd rfl hne | cons a b => simp
  obtain ⟨g, off, ha, _⟩ := h.get (k := 0) (p := l[0]) (List.getElem?_eq_getElem h0)
  refine ⟨g, off, ha, fun k p hk => ?_⟩
  obtain ⟨g', off', ha', c0, c1⟩ := h.get hk
  rw [ha] at ha'
  cases ha'
  exact ⟨c0, c1⟩
theorem pln_len (l : List Fd) : (plnL l).length ≤ l.length := List.length_filter_le _ _
theorem pln_snoc (l : List Fd) (p : Fd) : plnL (l ++ [p]) = if !psS p.1 && !eqS p.1 kHos then plnL l ++ [p] else plnL l := by
  unfold plnL
  rw [List.filter_append]
  cases h : (!psS p.1 && !eqS p.1 kHos) <;> simp [h]
end Go.Proofs.YtclapheglgiokaaDoor
