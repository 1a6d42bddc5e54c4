/-
  Two buffers of the program beside one another, and what stays where pieces are put: for the walk of the law ReasmFirst.
-/
import Derived.Test.YtdgkeidpoodmeaaOpen
namespace Go.Proofs.Ytdgkeidpoodmeaa
open Go.RowKit
set_option linter.unusedVariables false

/-- What was taken stays. -/
def Ext (s t : S) : Prop := t.off = s.off ∧ ∀ j v, at_ s.xs j = some v → at_ t.xs j = some v
theorem ext_refl (s : S) : Ext s s := ⟨rfl, fun _ _ h => h⟩
theorem ext_put {s t : S} (h : Ext s t) (room p : Int) (zs : List Int) (f : Bool) : Ext s (putAll room t p zs f) := by
  unfold putAll
  split
  · exact ⟨h.1, fun j v hj => putS_some _ _ (h.2 j v hj)⟩
  · exact h
theorem ext_rdy {s t : S} (h : Ext s t) : rdy s.xs ≤ rdy t.xs := by
  rcases Nat.lt_or_ge (rdy t.xs) (rdy s.xs) with hh | hh
  · obtain ⟨v, hv⟩ := rdy_some hh
    have := h.2 _ v hv
    rw [rdy_none] at this; cases this
  · exact hh
theorem readM_nat (s : S) (k : Nat) (h : k ≤ rdy s.xs) : readM s (k : Int) = k := by unfold readM; omega
theorem ext_vals {s t : S} (h : Ext s t) : vals (t.xs.take (rdy s.xs)) = vals (s.xs.take (rdy s.xs)) := by
  have hr := ext_rdy h
  have h1 := rdy_le s.xs
  have h2 := rdy_le t.xs
  rw [vals_take, vals_take]
  apply List.ext_getElem?
  intro j
  rw [List.getElem?_take, List.getElem?_take]
  split
  · next hj =>
    obtain ⟨v, hv⟩ := rdy_some hj
    have hv' := h.2 j v hv
    have e1 := vals_get s.xs j
    have e2 := vals_get t.xs j
    rw [List.getD_eq_getElem?_getD, List.getElem?_eq_getElem (by rw [vals_len]; omega)] at e1 e2
    rw [List.getElem?_eq_getElem (by rw [vals_len]; omega), List.getElem?_eq_getElem (by rw [vals_len]; omega)]
    simp only [Option.getD_some] at e1 e2
    rw [e1, e2, hv, hv']
  · rfl
theorem fresh_none {room : Int} {s : S} {p : Int} {zs : List Int} {f : Bool} (h : errOf room s p zs.length f ≠ 0) : freshOf room s p zs f = 0 ∧ putAll room s p zs f = s := by
  unfold freshOf putAll
  rw [if_neg h]
  exact ⟨by omega, rfl⟩

/-- One call of a script, in a block of its own. -/
def Thr (w : World) (b : Nat) (z : Cl) : Prop := w.heap[b]? = some (.cells #[.int .i64 z.kd, .int .i64 z.p, .slice z.da z.dn z.dc, .bool z.f] 40 (0, 0))
theorem Thr.c0 {w : World} {b : Nat} {z : Cl} (h : Thr w b z) : w.cell? ⟨b, 0, none⟩ = some (.int .i64 z.kd) := by rw [cell_of_row w b 0 _ 40 (0, 0) h]; rfl
theorem Thr.c1 {w : World} {b : Nat} {z : Cl} (h : Thr w b z) : w.cell? ⟨b, 1, none⟩ = some (.int .i64 z.p) := by rw [cell_of_row w b 1 _ 40 (0, 0) h]; rfl
theorem Thr.c2 {w : World} {b : Nat} {z : Cl} (h : Thr w b z) : w.cell? ⟨b, 2, none⟩ = some (.slice z.da z.dn z.dc) := by rw [cell_of_row w b 2 _ 40 (0, 0) h]; rfl
theorem Thr.c3 {w : World} {b : Nat} {z : Cl} (h : Thr w b z) : w.cell? ⟨b, 3, none⟩ = some (.bool z.f) := by rw [cell_of_row w b 3 _ 40 (0, 0) h]; rfl
theorem Thr.keep {F : Nat → Prop} {w w' : World} {b : Nat} {z : Cl} (h : Thr w b z) (k : Keep F w w') (hF : ¬ F b) : Thr w' b z := (k.block b (lt_of_block h) hF).trans h

/-- Two buffers, apart from one another and from all that was there. -/
structure Two (W w : World) (rb : Nat) (a : Option Addr) (n c : Nat) (rc : Nat) (a2 : Option Addr) (n2 c2 : Nat) (room : Int) (s t : S) : Prop where
  b1 : Bf w rb a n c room s
  b2 : Bf w rc a2 n2 c2 room t
  o1 : Ok room s
  o2 : Ok room t
  w1 : ∀ i, Fp rb a i → W.heap.size ≤ i
  w2 : ∀ i, Fp rc a2 i → W.heap.size ≤ i
  ap : ∀ i, Fp rb a i → ¬ Fp rc a2 i
  q : Q W w
theorem Two.go {W w w' : World} {rb : Nat} {a : Option Addr} {n c : Nat} {rc : Nat} {a2 : Option Addr} {n2 c2 : Nat} {room : Int} {s t : S} (h : Two W w rb a n c rc a2 n2 c2 room s t) (k : Q w w') : Two W w' rb a n c rc a2 n2 c2 room s t :=
  ⟨h.b1.q k, h.b2.q k, h.o1, h.o2, h.w1, h.w2, h.ap, h.q.trans k⟩
theorem Two.swap {W w : World} {rb : Nat} {a : Option Addr} {n c : Nat} {rc : Nat} {a2 : Option Addr} {n2 c2 : Nat} {room : Int} {s t : S} (h : Two W w rb a n c rc a2 n2 c2 room s t) : Two W w rc a2 n2 c2 rb a n c room t s :=
  ⟨h.b2, h.b1, h.o2, h.o1, h.w2, h.w1, fun i h2 h1 => h.ap i h1 h2, h.q⟩
/-- The first has gone on. -/
theorem Two.fst {W w w' : World} {rb : Nat} {a a' : Option Addr} {n c n' c' : Nat} {rc : Nat} {a2 : Option Addr} {n2 c2 : Nat} {room : Int} {s s' t : S} (h : Two W w rb a n c rc a2 n2 c2 room s t) (k : Keep (Fp rb a) w w') (b : Bf w' rb a' n' c' room s') (o : Ok room s')
    (f : ∀ b, blk a' = some b → blk a = some b ∨ w.heap.size ≤ b) : Two W w' rb a' n' c' rc a2 n2 c2 room s' t := by
  have hs := h.q.size
  refine ⟨b, h.b2.keep k (fun i h2 h1 => h.ap i h1 h2), o, h.o2, ?_, h.w2, ?_, ?_⟩
  · rintro i (rfl | hi)
    · exact h.w1 _ (.inl rfl)
    · rcases f i hi with hh | hh
      · exact h.w1 _ (.inr hh)
      · omega
  · rintro i (rfl | hi) h2
    · exact h.ap _ (.inl rfl) h2
    · rcases f i hi with hh | hh
      · exact h.ap _ (.inr hh) h2
      · have := h.b2.lt i h2; omega
  · have k' : Keep (fun b => W.heap.size ≤ b) W w' := (Keep.ofQ h.q).trans (k.mono (fun i _ e => h.w1 i e))
    exact k'.toQ (fun i hi e => by omega)
end Go.Proofs.Ytdgkeidpoodmeaa
