/-
  What the law on messages has in memory while it writes: small laws.
-/
import Derived.Test.YtdlefmlienfjhaaBaR
namespace Go.Proofs.Ytdlefmlienfjhaa
open Go.RowKit
set_option linter.unusedVariables false
set_option maxRecDepth 20000

/-- The bytes so far and the body so far: two rows of the call's own, in blocks of their own. -/
structure BS (W1 wr : World) (B V : Sv) (bs vs : List Int) : Prop where
  q : Q W1 wr
  b : Row wr B bs
  v : Row wr V vs
  nb : New W1.heap.size B
  nv : New W1.heap.size V
  ne : ∀ x, blk B.a = some x → blk V.a ≠ some x
theorem BS.call {W1 wr w2 : World} {B V : Sv} {bs vs : List Int} (h : BS W1 wr B V bs vs) (k : Q wr w2) : BS W1 w2 B V bs vs := ⟨h.q.trans k, h.b.q k, h.v.q k, h.nb, h.nv, h.ne⟩
theorem BS.appB {W1 wr w2 : World} {B V B2 : Sv} {bs vs ys : List Int} (h : BS W1 wr B V bs vs) (hr : Row w2 B2 (bs ++ ys)) (k : Keep (fun b => blk B.a = some b) wr w2) (hb : blk B2.a = blk B.a ∨ blk B2.a = some wr.heap.size) : BS W1 w2 B2 V (bs ++ ys) vs := by
  refine ⟨k.below h.q h.q.size (fun i e => h.nb i e), hr, Sub.keep h.v k (fun b e e2 => h.ne b e2 e), fun b e => ?_, h.nv, fun x e e2 => ?_⟩
  · rcases hb with hb | hb
    · exact h.nb b (by rw [← hb]; exact e)
    · rw [hb] at e; cases e; exact h.q.size
  · rcases hb with hb | hb
    · exact h.ne x (by rw [← hb]; exact e) e2
    · rw [hb] at e; cases e
      have := Sub.lt h.v _ e2
      omega
theorem BS.appV {W1 wr w2 : World} {B V V2 : Sv} {bs vs ys : List Int} (h : BS W1 wr B V bs vs) (hr : Row w2 V2 (vs ++ ys)) (k : Keep (fun b => blk V.a = some b) wr w2) (hb : blk V2.a = blk V.a ∨ blk V2.a = some wr.heap.size) : BS W1 w2 B V2 bs (vs ++ ys) := by
  refine ⟨k.below h.q h.q.size (fun i e => h.nv i e), Sub.keep h.b k (fun b e e2 => h.ne b e e2), hr, h.nb, fun b e => ?_, fun x e e2 => ?_⟩
  · rcases hb with hb | hb
    · exact h.nv b (by rw [← hb]; exact e)
    · rw [hb] at e; cases e; exact h.q.size
  · rcases hb with hb | hb
    · exact h.ne x e (by rw [← hb]; exact e2)
    · rw [hb] at e2; cases e2
      have := Sub.lt h.b _ e
      omega
/-- The pieces of a body in memory. -/
def SegP (w : World) (a : Option Addr) (L : List (Sv × List Int)) : Prop := L ≠ [] → ∃ g off, a = some ⟨g, off, none⟩ ∧ ∀ i p, L[i]? = some p → w.cell? ⟨g, off + i, none⟩ = some (.slice p.1.a p.1.n p.1.c) ∧ Seg w p.1.a p.2
theorem SegP.q {w w' : World} {a : Option Addr} {L : List (Sv × List Int)} (h : SegP w a L) (q : Q w w') : SegP w' a L := by
  intro hne
  obtain ⟨g, off, ha, hc⟩ := h hne
  exact ⟨g, off, ha, fun i p hp => ⟨cq (hc i p hp).1 q, (hc i p hp).2.q q⟩⟩
def pcs (L : List (Sv × List Int)) : List (List Int) := L.map (·.2)
theorem pcs_take {L : List (Sv × List Int)} {k : Nat} {p : Sv × List Int} (h : L[k]? = some p) : pcs (L.take (k + 1)) = pcs (L.take k) ++ [p.2] := by
  unfold pcs
  rw [List.take_add_one, h]
  simp
theorem bdW_snoc (J : List Int) (ps : List (List Int)) (p : List Int) : bdW J (ps ++ [p]) = bdW J ps ++ (J ++ frW 0 p) := by
  unfold bdW
  rw [List.flatMap_append]
  simp
theorem bdW_len (J : List Int) (ps : List (List Int)) : (bdW J ps).length ≤ ps.length * (J.length + 16) + ps.flatten.length := by
  induction ps with
  | nil => simp [bdW]
  | cons p r ih =>
    have e : bdW J (p :: r) = (J ++ frW 0 p) ++ bdW J r := by unfold bdW; simp
    have h1 := frW_len 0 p
    rw [e, List.length_append, List.length_append, List.flatten_cons, List.length_append, List.length_cons, Nat.succ_mul]
    omega
theorem pcs_flat_take (L : List (Sv × List Int)) (k : Nat) : (pcs (L.take k)).flatten.length ≤ (pcs L).flatten.length := by
  have e : pcs L = pcs (L.take k) ++ pcs (L.drop k) := by unfold pcs; rw [← List.map_append, List.take_append_drop]
  rw [e, List.flatten_append, List.length_append]
  omega
/-- How much there is at the most. -/
def tot (j : Nat) (hd : List Int) (L : List (Sv × List Int)) (tr : List Int) : Nat := (L.length + 3) * (j + 64) + hd.length + (pcs L).flatten.length + tr.length
theorem tot_b {j : Nat} {J hd tr : List Int} {L : List (Sv × List Int)} (hJ : J.length ≤ j + 16) (k : Nat) (hk : k ≤ L.length) : ((J ++ frW 1 hd) ++ bdW J (pcs (L.take k))).length + 2 * (j + 32) + tr.length ≤ tot j hd L tr := by
  have h1 := frW_len 1 hd
  have h2 := bdW_len J (pcs (L.take k))
  have h3 := pcs_flat_take L k
  have h4 : (pcs (L.take k)).length = k := by unfold pcs; rw [List.length_map, List.length_take]; omega
  have h5 : k * (J.length + 16) ≤ L.length * (j + 64) := Nat.mul_le_mul hk (by omega)
  unfold tot
  rw [h4] at h2
  rw [Nat.add_mul]
  simp only [List.length_append]
  omega
theorem msW_eq (J hd tr : List Int) (ps : List (List Int)) : msW J hd ps true tr = (((J ++ frW 1 hd) ++ bdW J ps) ++ (J ++ frW 1 tr)) ++ J ∧ msW J hd ps false tr = ((J ++ frW 1 hd) ++ bdW J ps) ++ J := by
  unfold msW
  simp
theorem one_of {α β : Type} {f : α → β} {L : List α} {a : β} (h : L.map f = [a]) : ∃ P0, L = [P0] ∧ f P0 = a := by
  cases L with
  | nil => cases h
  | cons P0 r =>
    cases r with
    | nil => simp only [List.map_cons, List.map_nil, List.cons.injEq, and_true] at h; exact ⟨P0, rfl, h⟩
    | cons _ _ => cases h
theorem same_q (x y : Sv) (zs : List Int) (w : World) (hx : Seg w x.a zs ∧ zs.length = x.n) (hy : Seg w y.a zs ∧ zs.length = y.n) (hb : zs.length ≤ 9223372036854775807) : Calls Try.prog 26 #[.slice x.a x.n x.c, .slice y.a y.n y.c] w fun e w' => e = .returned (.bool true) ∧ Q w w' := by
  have e : y.n = x.n := by omega
  rw [e]
  refine (same_dr x.a y.a x.n x.c y.c zs w hx.2 (by omega) hx.1 hy.1).mono ?_
  rintro e w' ⟨rfl, m, rfl⟩
  exact ⟨rfl, (Q.refl w).drewN m⟩
end Go.Proofs.Ytdlefmlienfjhaa
