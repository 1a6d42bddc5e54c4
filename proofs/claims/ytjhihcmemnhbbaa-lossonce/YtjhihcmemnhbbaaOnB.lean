/-
  The law LossOnce's frame in memory: the program's own blocks and the book's beside one another. Nothing is proved of a statement here.
-/
import Derived.Test.YtjhihcmemnhbbaaTkb
import Derived.Test.YtjhihcmemnhbbaaAwk
namespace Go.Proofs.Ytjhihcmemnhbbaa
open Go.RowKit
set_option linter.unusedVariables false
set_option maxRecDepth 20000

theorem Bk.keep {F : Nat → Prop} {w w' : World} {bb : Nat} {d : Sv} {l : List On} {U : Int} (h : Bk w bb d l U) (k : Keep F w w') (h1 : ¬ F bb) (h2 : ∀ b, blk d.a = some b → ¬ F b) : Bk w' bb d l U :=
  ⟨(k.block bb (lt_of_block h.hd) h1).trans h.hd, Sub.keep h.row k h2, h.far⟩
theorem Bk.q {w w' : World} {bb : Nat} {d : Sv} {l : List On} {U : Int} (h : Bk w bb d l U) (q : Q w w') : Bk w' bb d l U := h.keep (Keep.ofQ (F := fun _ => False) q) id (fun _ _ => id)
/-- The program's blocks and the book's. -/
structure LM (w : World) (bb : Nat) (wr : World) (r : Nat → Sv) (S : Lo) (d : Sv) (l : List On) (U : Int) : Prop where
  la : La wr w.heap.size r S
  q : Q w wr
  fp : ∀ b, Fp w.heap.size r b → w.heap.size ≤ b ∧ b ≠ bb ∧ blk d.a ≠ some b
  bk : Bk wr bb d l U
  bn : w.heap.size < bb
  dn : ∀ b, blk d.a = some b → w.heap.size ≤ b
section
variable {w wr u : World} {bb : Nat} {r r' : Nat → Sv} {S S' : Lo} {d d' : Sv} {l l' : List On} {U U' : Int}
theorem LM.qr (h : LM w bb wr r S d l U) (q : Q wr u) : LM w bb u r S d l U := ⟨h.la.q q, h.q.trans q, h.fp, h.bk.q q, h.bn, h.dn⟩
/-- Behind a call of the program. -/
theorem LM.call (h : LM w bb wr r S d l U) (W : Wr wr u w.heap.size r r' S') : LM w bb u r' S' d l U := by
  have hF := Wr.fresh h.q (fun b e => (h.fp b e).1) W
  have hb := lt_of_block h.bk.hd
  refine ⟨W.la, hF.1, fun b e => ⟨hF.2 b e, fun e2 => ?_, fun e2 => ?_⟩, h.bk.keep W.kp (fun e => (h.fp bb e).2.1 rfl) (fun b e1 e2 => (h.fp b e2).2.2 e1), h.bn, h.dn⟩
  · rcases W.fr b e with e3 | e3
    · exact (h.fp b e3).2.1 e2
    · omega
  · rcases W.fr b e with e3 | e3
    · exact (h.fp b e3).2.2 e2
    · have := Sub.lt h.bk.row b e2; omega
/-- Behind a turn of the book. -/
theorem LM.turn (h : LM w bb wr r S d l U) (hB : Bk u bb d' l' U') (k : Keep (fun b => b = bb) wr u) (hd : ∀ b, blk d'.a = some b → blk d.a = some b ∨ wr.heap.size ≤ b) : LM w bb u r S d' l' U' := by
  have hs := h.q.size
  refine ⟨h.la.keep k (fun b e e2 => (h.fp b e).2.1 e2), ?_, fun b e => ⟨(h.fp b e).1, (h.fp b e).2.1, fun e2 => ?_⟩, hB, h.bn, fun b e => ?_⟩
  · have hb := h.bn
    exact ((Keep.ofQ (F := fun b => w.heap.size ≤ b) h.q).trans (k.mono (fun b _ e => by omega))).toQ (fun i hi e => by omega)
  · rcases hd b e2 with e3 | e3
    · exact (h.fp b e).2.2 e3
    · have := h.la.lt b e; omega
  · rcases hd b e with e3 | e3
    · exact h.dn b e3
    · omega
/-- .. where the book's old row may turn too (append). -/
theorem LM.turn' (h : LM w bb wr r S d l U) (hB : Bk u bb d' l' U') (k : Keep (fun b => b = bb ∨ blk d.a = some b) wr u) (hd : ∀ b, blk d'.a = some b → blk d.a = some b ∨ wr.heap.size ≤ b) : LM w bb u r S d' l' U' := by
  have hs := h.q.size
  refine ⟨h.la.keep k (fun b e e2 => ?_), ?_, fun b e => ⟨(h.fp b e).1, (h.fp b e).2.1, fun e2 => ?_⟩, hB, h.bn, fun b e => ?_⟩
  · rcases e2 with e2 | e2
    · exact (h.fp b e).2.1 e2
    · exact (h.fp b e).2.2 e2
  · have hb := h.bn
    exact ((Keep.ofQ (F := fun b => w.heap.size ≤ b) h.q).trans (k.mono (fun b _ e => by
      rcases e with e | e
      · omega
      · exact h.dn b e))).toQ (fun i hi e => by omega)
  · rcases hd b e2 with e3 | e3
    · exact (h.fp b e).2.2 e3
    · have := h.la.lt b e; omega
  · rcases hd b e with e3 | e3
    · exact h.dn b e3
    · omega
theorem LM.c0 (h : LM w bb wr r S d l U) : wr.cell? ⟨bb, 0, none⟩ = some (.slice d.a d.n d.c) := by rw [cell_of_row _ _ _ _ 37 (0, 0) h.bk.hd]; rfl
theorem LM.c1 (h : LM w bb wr r S d l U) : wr.cell? ⟨bb, 1, none⟩ = some (.int .i64 U) := by rw [cell_of_row _ _ _ _ 37 (0, 0) h.bk.hd]; rfl
theorem LM.free (h : LM w bb wr r S d l U) (j : Nat) : wr.frozen? ⟨bb, j, none⟩ = false := frozen_of_row wr bb j _ 37 h.bk.hd
end
/-- All that holds behind j calls. -/
def LO (w : World) (bb j : Nat) (wr : World) : Prop := ∃ r S d l U, LM w bb wr r S d l U ∧ Ok j S ∧ BR S l U
/-- Sent's state as the book wants it. -/
theorem sent_br {N : Nat} {S : Lo} {l : List On} {U : Int} (h : BR S l U) (hO : Ok N S) {k n s now : Int} {el : Bool} (h0 : sntE S k n s now = 0) :
    BR (sntS S k n s el now) (l ++ [⟨k, n, if el then s else 0⟩]) (U + if el then s else 0) ∧ 0 ≤ s ∧ s ≤ 65535 := by
  have hc : chE S k now = 0 := by
    have h1 := h0
    unfold sntE at h1
    split at h1
    · exact h1
    · rename_i h2; simpa using h2
  obtain ⟨k0, k1, n0, n1⟩ := chE_zero hc
  have h1 := h0
  unfold sntE at h1
  rw [if_neg (by simp [hc])] at h1
  obtain ⟨j, rfl⟩ : ∃ j : Nat, k = (j : Int) := ⟨k.toNat, by omega⟩
  rw [Int.toNat_natCast] at h1
  by_cases hb : badP S j n s
  · rw [if_pos hb] at h1; omega
  · have hj : j < 3 := by omega
    have hC := hO.sp j hj
    have hg := gs_srt hC.srt
    simp only [badP] at hb
    have hL := sentL_srt (n := n) hC.srt (by omega) (by omega) (by omega)
    refine ⟨BR.sent h hO hj (now := now) (by omega) (by omega) (by omega) ?_ ?_ hL.2.2, by omega, by omega⟩
    · unfold sntS; rw [if_pos h0, Int.toNat_natCast, put_sp]
    · intro i hi; unfold sntS; rw [if_pos h0, Int.toNat_natCast]; simp only [Lo.put, upd_other _ _ hi]
theorem sent_no {S : Lo} {k n s now : Int} {el : Bool} (h0 : sntE S k n s now ≠ 0) : sntS S k n s el now = S := by unfold sntS; rw [if_neg h0]
theorem ok_drop {N : Nat} {S : Lo} (h : Ok N S) (k : Int) : Ok N (drpS S k) := by
  unfold drpS
  split
  · rename_i h0
    have hk : 0 ≤ k ∧ k < 3 := by
      unfold drpE spE at h0
      by_cases e : 0 ≤ k ∧ k < 3
      · exact e
      · rw [if_neg e] at h0; omega
    have hC := h.sp k.toNat (by omega)
    refine ok_put h (by omega) ⟨(fun p hp => by cases hp), by simp, hC.srt, hC.many, hC.ack0, hC.ack1, by simp, by simp, by simp, by simp⟩ (by simp)
  · exact h
end Go.Proofs.Ytjhihcmemnhbbaa
