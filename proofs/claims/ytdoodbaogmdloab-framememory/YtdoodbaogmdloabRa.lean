/-
  What frame.readAll and Decode do: contracts that the statements' walks use.
-/
import Derived.Test.YtdoodbaogmdloabFrs
namespace Go.Proofs.Ytdoodbaogmdloab
open Go.RowKit
set_option linter.unusedVariables false
set_option maxRecDepth 20000

/-- The state of the reading of all frames. -/
structure RaI (w wr : World) (B bf ba be br rk rb g : Nat) (b : Sv) (zs : List Int) (pl : Int) (P : Nat) (x : Sv) (fds : List Fd) : Prop where
  q : Q w wr
  rg : Rg wr rk rb g b zs pl P
  vf : wr.heap[bf]? = some (.cells #[.slice x.a x.n x.c] 24 (0, 0))
  va : wr.heap[ba]? = some (.cells #[.int .i64 0] 3 (0, 0))
  ve : wr.heap[be]? = some (.cells #[.int .i64 0] 25 (0, 0))
  vr : wr.heap[br]? = some (.cells #[.pointer (some ⟨rk, 0, none⟩)] 51 (0, 0))
  fr : Frs B wr x fds
  bs : w.heap.size ≤ bf ∧ w.heap.size ≤ rk ∧ w.heap.size ≤ rb
  lo : bf < B ∧ ba < B ∧ be < B ∧ br < B ∧ rk < B ∧ rb < B ∧ B ≤ wr.heap.size
  lg : g < B ∧ ∀ i, blk b.a = some i → i < B
  ne : bf ≠ ba ∧ bf ≠ be ∧ bf ≠ br ∧ bf ≠ rk ∧ bf ≠ rb ∧ bf ≠ g ∧ ba ≠ be ∧ ba ≠ rk ∧ ba ≠ rb ∧ be ≠ br ∧ be ≠ rk ∧ be ≠ rb ∧ br ≠ rk ∧ br ≠ rb ∧ (∀ i, blk b.a = some i → i ≠ bf)

section
variable {w wr w1 w2 : World} {B bf ba be br rk rb g : Nat} {b : Sv} {zs : List Int} {pl : Int} {P : Nat} {x y : Sv} {fds : List Fd} {f : Fr} {d c s : Sv} {q : Int}
theorem RaI.drew (h : RaI w wr B bf ba be br rk rb g b zs pl P x fds) : RaI w wr.drew B bf ba be br rk rb g b zs pl P x fds :=
  ⟨h.q.drew, h.rg.q ((Q.refl _).drew), h.vf, h.va, h.ve, h.vr, h.fr.q ((Q.refl _).drew), h.bs, h.lo, h.lg, h.ne⟩
theorem RaI.drewN (h : RaI w wr B bf ba be br rk rb g b zs pl P x fds) (n : Nat) : RaI w (wr.drewN n) B bf ba be br rk rb g b zs pl P x fds :=
  ⟨h.q.drewN n, h.rg.q ((Q.refl _).drewN n), h.vf, h.va, h.ve, h.vr, h.fr.q ((Q.refl _).drewN n), h.bs, h.lo, h.lg, h.ne⟩
/-- After a frame was read. -/
theorem RaI.next (h : RaI w wr B bf ba be br rk rb g b zs pl P x fds) (k : Keep (fun i => i = rb ∨ i = rk) wr w1) {P' : Nat} {pl' : Int} (r : Rg w1 rk rb g b zs pl' P') : RaI w w1 B bf ba be br rk rb g b zs pl' P' x fds := by
  obtain ⟨n1, n2, n3, n4, n5, n6, n7, n8, n9, n10, n11, n12, n13, n14, n15⟩ := h.ne
  refine ⟨k.below h.q h.q.size (fun i e => by rcases e with rfl | rfl; exact h.bs.2.2; exact h.bs.2.1), r, (k.block bf (lt_of_block h.vf) (by omega)).trans h.vf, (k.block ba (lt_of_block h.va) (by omega)).trans h.va, (k.block be (lt_of_block h.ve) (by omega)).trans h.ve, (k.block br (lt_of_block h.vr) (by omega)).trans h.vr, h.fr.keep k (fun i e => by have := h.lo; rcases e with rfl | rfl; exact .inl (by omega); exact .inl (by omega)), h.bs, by have := h.lo; have := k.size; omega, h.lg, h.ne⟩
/-- After it was appended. -/
theorem RaI.push (h : RaI w w1 B bf ba be br rk rb g b zs pl P x fds) (k : Keep (fun i => blk x.a = some i) w1 w2) (hf : Frs B w2 y (fds ++ [(f, d, c, s)])) : RaI w (w2.setCell ⟨bf, 0, none⟩ (.slice y.a y.n y.c)) B bf ba be br rk rb g b zs pl P y (fds ++ [(f, d, c, s)]) := by
  obtain ⟨n1, n2, n3, n4, n5, n6, n7, n8, n9, n10, n11, n12, n13, n14, n15⟩ := h.ne
  have hlo := h.lo
  have hx : ∀ i, blk x.a = some i → B ≤ i := h.fr.new
  have ks : Keep (fun i => i = bf) w2 (w2.setCell ⟨bf, 0, none⟩ (.slice y.a y.n y.c)) := (Keep.refl (fun i => i = bf) w2).setCell _ _ _ (.inl rfl)
  have hne : ∀ i, i < B → ¬ blk x.a = some i := fun i hi e => by have := hx i e; omega
  have vf2 : w2.heap[bf]? = _ := (k.block bf (lt_of_block h.vf) (hne _ hlo.1)).trans h.vf
  have q2 : Q w w2 := k.below h.q h.q.size (fun i e => by have := hx i e; have := h.bs.1; omega)
  have hgb : g ≠ bf := fun e => n6 e.symm
  have rg2 : Rg w2 rk rb g b zs pl P := h.rg.keep k (hne _ hlo.2.2.2.2.1) (hne _ hlo.2.2.2.2.2.1) (hne _ h.lg.1) (fun i e => hne _ (h.lg.2 i e))
  refine ⟨ks.below q2 q2.size (fun i e => by rw [e]; exact h.bs.1), rg2.keep ks (fun e => n4 e.symm) (fun e => n5 e.symm) hgb n15, ?_, (ks.block ba (by have := lt_of_block h.va; have := k.size; omega) (fun e => n1 e.symm)).trans ((k.block ba (lt_of_block h.va) (hne _ hlo.2.1)).trans h.va), (ks.block be (by have := lt_of_block h.ve; have := k.size; omega) (fun e => n2 e.symm)).trans ((k.block be (lt_of_block h.ve) (hne _ hlo.2.2.1)).trans h.ve), (ks.block br (by have := lt_of_block h.vr; have := k.size; omega) (fun e => n3 e.symm)).trans ((k.block br (lt_of_block h.vr) (hne _ hlo.2.2.2.1)).trans h.vr), hf.keep ks (fun i e => .inl (by omega)), h.bs, by have := ks.size; have := k.size; omega, h.lg, h.ne⟩
  have := heap_setCell_same w2 bf 0 _ 24 (.slice y.a y.n y.c) vf2
  simpa using this
end
end Go.Proofs.Ytdoodbaogmdloab
