/-
  A side in memory: its block, and the methods that only read it.
-/
import Derived.Test.YtekpepnonhbkcaaShX
namespace Go.Proofs.Ytekpepnonhbkcaa
open Go.RowKit
set_option linter.unusedVariables false
set_option maxRecDepth 20000

def svv (s : Sv) : Value := .slice s.a s.n s.c
/-- A side: its Config's 36 cells, what it waits for, what is kept, whether it failed, what was said, the root's 16 cells, the secrets, the proto, the peer's params, what is to be said. -/
structure Sh where
  own : List Value
  waits : Sv
  kept : Sv
  failed : Bool
  said : Sv
  root : List Value
  handC : Sv
  handS : Sv
  appC : Sv
  appS : Sv
  proto : ByteArray
  peer : Sv
  out : Sv
def Sh.cells (S : Sh) : List Value := S.own ++ (svv S.waits :: svv S.kept :: .bool S.failed :: svv S.said :: (S.root ++ [svv S.handC, svv S.handS, svv S.appC, svv S.appS, .string S.proto, svv S.peer, svv S.out]))
/-- The side lies in this block. -/
structure ShAt (w : World) (sb : Nat) (S : Sh) : Prop where
  row : w.heap[sb]? = some (.cells S.cells.toArray 65 (0, 0))
  own : S.own.length = 36
  root : S.root.length = 16
theorem Sh.mid (S : Sh) (ho : S.own.length = 36) (i : Nat) : S.cells[36 + i]? = (svv S.waits :: svv S.kept :: .bool S.failed :: svv S.said :: (S.root ++ [svv S.handC, svv S.handS, svv S.appC, svv S.appS, .string S.proto, svv S.peer, svv S.out]))[i]? := by
  unfold Sh.cells
  rw [List.getElem?_append_right (by omega), ho, Nat.add_sub_cancel_left]
theorem Sh.end_ (S : Sh) (ho : S.own.length = 36) (hr : S.root.length = 16) (i : Nat) : S.cells[56 + i]? = [svv S.handC, svv S.handS, svv S.appC, svv S.appS, .string S.proto, svv S.peer, svv S.out][i]? := by
  rw [show 56 + i = 36 + (16 + i + 1 + 1 + 1 + 1) by omega, S.mid ho]
  simp only [List.getElem?_cons_succ]
  rw [List.getElem?_append_right (by omega), hr, Nat.add_sub_cancel_left]
theorem ShAt.cell {w : World} {sb : Nat} {S : Sh} (h : ShAt w sb S) (i : Nat) : w.cell? ⟨sb, i, none⟩ = S.cells[i]? := by
  rw [cell_of_row w sb i _ 65 (0, 0) h.row]; simp
theorem ShAt.waits {w : World} {sb : Nat} {S : Sh} (h : ShAt w sb S) : w.cell? ⟨sb, 36, none⟩ = some (.slice S.waits.a S.waits.n S.waits.c) := by rw [h.cell, show 36 = 36 + 0 from rfl, S.mid h.own]; rfl
theorem ShAt.kept {w : World} {sb : Nat} {S : Sh} (h : ShAt w sb S) : w.cell? ⟨sb, 37, none⟩ = some (.slice S.kept.a S.kept.n S.kept.c) := by rw [h.cell, show 37 = 36 + 1 from rfl, S.mid h.own]; rfl
theorem ShAt.failed {w : World} {sb : Nat} {S : Sh} (h : ShAt w sb S) : w.cell? ⟨sb, 38, none⟩ = some (.bool S.failed) := by rw [h.cell, show 38 = 36 + 2 from rfl, S.mid h.own]; rfl
theorem ShAt.said {w : World} {sb : Nat} {S : Sh} (h : ShAt w sb S) : w.cell? ⟨sb, 39, none⟩ = some (.slice S.said.a S.said.n S.said.c) := by rw [h.cell, show 39 = 36 + 3 from rfl, S.mid h.own]; rfl
theorem ShAt.proto {w : World} {sb : Nat} {S : Sh} (h : ShAt w sb S) : w.cell? ⟨sb, 60, none⟩ = some (.string S.proto) := by rw [h.cell, show 60 = 56 + 4 from rfl, S.end_ h.own h.root]; rfl
theorem ShAt.peer {w : World} {sb : Nat} {S : Sh} (h : ShAt w sb S) : w.cell? ⟨sb, 61, none⟩ = some (.slice S.peer.a S.peer.n S.peer.c) := by rw [h.cell, show 61 = 56 + 5 from rfl, S.end_ h.own h.root]; rfl
theorem ShAt.out {w : World} {sb : Nat} {S : Sh} (h : ShAt w sb S) : w.cell? ⟨sb, 62, none⟩ = some (.slice S.out.a S.out.n S.out.c) := by rw [h.cell, show 62 = 56 + 6 from rfl, S.end_ h.own h.root]; rfl
theorem ShAt.free {w : World} {sb : Nat} {S : Sh} (h : ShAt w sb S) (j : Nat) : w.frozen? ⟨sb, j, none⟩ = false := frozen_of_row w sb j _ 65 h.row
theorem ShAt.lt {w : World} {sb : Nat} {S : Sh} (h : ShAt w sb S) : sb < w.heap.size := lt_of_cell h.waits

set_option maxHeartbeats 4000000 in
theorem done_any (sb : Nat) (S : Sh) (w : World) (h : ShAt w sb S) : Calls Try.prog 11 #[.pointer (some ⟨sb, 0, none⟩)] w fun e w' => e = .returned (.bool (decide (S.waits.n = 0))) ∧ w = w' := by
  have c := h.waits
  clear h
  generalize S.waits = wv at *
  obtain ⟨a, n, cc⟩ := wv
  dsimp only at c ⊢
  have e : ((n : Int) == 0) = decide (n = 0) := by rw [Bool.eq_iff_iff]; simp
  go_enter Try.func11, Try.ntmps11
  go_wp2
  go_ret
  exact ⟨by rw [← e]; rfl, rfl⟩
set_option maxHeartbeats 4000000 in
theorem proto_any (sb : Nat) (S : Sh) (w : World) (h : ShAt w sb S) : Calls Try.prog 12 #[.pointer (some ⟨sb, 0, none⟩)] w fun e w' => e = .returned (.string S.proto) ∧ w = w' := by
  have c := h.proto
  clear h
  go_enter Try.func12, Try.ntmps12
  go_wp2
  go_ret
  exact ⟨rfl, rfl⟩
end Go.Proofs.Ytekpepnonhbkcaa
