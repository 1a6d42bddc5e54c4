/-
  A side's cells written: Out.
-/
import Derived.Test.YtekpepnonhbkcaaShH
namespace Go.Proofs.Ytekpepnonhbkcaa
open Go.RowKit
set_option linter.unusedVariables false
set_option maxRecDepth 20000

theorem ShAt.set {w : World} {sb : Nat} {S S' : Sh} (h : ShAt w sb S) (i : Nat) (v : Value) (hc : S'.cells = S.cells.set i v) (ho : S'.own = S.own) (hr : S'.root = S.root) (hi : i < S.cells.length) : ShAt (w.setCell ⟨sb, i, none⟩ v) sb S' := by
  refine ⟨?_, by rw [ho]; exact h.own, by rw [hr]; exact h.root⟩
  rw [hc]
  have := heap_setCell_same w sb i _ 65 v h.row
  simpa using this
theorem Sh.len (S : Sh) (ho : S.own.length = 36) (hr : S.root.length = 16) : S.cells.length = 63 := by
  unfold Sh.cells; simp [ho, hr]
theorem Sh.set_mid (S : Sh) (ho : S.own.length = 36) (i : Nat) (v : Value) : S.cells.set (36 + i) v = S.own ++ (svv S.waits :: svv S.kept :: .bool S.failed :: svv S.said :: (S.root ++ [svv S.handC, svv S.handS, svv S.appC, svv S.appS, .string S.proto, svv S.peer, svv S.out])).set i v := by
  unfold Sh.cells
  rw [List.set_append_right _ _ (by omega), ho, Nat.add_sub_cancel_left]
theorem Sh.set_end (S : Sh) (ho : S.own.length = 36) (hr : S.root.length = 16) (i : Nat) (v : Value) : S.cells.set (56 + i) v = S.own ++ (svv S.waits :: svv S.kept :: .bool S.failed :: svv S.said :: (S.root ++ [svv S.handC, svv S.handS, svv S.appC, svv S.appS, .string S.proto, svv S.peer, svv S.out].set i v)) := by
  rw [show 56 + i = 36 + (16 + i + 1 + 1 + 1 + 1) by omega, S.set_mid ho]
  simp only [List.set_cons_succ]
  rw [List.set_append_right _ _ (by omega), hr, Nat.add_sub_cancel_left]
theorem ShAt.setOut {w : World} {sb : Nat} {S : Sh} (h : ShAt w sb S) (o : Sv) : ShAt (w.setCell ⟨sb, 62, none⟩ (.slice o.a o.n o.c)) sb { S with out := o } :=
  h.set 62 _ (by rw [show 62 = 56 + 6 from rfl, S.set_end h.own h.root]; rfl) rfl rfl (by rw [S.len h.own h.root]; omega)
theorem ShAt.setKept {w : World} {sb : Nat} {S : Sh} (h : ShAt w sb S) (o : Sv) : ShAt (w.setCell ⟨sb, 37, none⟩ (.slice o.a o.n o.c)) sb { S with kept := o } :=
  h.set 37 _ (by rw [show 37 = 36 + 1 from rfl, S.set_mid h.own]; rfl) rfl rfl (by rw [S.len h.own h.root]; omega)
theorem ShAt.setWaits {w : World} {sb : Nat} {S : Sh} (h : ShAt w sb S) (o : Sv) : ShAt (w.setCell ⟨sb, 36, none⟩ (.slice o.a o.n o.c)) sb { S with waits := o } :=
  h.set 36 _ (by rw [show 36 = 36 + 0 from rfl, S.set_mid h.own]; rfl) rfl rfl (by rw [S.len h.own h.root]; omega)
theorem ShAt.setFailed {w : World} {sb : Nat} {S : Sh} (h : ShAt w sb S) (o : Bool) : ShAt (w.setCell ⟨sb, 38, none⟩ (.bool o)) sb { S with failed := o } :=
  h.set 38 _ (by rw [show 38 = 36 + 2 from rfl, S.set_mid h.own]; rfl) rfl rfl (by rw [S.len h.own h.root]; omega)
theorem ShAt.setSaid {w : World} {sb : Nat} {S : Sh} (h : ShAt w sb S) (o : Sv) : ShAt (w.setCell ⟨sb, 39, none⟩ (.slice o.a o.n o.c)) sb { S with said := o } :=
  h.set 39 _ (by rw [show 39 = 36 + 3 from rfl, S.set_mid h.own]; rfl) rfl rfl (by rw [S.len h.own h.root]; omega)

set_option maxHeartbeats 4000000 in
theorem out_any (sb : Nat) (S : Sh) (w : World) (h : ShAt w sb S) : Calls Try.prog 19 #[.pointer (some ⟨sb, 0, none⟩)] w fun e w' => e = .returned (.slice S.out.a S.out.n S.out.c) ∧ ShAt w' sb { S with out := nilS } ∧ Only sb w w' := by
  have c := h.out
  have f := h.free 62
  have H := hid (h.setOut nilS)
  clear h
  go_enter Try.func19, Try.ntmps19
  go_wp2
  go_ret
  exact ⟨rfl, H.out, (Only.refl _ _).setCell _ _⟩
end Go.Proofs.Ytekpepnonhbkcaa
