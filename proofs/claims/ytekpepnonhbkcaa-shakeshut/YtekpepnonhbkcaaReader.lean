/-
  What varint's reader's calls do, each at every state: contracts that the statements' walks use.
-/
import Derived.Test.YtekpepnonhbkcaaMem
import Derived.Test.YtekpepnonhbkcaaCopy
import Derived.BigQuiet
import Derived.Deep.QuietTactic
namespace Go.Proofs.Ytekpepnonhbkcaa
open Go.RowKit
set_option maxRecDepth 20000
set_option linter.unusedVariables false

theorem copy_any (a : Option Addr) (n c : Nat) (zs : List Int) (w : World) (hl : zs.length = n) (hn : n ≤ 140737488355328) (hseg : Seg w a zs) :
    Calls Try.prog 74 #[.slice a n c] w fun e w' => ∃ g, e = .returned (.slice (some ⟨g, 0, none⟩) n n) ∧ Q w w' ∧ Own w' w.heap.size (some ⟨g, 0, none⟩) n n zs ∧ w.heap.size ≤ g := by
  obtain ⟨i0, hi, hz0, hz1, hz2⟩ := info_parts info5
  have HL := hid hl
  have HSG := hid hseg
  clear hl hseg
  go_enter Try.func74, Try.ntmps74
  go_wp2_with (at_make; refine wpList_make_full _ rfl _ _ 24 rfl w.heap.size 5 i0 (.int .u8 0) 1 Try.underlying24 hi hz0 hz1 .i64 .i64 _ _ n rfl rfl rfl rfl (by rw [hz2]; omega) (by unfold maxLen; omega) (Nat.le_refl _) ?_; intro w1 hown hgr)
  have hq : Q w w1 := (Q.refl w).grown hgr
  rw [made_zero] at hown
  obtain ⟨w2, hrun, hq2, ho2, _⟩ := copy_run (c := c) HSG.out HL.out (by unfold maxLen; omega) hq (show Own w1 w.heap.size (some ⟨w.heap.size, 0, none⟩) n n (List.replicate n 0) from hown) (Nat.le_refl _) hi hz1
  have H2 := hid hq2
  have O2 := hid ho2
  clear hown hgr hq hq2 ho2
  rw [hrun]
  clear hrun
  go_wp2
  go_ret
  exact ⟨w.heap.size, rfl, H2.out, O2.out, Nat.le_refl _⟩

/-- A reader's own cells: the bytes, the place, the fault. -/
def Rdr (w : World) (t rb : Nat) (a : Option Addr) (n c : Nat) (p f : Int) : Prop := w.heap[rb]? = some (.cells #[.slice a n c, .int .i64 p, .int .i64 f] t (0, 0))

theorem Rdr.c0 {w : World} {t rb : Nat} {a : Option Addr} {n c : Nat} {p f : Int} (h : Rdr w t rb a n c p f) : w.cell? ⟨rb, 0, none⟩ = some (.slice a n c) := by rw [cell_of_row w rb 0 _ t (0, 0) h]; rfl
theorem Rdr.c1 {w : World} {t rb : Nat} {a : Option Addr} {n c : Nat} {p f : Int} (h : Rdr w t rb a n c p f) : w.cell? ⟨rb, 1, none⟩ = some (.int .i64 p) := by rw [cell_of_row w rb 1 _ t (0, 0) h]; rfl
theorem Rdr.c2 {w : World} {t rb : Nat} {a : Option Addr} {n c : Nat} {p f : Int} (h : Rdr w t rb a n c p f) : w.cell? ⟨rb, 2, none⟩ = some (.int .i64 f) := by rw [cell_of_row w rb 2 _ t (0, 0) h]; rfl
theorem Rdr.free {w : World} {t rb : Nat} {a : Option Addr} {n c : Nat} {p f : Int} (h : Rdr w t rb a n c p f) (j : Nat) : w.frozen? ⟨rb, j, none⟩ = false := frozen_of_row w rb j _ t h
theorem Rdr.drewN {w : World} {t rb : Nat} {a : Option Addr} {n c : Nat} {p f : Int} (h : Rdr w t rb a n c p f) (k : Nat) : Rdr (w.drewN k) t rb a n c p f := h
theorem Rdr.drew {w : World} {t rb : Nat} {a : Option Addr} {n c : Nat} {p f : Int} (h : Rdr w t rb a n c p f) : Rdr w.drew t rb a n c p f := h
theorem Rdr.at_ {w : World} {t rb : Nat} {a : Option Addr} {n c : Nat} {p f : Int} (h : Rdr w t rb a n c p f) (q : Int) : Rdr (w.setCell ⟨rb, 1, none⟩ (.int .i64 q)) t rb a n c q f := by
  have := heap_setCell_same w rb 1 _ t (.int .i64 q) h
  simpa [Rdr] using this
theorem Rdr.fault_ {w : World} {t rb : Nat} {a : Option Addr} {n c : Nat} {p f : Int} (h : Rdr w t rb a n c p f) (q : Int) : Rdr (w.setCell ⟨rb, 2, none⟩ (.int .i64 q)) t rb a n c p q := by
  have := heap_setCell_same w rb 2 _ t (.int .i64 q) h
  simpa [Rdr] using this
theorem Rdr.lt {w : World} {t rb : Nat} {a : Option Addr} {n c : Nat} {p f : Int} (h : Rdr w t rb a n c p f) : rb < w.heap.size := lt_of_cell h.c0

/-- Of what was there nothing has turned but block rb. -/
def Only (rb : Nat) (w w' : World) : Prop := w.grownBy w' (some rb)
theorem Only.refl (rb : Nat) (w : World) : Only rb w w := World.grownBy.refl _ _
theorem Only.trans {rb : Nat} {a b c : World} (h : Only rb a b) (k : Only rb b c) : Only rb a c :=
  ⟨k.os.trans h.os, k.tape.trans h.tape, k.output.trans h.output, Nat.le_trans h.size k.size, fun i hi hne => (k.block i (Nat.lt_of_lt_of_le hi h.size) hne).trans (h.block i hi hne)⟩
theorem Only.q {rb : Nat} {a b : World} (h : Q a b) : Only rb a b := ⟨Below.os h, Below.tape h, Below.output h, Below.size h, fun i hi _ => Below.block h i hi⟩
theorem Only.drewN {rb : Nat} {a b : World} (h : Only rb a b) (n : Nat) : Only rb a (b.drewN n) := ⟨h.os, h.tape, h.output, h.size, h.block⟩
theorem Only.drew {rb : Nat} {a b : World} (h : Only rb a b) : Only rb a b.drew := ⟨h.os, h.tape, h.output, h.size, h.block⟩
theorem Only.setCell {rb : Nat} {a b : World} (h : Only rb a b) (j : Nat) (v : Value) : Only rb a (b.setCell ⟨rb, j, none⟩ v) :=
  h.trans ⟨rfl, rfl, rfl, by simp [World.setCell], fun i hi hne => heap_setCell_other b ⟨rb, j, none⟩ i v (fun e => hne (by simp [e]))⟩
theorem Only.block {rb : Nat} {a b : World} (h : Only rb a b) {k : Nat} (hk : k < a.heap.size) (hne : k ≠ rb) : b.heap[k]? = a.heap[k]? := World.grownBy.block h k hk (by intro e; cases e; exact hne rfl)
theorem Only.cell {rb : Nat} {a b : World} (h : Only rb a b) {k j : Nat} {v : Value} (hc : a.cell? ⟨k, j, none⟩ = some v) (hne : k ≠ rb) : b.cell? ⟨k, j, none⟩ = some v := by
  rw [World.cell?_of_block (w := a) (h.block (lt_of_cell hc) hne)]; exact hc
/-- A new block's turning is none of what was there. -/
theorem Only.below {rb B : Nat} {w0 a b : World} (h : Only rb a b) (hb : Below B w0 a) (hB : B ≤ rb) (hs : B ≤ a.heap.size) : Below B w0 b :=
  hb.grown h hs (by intro k hk; cases hk; exact hB)

/-- Bytes that do not lie in block rb. -/
def SegOff (rb : Nat) (w : World) (a : Option Addr) (zs : List Int) : Prop := Seg w a zs ∧ (zs ≠ [] → ∀ ad : Addr, a = some ad → ad.block ≠ rb)
theorem SegOff.only {rb : Nat} {w w' : World} {a : Option Addr} {zs : List Int} (h : SegOff rb w a zs) (k : Only rb w w') : SegOff rb w' a zs := by
  refine ⟨fun hne => ?_, h.2⟩
  obtain ⟨b, off, ha, hc⟩ := h.1 hne
  exact ⟨b, off, ha, fun i hi => k.cell (hc i hi) (h.2 hne _ ha)⟩
theorem SegOff.other {rb rc : Nat} {w w' : World} {a : Option Addr} {zs : List Int} (h : SegOff rb w a zs) (k : Only rc w w') (hc : zs ≠ [] → ∀ ad : Addr, a = some ad → ad.block ≠ rc) : SegOff rb w' a zs := by
  refine ⟨fun hne => ?_, h.2⟩
  obtain ⟨b, off, ha, hcc⟩ := h.1 hne
  exact ⟨b, off, ha, fun i hi => k.cell (hcc i hi) (hc hne _ ha)⟩
theorem SegOff.q {rb : Nat} {w w' : World} {a : Option Addr} {zs : List Int} (h : SegOff rb w a zs) (k : Q w w') : SegOff rb w' a zs := ⟨h.1.q k, h.2⟩
theorem Rdr.only {w w' : World} {t rb rc : Nat} {a : Option Addr} {n c : Nat} {p f : Int} (h : Rdr w t rb a n c p f) (k : Only rc w w') (hne : rb ≠ rc) : Rdr w' t rb a n c p f := by
  show w'.heap[rb]? = _
  rw [k.block h.lt hne]; exact h
theorem Rdr.q {w w' : World} {t rb : Nat} {a : Option Addr} {n c : Nat} {p f : Int} (h : Rdr w t rb a n c p f) (k : Q w w') : Rdr w' t rb a n c p f := by
  show w'.heap[rb]? = _
  rw [Below.block k rb h.lt]; exact h

set_option maxHeartbeats 1000000 in
set_option maxHeartbeats 1000000 in
set_option maxHeartbeats 1000000 in
set_option maxHeartbeats 1000000 in
theorem left_any (rb : Nat) (a : Option Addr) (n c : Nat) (p f : Int) (w : World) (hn : n ≤ 140737488355328) (hp : 0 ≤ p) (hpn : p ≤ n) (hr : Rdr w 107 rb a n c p f) :
    Calls Try.prog 79 #[.pointer (some ⟨rb, 0, none⟩)] w fun e w' => e = .returned (.int .i64 (if f = 0 then (n : Int) - p else 0)) ∧ ∃ k, w' = w.drewN k := by
  have c0 := hr.c0
  have c1 := hr.c1
  have c2 := hr.c2
  clear hr
  by_cases hf : f = 0
  · subst hf
    go_enter Try.func79, Try.ntmps79
    go_wp2
    go_quiet (fail)
    go_wp2
    go_ret
    exact ⟨rfl, _, rfl⟩
  · have hb : (f != 0) = true := by simp [hf]
    rw [if_neg hf]
    clear hf
    go_enter Try.func79, Try.ntmps79
    go_wp2
    go_ret
    exact ⟨rfl, 0, rfl⟩

set_option maxHeartbeats 400000 in
set_option maxHeartbeats 400000 in
theorem fault_any (rb : Nat) (a : Option Addr) (n c : Nat) (p f : Int) (w : World) (hr : Rdr w 107 rb a n c p f) :
    Calls Try.prog 78 #[.pointer (some ⟨rb, 0, none⟩)] w fun e w' => e = .returned (.int .i64 f) ∧ w = w' := by
  have c := hr.c2
  clear hr
  go_enter Try.func78, Try.ntmps78
  go_wp2
  go_ret
  exact ⟨rfl, rfl⟩

set_option maxHeartbeats 400000 in
theorem open_any (a : Option Addr) (n c : Nat) (zs : List Int) (w : World) (hl : zs.length = n) (hn : n ≤ 140737488355328) (hseg : Seg w a zs) :
    Calls Try.prog 60 #[.slice a n c] w fun e w' => ∃ g rb, e = .returned (.pointer (some ⟨rb, 0, none⟩)) ∧ Q w w' ∧ w.heap.size ≤ rb ∧ w.heap.size ≤ g ∧ g ≠ rb ∧ Rdr w' 107 rb (some ⟨g, 0, none⟩) n n 0 0 ∧ Own w' w.heap.size (some ⟨g, 0, none⟩) n n zs := by
  have HL := hid hl
  have HS := hid hseg
  clear hl hseg
  go_enter Try.func60, Try.ntmps60
  go_wp2_with fail
  refine (copy_any a n c zs _ HL.out (by omega) HS.out).mono ?_
  rintro e w1 ⟨g, rfl, hq1, ho1, hg1⟩
  have hlt : g < w1.heap.size := by
    have := ho1.lt g rfl
    exact this.2
  have H1 := hid hq1
  have O1 := hid ho1
  clear hq1 ho1
  go_wp2
  go_ret
  refine ⟨g, w1.heap.size, rfl, H1.out.alloc _, H1.out.size, hg1, by omega, heap_alloc_new w1 _, O1.out.q ((Q.refl _).alloc _)⟩

end Go.Proofs.Ytekpepnonhbkcaa
