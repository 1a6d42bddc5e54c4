/-
  What varint's reader's calls do, each at every state: contracts that the statements' walks use.
-/
import Derived.Test.YtdlefmlienfjhaaGet
import Derived.Test.YtdlefmlienfjhaaCopy
import Derived.BigQuiet
import Derived.Deep.QuietTactic
namespace Go.Proofs.Ytdlefmlienfjhaa
open Go.RowKit
set_option maxRecDepth 20000
set_option linter.unusedVariables false

/-- A reader's own cells: the bytes, the place, the fault. -/
def Rdr (w : World) (t rb : Nat) (a : Option Addr) (n c : Nat) (p f : Int) : Prop := w.heap[rb]? = some (.cells #[.slice a n c, .int .i64 p, .int .i64 f] t (0, 0))

theorem Rdr.c0 {w : World} {t rb : Nat} {a : Option Addr} {n c : Nat} {p f : Int} (h : Rdr w t rb a n c p f) : w.cell? ⟨rb, 0, none⟩ = some (.slice a n c) := by rw [cell_of_row w rb 0 _ t (0, 0) h]; rfl
theorem Rdr.c1 {w : World} {t rb : Nat} {a : Option Addr} {n c : Nat} {p f : Int} (h : Rdr w t rb a n c p f) : w.cell? ⟨rb, 1, none⟩ = some (.int .i64 p) := by rw [cell_of_row w rb 1 _ t (0, 0) h]; rfl
theorem Rdr.c2 {w : World} {t rb : Nat} {a : Option Addr} {n c : Nat} {p f : Int} (h : Rdr w t rb a n c p f) : w.cell? ⟨rb, 2, none⟩ = some (.int .i64 f) := by rw [cell_of_row w rb 2 _ t (0, 0) h]; rfl
theorem Rdr.free {w : World} {t rb : Nat} {a : Option Addr} {n c : Nat} {p f : Int} (h : Rdr w t rb a n c p f) (j : Nat) : w.frozen? ⟨rb, j, none⟩ = false := frozen_of_row w rb j _ t h
theorem Rdr.drewN {w : World} {t rb : Nat} {a : Option Addr} {n c : Nat} {p f : Int} (h : Rdr w t rb a n c p f) (k : Nat) : Rdr (w.drewN k) t rb a n c p f := h
theorem Rdr.drew {w : World} {t rb : Nat} {a : Option Addr} {n c : Nat} {p f : Int} (h : Rdr w t rb a n c p f) : Rdr w.drew t rb a n c p f := h
theorem Rdr.at_ {w : World} {t rb : Nat} {a : Option Addr} {n c : Nat} {p f : Int} (h : Rdr w t rb a n c p f) (q : Int) : Rdr (w.setCell ⟨rb, 1, none⟩ (.int .i64 q)) t rb a n c q f := by
  have := heap_setCell_same w rb 1 _ t (.int .i64 q) h
  simpa [Rdr] using this
theorem Rdr.fault_ {w : World} {t rb : Nat} {a : Option Addr} {n c : Nat} {p f : Int} (h : Rdr w t rb a n c p f) (q : Int) : Rdr (w.setCell ⟨rb, 2, none⟩ (.int .i64 q)) t rb a n c p q := by
  have := heap_setCell_same w rb 2 _ t (.int .i64 q) h
  simpa [Rdr] using this
theorem Rdr.lt {w : World} {t rb : Nat} {a : Option Addr} {n c : Nat} {p f : Int} (h : Rdr w t rb a n c p f) : rb < w.heap.size := lt_of_cell h.c0

/-- Of what was there nothing has turned but block rb. -/
def Only (rb : Nat) (w w' : World) : Prop := w.grownBy w' (some rb)
theorem Only.refl (rb : Nat) (w : World) : Only rb w w := World.grownBy.refl _ _
theorem Only.trans {rb : Nat} {a b c : World} (h : Only rb a b) (k : Only rb b c) : Only rb a c :=
  ⟨k.os.trans h.os, k.tape.trans h.tape, k.output.trans h.output, Nat.le_trans h.size k.size, fun i hi hne => (k.block i (Nat.lt_of_lt_of_le hi h.size) hne).trans (h.block i hi hne)⟩
theorem Only.q {rb : Nat} {a b : World} (h : Q a b) : Only rb a b := ⟨Below.os h, Below.tape h, Below.output h, Below.size h, fun i hi _ => Below.block h i hi⟩
theorem Only.drewN {rb : Nat} {a b : World} (h : Only rb a b) (n : Nat) : Only rb a (b.drewN n) := ⟨h.os, h.tape, h.output, h.size, h.block⟩
theorem Only.drew {rb : Nat} {a b : World} (h : Only rb a b) : Only rb a b.drew := ⟨h.os, h.tape, h.output, h.size, h.block⟩
theorem Only.setCell {rb : Nat} {a b : World} (h : Only rb a b) (j : Nat) (v : Value) : Only rb a (b.setCell ⟨rb, j, none⟩ v) :=
  h.trans ⟨rfl, rfl, rfl, by simp [World.setCell], fun i hi hne => heap_setCell_other b ⟨rb, j, none⟩ i v (fun e => hne (by simp [e]))⟩
theorem Only.block {rb : Nat} {a b : World} (h : Only rb a b) {k : Nat} (hk : k < a.heap.size) (hne : k ≠ rb) : b.heap[k]? = a.heap[k]? := World.grownBy.block h k hk (by intro e; cases e; exact hne rfl)
theorem Only.cell {rb : Nat} {a b : World} (h : Only rb a b) {k j : Nat} {v : Value} (hc : a.cell? ⟨k, j, none⟩ = some v) (hne : k ≠ rb) : b.cell? ⟨k, j, none⟩ = some v := by
  rw [World.cell?_of_block (w := a) (h.block (lt_of_cell hc) hne)]; exact hc
/-- A new block's turning is none of what was there. -/
theorem Only.below {rb B : Nat} {w0 a b : World} (h : Only rb a b) (hb : Below B w0 a) (hB : B ≤ rb) (hs : B ≤ a.heap.size) : Below B w0 b :=
  hb.grown h hs (by intro k hk; cases hk; exact hB)

/-- Bytes that do not lie in block rb. -/
def SegOff (rb : Nat) (w : World) (a : Option Addr) (zs : List Int) : Prop := Seg w a zs ∧ (zs ≠ [] → ∀ ad : Addr, a = some ad → ad.block ≠ rb)
theorem SegOff.only {rb : Nat} {w w' : World} {a : Option Addr} {zs : List Int} (h : SegOff rb w a zs) (k : Only rb w w') : SegOff rb w' a zs := by
  refine ⟨fun hne => ?_, h.2⟩
  obtain ⟨b, off, ha, hc⟩ := h.1 hne
  exact ⟨b, off, ha, fun i hi => k.cell (hc i hi) (h.2 hne _ ha)⟩
theorem SegOff.other {rb rc : Nat} {w w' : World} {a : Option Addr} {zs : List Int} (h : SegOff rb w a zs) (k : Only rc w w') (hc : zs ≠ [] → ∀ ad : Addr, a = some ad → ad.block ≠ rc) : SegOff rb w' a zs := by
  refine ⟨fun hne => ?_, h.2⟩
  obtain ⟨b, off, ha, hcc⟩ := h.1 hne
  exact ⟨b, off, ha, fun i hi => k.cell (hcc i hi) (hc hne _ ha)⟩
theorem SegOff.q {rb : Nat} {w w' : World} {a : Option Addr} {zs : List Int} (h : SegOff rb w a zs) (k : Q w w') : SegOff rb w' a zs := ⟨h.1.q k, h.2⟩
theorem Rdr.only {w w' : World} {t rb rc : Nat} {a : Option Addr} {n c : Nat} {p f : Int} (h : Rdr w t rb a n c p f) (k : Only rc w w') (hne : rb ≠ rc) : Rdr w' t rb a n c p f := by
  show w'.heap[rb]? = _
  rw [k.block h.lt hne]; exact h
theorem Rdr.q {w w' : World} {t rb : Nat} {a : Option Addr} {n c : Nat} {p f : Int} (h : Rdr w t rb a n c p f) (k : Q w w') : Rdr w' t rb a n c p f := by
  show w'.heap[rb]? = _
  rw [Below.block k rb h.lt]; exact h

/-- What a reader's Number tells, its place and its fault behind it. -/
def numR (zs : List Int) (p f : Int) : Int × Int × Int :=
  if f = 0 then (if (rd zs p).2.2 = 0 then ((rd zs p).1, (rd zs p).2.1, 0) else (0, p, (rd zs p).2.2)) else (0, p, f)

theorem get_drawn {a : Option Addr} {n c : Nat} {zs : List Int} {p m q e : Int} {w : World} (k : Nat) (hl : zs.length = n) (hn : n ≤ 9223372036854775807) (hz : ∀ y ∈ zs, 0 ≤ y ∧ y < 256) (hs : Seg w a zs) (hrd : rd zs p = (m, q, e)) :
    Calls Try.prog 50 #[.slice a n c, .int .i64 p] (w.drewN k) fun e' w' => e' = .returned (.tuple #[.int .i64 m, .int .i64 q, .int .i64 e]) ∧ w' = w.drewN k := by
  refine (get_any a n c zs p (w.drewN k) hl hn hz (hs.q ((Q.refl _).drewN _))).mono ?_
  rw [hrd]
  rintro e' w' ⟨rfl, rfl⟩
  exact ⟨rfl, rfl⟩

set_option maxHeartbeats 1000000 in
theorem number_f (rb : Nat) (a : Option Addr) (n c : Nat) (p f : Int) (w : World) (hf : f ≠ 0) (hr : Rdr w 102 rb a n c p f) :
    Calls Try.prog 54 #[.pointer (some ⟨rb, 0, none⟩)] w fun e w' => e = .returned (.int .i64 0) ∧ w = w' := by
  have c2 := hr.c2
  have hb : (f != 0) = true := by simp [hf]
  clear hr
  go_enter Try.func54, Try.ntmps54
  go_wp2
  go_ret
  exact ⟨rfl, rfl⟩

set_option maxHeartbeats 1000000 in
theorem number_e (rb : Nat) (a : Option Addr) (n c : Nat) (zs : List Int) (p m q e : Int) (w : World) (hl : zs.length = n) (hn : n ≤ 140737488355328) (hz : ∀ y ∈ zs, 0 ≤ y ∧ y < 256) (hs : SegOff rb w a zs) (hr : Rdr w 102 rb a n c p 0)
    (hrd : rd zs p = (m, q, e)) (he : e ≠ 0) :
    Calls Try.prog 54 #[.pointer (some ⟨rb, 0, none⟩)] w fun e' w' => e' = .returned (.int .i64 0) ∧ Only rb w w' ∧ Rdr w' 102 rb a n c p e := by
  have c0 := hr.c0
  have c1 := hr.c1
  have c2 := hr.c2
  have f2 := hr.free 2
  have hb : (e != 0) = true := by simp [he]
  have HL := hid hl
  have HZ := hid hz
  have HS := hid hs
  have HR := hid hr
  have HG := hid (fun k => get_drawn (c := c) k hl (by omega) hz hs.1 hrd)
  clear hl hz hs hr hrd
  go_enter Try.func54, Try.ntmps54
  go_wp2
  go_quiet ((go_at_call 50; exact Calls.quiet_of_same (HG.out _)))
  go_wp2
  go_ret
  exact ⟨rfl, ((Only.refl _ _).setCell _ _).drewN _, (HR.out.fault_ _).drewN _⟩

set_option maxHeartbeats 1000000 in
theorem number_k (rb : Nat) (a : Option Addr) (n c : Nat) (zs : List Int) (p m q : Int) (w : World) (hl : zs.length = n) (hn : n ≤ 140737488355328) (hz : ∀ y ∈ zs, 0 ≤ y ∧ y < 256) (hs : SegOff rb w a zs) (hr : Rdr w 102 rb a n c p 0)
    (hrd : rd zs p = (m, q, 0)) :
    Calls Try.prog 54 #[.pointer (some ⟨rb, 0, none⟩)] w fun e' w' => e' = .returned (.int .i64 m) ∧ Only rb w w' ∧ Rdr w' 102 rb a n c q 0 := by
  have c0 := hr.c0
  have c1 := hr.c1
  have c2 := hr.c2
  have f1 := hr.free 1
  have HL := hid hl
  have HZ := hid hz
  have HS := hid hs
  have HR := hid hr
  have HG := hid (fun k => get_drawn (c := c) k hl (by omega) hz hs.1 hrd)
  clear hl hz hs hr hrd
  go_enter Try.func54, Try.ntmps54
  go_wp2
  go_quiet ((go_at_call 50; exact Calls.quiet_of_same (HG.out _)))
  go_wp2
  go_ret
  exact ⟨rfl, ((Only.refl _ _).setCell _ _).drewN _, (HR.out.at_ _).drewN _⟩

theorem number_any (rb : Nat) (a : Option Addr) (n c : Nat) (zs : List Int) (p f : Int) (w : World) (hl : zs.length = n) (hn : n ≤ 140737488355328) (hz : ∀ y ∈ zs, 0 ≤ y ∧ y < 256) (hs : SegOff rb w a zs) (hr : Rdr w 102 rb a n c p f) :
    Calls Try.prog 54 #[.pointer (some ⟨rb, 0, none⟩)] w fun e w' => e = .returned (.int .i64 (numR zs p f).1) ∧ Only rb w w' ∧ Rdr w' 102 rb a n c (numR zs p f).2.1 (numR zs p f).2.2 := by
  unfold numR
  by_cases hf : f = 0
  · subst hf
    obtain ⟨x, hx⟩ : ∃ x, rd zs p = x := ⟨_, rfl⟩
    obtain ⟨m, q, e⟩ := x
    by_cases he : e = 0
    · subst he
      simp only [hx, if_true]
      exact number_k rb a n c zs p m q w hl hn hz hs hr hx
    · simp only [hx, if_neg he, if_true]
      exact number_e rb a n c zs p m q e w hl hn hz hs hr hx he
  · simp only [if_neg hf]
    exact (number_f rb a n c p f w hf hr).mono (by rintro e w' ⟨rfl, rfl⟩; exact ⟨rfl, Only.refl _ _, hr⟩)

set_option maxHeartbeats 1000000 in
theorem left_any (rb : Nat) (a : Option Addr) (n c : Nat) (p f : Int) (w : World) (hn : n ≤ 140737488355328) (hp : 0 ≤ p) (hpn : p ≤ n) (hr : Rdr w 102 rb a n c p f) :
    Calls Try.prog 53 #[.pointer (some ⟨rb, 0, none⟩)] w fun e w' => e = .returned (.int .i64 (if f = 0 then (n : Int) - p else 0)) ∧ ∃ k, w' = w.drewN k := by
  have c0 := hr.c0
  have c1 := hr.c1
  have c2 := hr.c2
  clear hr
  by_cases hf : f = 0
  · subst hf
    go_enter Try.func53, Try.ntmps53
    go_wp2
    go_quiet (fail)
    go_wp2
    go_ret
    exact ⟨rfl, _, rfl⟩
  · have hb : (f != 0) = true := by simp [hf]
    rw [if_neg hf]
    clear hf
    go_enter Try.func53, Try.ntmps53
    go_wp2
    go_ret
    exact ⟨rfl, 0, rfl⟩

set_option maxHeartbeats 400000 in
theorem fault_any (rb : Nat) (a : Option Addr) (n c : Nat) (p f : Int) (w : World) (hr : Rdr w 102 rb a n c p f) :
    Calls Try.prog 56 #[.pointer (some ⟨rb, 0, none⟩)] w fun e w' => e = .returned (.int .i64 f) ∧ w = w' := by
  have c := hr.c2
  clear hr
  go_enter Try.func56, Try.ntmps56
  go_wp2
  go_ret
  exact ⟨rfl, rfl⟩

set_option maxHeartbeats 400000 in
theorem open_any (a : Option Addr) (n c : Nat) (zs : List Int) (w : World) (hl : zs.length = n) (hn : n ≤ 140737488355328) (hseg : Seg w a zs) :
    Calls Try.prog 52 #[.slice a n c] w fun e w' => ∃ g rb, e = .returned (.pointer (some ⟨rb, 0, none⟩)) ∧ Q w w' ∧ w.heap.size ≤ rb ∧ w.heap.size ≤ g ∧ g ≠ rb ∧ Rdr w' 102 rb (some ⟨g, 0, none⟩) n n 0 0 ∧ Own w' w.heap.size (some ⟨g, 0, none⟩) n n zs := by
  have HL := hid hl
  have HS := hid hseg
  clear hl hseg
  go_enter Try.func52, Try.ntmps52
  go_wp2_with fail
  refine (copy_any a n c zs _ HL.out (by omega) HS.out).mono ?_
  rintro e w1 ⟨g, rfl, hq1, ho1, hg1⟩
  have hlt : g < w1.heap.size := by
    have := ho1.lt g rfl
    exact this.2
  have H1 := hid hq1
  have O1 := hid ho1
  clear hq1 ho1
  go_wp2
  go_ret
  refine ⟨g, w1.heap.size, rfl, H1.out.alloc _, H1.out.size, hg1, by omega, heap_alloc_new w1 _, O1.out.q ((Q.refl _).alloc _)⟩

end Go.Proofs.Ytdlefmlienfjhaa
