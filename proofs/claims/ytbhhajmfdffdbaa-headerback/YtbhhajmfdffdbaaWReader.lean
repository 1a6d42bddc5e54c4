/-
  What varint's reader's calls do, each at every state: contracts that the statements' walks use.
-/
import Derived.Test.YtbhhajmfdffdbaaReader
import Derived.Test.YtbhhajmfdffdbaaWCopy
import Derived.Test.YtbhhajmfdffdbaaGet
import Derived.Test.YtbhhajmfdffdbaaCopy
import Derived.BigQuiet
import Derived.Deep.QuietTactic
namespace Go.Proofs.Ytbhhajmfdffdbaa.Wide
open Go.RowKit
set_option maxRecDepth 20000
set_option linter.unusedVariables false






theorem get_drawn {a : Option Addr} {n c : Nat} {zs : List Int} {p m q e : Int} {w : World} (k : Nat) (hl : zs.length = n) (hn : n ≤ 9223372036854775807) (hz : ∀ y ∈ zs, 0 ≤ y ∧ y < 256) (hs : Seg w a zs) (hrd : rd zs p = (m, q, e)) :
    Calls Try.prog 72 #[.slice a n c, .int .i64 p] (w.drewN k) fun e' w' => e' = .returned (.tuple #[.int .i64 m, .int .i64 q, .int .i64 e]) ∧ w' = w.drewN k := by
  refine (get_any a n c zs p (w.drewN k) hl hn hz (hs.q ((Q.refl _).drewN _))).mono ?_
  rw [hrd]
  rintro e' w' ⟨rfl, rfl⟩
  exact ⟨rfl, rfl⟩

set_option maxHeartbeats 1000000 in
theorem number_f (rb : Nat) (a : Option Addr) (n c : Nat) (p f : Int) (w : World) (hf : f ≠ 0) (hr : Rdr w 87 rb a n c p f) :
    Calls Try.prog 71 #[.pointer (some ⟨rb, 0, none⟩)] w fun e w' => e = .returned (.int .i64 0) ∧ w = w' := by
  have c2 := hr.c2
  have hb : (f != 0) = true := by simp [hf]
  clear hr
  go_enter Try.func71, Try.ntmps71
  go_wp2
  go_ret
  exact ⟨rfl, rfl⟩

set_option maxHeartbeats 1000000 in
theorem number_e (rb : Nat) (a : Option Addr) (n c : Nat) (zs : List Int) (p m q e : Int) (w : World) (hl : zs.length = n) (hn : n ≤ 140737488375808) (hz : ∀ y ∈ zs, 0 ≤ y ∧ y < 256) (hs : SegOff rb w a zs) (hr : Rdr w 87 rb a n c p 0)
    (hrd : rd zs p = (m, q, e)) (he : e ≠ 0) :
    Calls Try.prog 71 #[.pointer (some ⟨rb, 0, none⟩)] w fun e' w' => e' = .returned (.int .i64 0) ∧ Only rb w w' ∧ Rdr w' 87 rb a n c p e := by
  have c0 := hr.c0
  have c1 := hr.c1
  have c2 := hr.c2
  have f2 := hr.free 2
  have hb : (e != 0) = true := by simp [he]
  have HL := hid hl
  have HZ := hid hz
  have HS := hid hs
  have HR := hid hr
  have HG := hid (fun k => get_drawn (c := c) k hl (by omega) hz hs.1 hrd)
  clear hl hz hs hr hrd
  go_enter Try.func71, Try.ntmps71
  go_wp2
  go_quiet ((go_at_call 72; exact Calls.quiet_of_same (HG.out _)))
  go_wp2
  go_ret
  exact ⟨rfl, ((Only.refl _ _).setCell _ _).drewN _, (HR.out.fault_ _).drewN _⟩

set_option maxHeartbeats 1000000 in
theorem number_k (rb : Nat) (a : Option Addr) (n c : Nat) (zs : List Int) (p m q : Int) (w : World) (hl : zs.length = n) (hn : n ≤ 140737488375808) (hz : ∀ y ∈ zs, 0 ≤ y ∧ y < 256) (hs : SegOff rb w a zs) (hr : Rdr w 87 rb a n c p 0)
    (hrd : rd zs p = (m, q, 0)) :
    Calls Try.prog 71 #[.pointer (some ⟨rb, 0, none⟩)] w fun e' w' => e' = .returned (.int .i64 m) ∧ Only rb w w' ∧ Rdr w' 87 rb a n c q 0 := by
  have c0 := hr.c0
  have c1 := hr.c1
  have c2 := hr.c2
  have f1 := hr.free 1
  have HL := hid hl
  have HZ := hid hz
  have HS := hid hs
  have HR := hid hr
  have HG := hid (fun k => get_drawn (c := c) k hl (by omega) hz hs.1 hrd)
  clear hl hz hs hr hrd
  go_enter Try.func71, Try.ntmps71
  go_wp2
  go_quiet ((go_at_call 72; exact Calls.quiet_of_same (HG.out _)))
  go_wp2
  go_ret
  exact ⟨rfl, ((Only.refl _ _).setCell _ _).drewN _, (HR.out.at_ _).drewN _⟩

theorem number_any (rb : Nat) (a : Option Addr) (n c : Nat) (zs : List Int) (p f : Int) (w : World) (hl : zs.length = n) (hn : n ≤ 140737488375808) (hz : ∀ y ∈ zs, 0 ≤ y ∧ y < 256) (hs : SegOff rb w a zs) (hr : Rdr w 87 rb a n c p f) :
    Calls Try.prog 71 #[.pointer (some ⟨rb, 0, none⟩)] w fun e w' => e = .returned (.int .i64 (numR zs p f).1) ∧ Only rb w w' ∧ Rdr w' 87 rb a n c (numR zs p f).2.1 (numR zs p f).2.2 := by
  unfold numR
  by_cases hf : f = 0
  · subst hf
    obtain ⟨x, hx⟩ : ∃ x, rd zs p = x := ⟨_, rfl⟩
    obtain ⟨m, q, e⟩ := x
    by_cases he : e = 0
    · subst he
      simp only [hx, if_true]
      exact number_k rb a n c zs p m q w hl hn hz hs hr hx
    · simp only [hx, if_neg he, if_true]
      exact number_e rb a n c zs p m q e w hl hn hz hs hr hx he
  · simp only [if_neg hf]
    exact (number_f rb a n c p f w hf hr).mono (by rintro e w' ⟨rfl, rfl⟩; exact ⟨rfl, Only.refl _ _, hr⟩)

set_option maxHeartbeats 1000000 in
theorem left_any (rb : Nat) (a : Option Addr) (n c : Nat) (p f : Int) (w : World) (hn : n ≤ 140737488375808) (hp : 0 ≤ p) (hpn : p ≤ n) (hr : Rdr w 87 rb a n c p f) :
    Calls Try.prog 41 #[.pointer (some ⟨rb, 0, none⟩)] w fun e w' => e = .returned (.int .i64 (if f = 0 then (n : Int) - p else 0)) ∧ ∃ k, w' = w.drewN k := by
  have c0 := hr.c0
  have c1 := hr.c1
  have c2 := hr.c2
  clear hr
  by_cases hf : f = 0
  · subst hf
    go_enter Try.func41, Try.ntmps41
    go_wp2
    go_quiet (fail)
    go_wp2
    go_ret
    exact ⟨rfl, _, rfl⟩
  · have hb : (f != 0) = true := by simp [hf]
    rw [if_neg hf]
    clear hf
    go_enter Try.func41, Try.ntmps41
    go_wp2
    go_ret
    exact ⟨rfl, 0, rfl⟩

set_option maxHeartbeats 400000 in
theorem at_any (rb : Nat) (a : Option Addr) (n c : Nat) (p f : Int) (w : World) (hr : Rdr w 87 rb a n c p f) :
    Calls Try.prog 47 #[.pointer (some ⟨rb, 0, none⟩)] w fun e w' => e = .returned (.int .i64 p) ∧ w = w' := by
  have c := hr.c1
  clear hr
  go_enter Try.func47, Try.ntmps47
  go_wp2
  go_ret
  exact ⟨rfl, rfl⟩

set_option maxHeartbeats 400000 in
theorem fault_any (rb : Nat) (a : Option Addr) (n c : Nat) (p f : Int) (w : World) (hr : Rdr w 87 rb a n c p f) :
    Calls Try.prog 69 #[.pointer (some ⟨rb, 0, none⟩)] w fun e w' => e = .returned (.int .i64 f) ∧ w = w' := by
  have c := hr.c2
  clear hr
  go_enter Try.func69, Try.ntmps69
  go_wp2
  go_ret
  exact ⟨rfl, rfl⟩

set_option maxHeartbeats 400000 in
theorem open_any (a : Option Addr) (n c : Nat) (zs : List Int) (w : World) (hl : zs.length = n) (hn : n ≤ 140737488375808) (hseg : Seg w a zs) :
    Calls Try.prog 45 #[.slice a n c] w fun e w' => ∃ g rb, e = .returned (.pointer (some ⟨rb, 0, none⟩)) ∧ Q w w' ∧ w.heap.size ≤ rb ∧ w.heap.size ≤ g ∧ g ≠ rb ∧ Rdr w' 87 rb (some ⟨g, 0, none⟩) n n 0 0 ∧ Own w' w.heap.size (some ⟨g, 0, none⟩) n n zs := by
  have HL := hid hl
  have HS := hid hseg
  clear hl hseg
  go_enter Try.func45, Try.ntmps45
  go_wp2_with fail
  refine (copy_any a n c zs _ HL.out (by omega) HS.out).mono ?_
  rintro e w1 ⟨g, rfl, hq1, ho1, hg1⟩
  have hlt : g < w1.heap.size := by
    have := ho1.lt g rfl
    exact this.2
  have H1 := hid hq1
  have O1 := hid ho1
  clear hq1 ho1
  go_wp2
  go_ret
  refine ⟨g, w1.heap.size, rfl, H1.out.alloc _, H1.out.size, hg1, by omega, heap_alloc_new w1 _, O1.out.q ((Q.refl _).alloc _)⟩

end Go.Proofs.Ytbhhajmfdffdbaa.Wide
