/-
  What the document's own reader's calls do, each at every state: contracts that the statements' walks use.
-/
import Derived.Test.YtdoodbaogmdloabRefGet
import Derived.Test.YtdoodbaogmdloabReader
import Derived.BigQuiet
import Derived.Deep.QuietTactic
namespace Go.Proofs.Ytdoodbaogmdloab
open Go.RowKit
set_option maxRecDepth 20000
set_option linter.unusedVariables false

theorem rget_drawn {a : Option Addr} {n c : Nat} {zs : List Int} {p m q e : Int} {w : World} (k : Nat) (hl : zs.length = n) (hn : n ≤ 9223372036854775807) (hz : ∀ y ∈ zs, 0 ≤ y ∧ y < 256) (hs : Seg w a zs) (hrd : rd zs p = (m, q, e)) :
    Calls Try.prog 37 #[.slice a n c, .int .i64 p] (w.drewN k) fun e' w' => e' = .returned (.tuple #[.int .i64 m, .int .i64 q, .int .i64 e]) ∧ w' = w.drewN k := by
  refine (rget_any a n c zs p (w.drewN k) hl hn hz (hs.q ((Q.refl _).drewN _))).mono ?_
  rw [hrd]
  rintro e' w' ⟨rfl, rfl⟩
  exact ⟨rfl, rfl⟩

set_option maxHeartbeats 1000000 in
theorem rnumber_f (rb : Nat) (a : Option Addr) (n c : Nat) (p f : Int) (w : World) (hf : f ≠ 0) (hr : Rdr w 43 rb a n c p f) :
    Calls Try.prog 19 #[.pointer (some ⟨rb, 0, none⟩)] w fun e w' => e = .returned (.int .i64 0) ∧ w = w' := by
  have c2 := hr.c2
  have hb : (f != 0) = true := by simp [hf]
  clear hr
  go_enter Try.func19, Try.ntmps19
  go_wp2
  go_ret
  exact ⟨rfl, rfl⟩

set_option maxHeartbeats 1000000 in
theorem rnumber_e (rb : Nat) (a : Option Addr) (n c : Nat) (zs : List Int) (p m q e : Int) (w : World) (hl : zs.length = n) (hn : n ≤ 140737488355328) (hz : ∀ y ∈ zs, 0 ≤ y ∧ y < 256) (hs : SegOff rb w a zs) (hr : Rdr w 43 rb a n c p 0)
    (hrd : rd zs p = (m, q, e)) (he : e ≠ 0) :
    Calls Try.prog 19 #[.pointer (some ⟨rb, 0, none⟩)] w fun e' w' => e' = .returned (.int .i64 0) ∧ Only rb w w' ∧ Rdr w' 43 rb a n c p e := by
  have c0 := hr.c0
  have c1 := hr.c1
  have c2 := hr.c2
  have f2 := hr.free 2
  have hb : (e != 0) = true := by simp [he]
  have HL := hid hl
  have HZ := hid hz
  have HS := hid hs
  have HR := hid hr
  have HG := hid (fun k => rget_drawn (c := c) k hl (by omega) hz hs.1 hrd)
  clear hl hz hs hr hrd
  go_enter Try.func19, Try.ntmps19
  go_wp2
  go_quiet ((go_at_call 37; exact Calls.quiet_of_same (HG.out _)))
  go_wp2
  go_ret
  exact ⟨rfl, ((Only.refl _ _).setCell _ _).drewN _, (HR.out.fault_ _).drewN _⟩

set_option maxHeartbeats 1000000 in
theorem rnumber_k (rb : Nat) (a : Option Addr) (n c : Nat) (zs : List Int) (p m q : Int) (w : World) (hl : zs.length = n) (hn : n ≤ 140737488355328) (hz : ∀ y ∈ zs, 0 ≤ y ∧ y < 256) (hs : SegOff rb w a zs) (hr : Rdr w 43 rb a n c p 0)
    (hrd : rd zs p = (m, q, 0)) :
    Calls Try.prog 19 #[.pointer (some ⟨rb, 0, none⟩)] w fun e' w' => e' = .returned (.int .i64 m) ∧ Only rb w w' ∧ Rdr w' 43 rb a n c q 0 := by
  have c0 := hr.c0
  have c1 := hr.c1
  have c2 := hr.c2
  have f1 := hr.free 1
  have HL := hid hl
  have HZ := hid hz
  have HS := hid hs
  have HR := hid hr
  have HG := hid (fun k => rget_drawn (c := c) k hl (by omega) hz hs.1 hrd)
  clear hl hz hs hr hrd
  go_enter Try.func19, Try.ntmps19
  go_wp2
  go_quiet ((go_at_call 37; exact Calls.quiet_of_same (HG.out _)))
  go_wp2
  go_ret
  exact ⟨rfl, ((Only.refl _ _).setCell _ _).drewN _, (HR.out.at_ _).drewN _⟩

theorem rnumber_any (rb : Nat) (a : Option Addr) (n c : Nat) (zs : List Int) (p f : Int) (w : World) (hl : zs.length = n) (hn : n ≤ 140737488355328) (hz : ∀ y ∈ zs, 0 ≤ y ∧ y < 256) (hs : SegOff rb w a zs) (hr : Rdr w 43 rb a n c p f) :
    Calls Try.prog 19 #[.pointer (some ⟨rb, 0, none⟩)] w fun e w' => e = .returned (.int .i64 (numR zs p f).1) ∧ Only rb w w' ∧ Rdr w' 43 rb a n c (numR zs p f).2.1 (numR zs p f).2.2 := by
  unfold numR
  by_cases hf : f = 0
  · subst hf
    obtain ⟨x, hx⟩ : ∃ x, rd zs p = x := ⟨_, rfl⟩
    obtain ⟨m, q, e⟩ := x
    by_cases he : e = 0
    · subst he
      simp only [hx, if_true]
      exact rnumber_k rb a n c zs p m q w hl hn hz hs hr hx
    · simp only [hx, if_neg he, if_true]
      exact rnumber_e rb a n c zs p m q e w hl hn hz hs hr hx he
  · simp only [if_neg hf]
    exact (rnumber_f rb a n c p f w hf hr).mono (by rintro e w' ⟨rfl, rfl⟩; exact ⟨rfl, Only.refl _ _, hr⟩)

end Go.Proofs.Ytdoodbaogmdloab
