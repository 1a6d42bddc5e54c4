/-
  What the program's inner breaksFinal, reach and take do to a buffer: contracts that the walk of Put uses.
-/
import Derived.Test.YtdgkeidpoodmeaaBuf
namespace Go.Proofs.Ytdgkeidpoodmeaa
open Go.RowKit
set_option linter.unusedVariables false

set_option maxHeartbeats 400000 in
theorem breaks_any (rb : Nat) (room : Int) (s : S) (ready held : Int) (a : Option Addr) (n c : Nat) (e : Int) (f : Bool) (w : World) (hr : Hd w rb room s.off s.high s.fin s.known ready held a n c) :
    Calls Try.prog 27 #[.pointer (some ⟨rb, 0, none⟩), .int .i64 e, .bool f] w fun r w' => r = .returned (.bool (brk s e f)) ∧ w = w' := by
  have c2 := hr.c2
  have c3 := hr.c3
  have c4 := hr.c4
  clear hr
  cases hk : s.known
  · rw [hk] at c4
    cases f
    · go_enter Try.func27, Try.ntmps27
      go_wp2
      go_ret
      exact ⟨ret_bool (by rw [brk_f hk]; rfl), rfl⟩
    · go_enter Try.func27, Try.ntmps27
      go_wp2
      go_ret
      exact ⟨ret_bool (by rw [brk_f hk]; simp), rfl⟩
  · rw [hk] at c4
    by_cases hg : s.fin < e
    · have hd : decide (s.fin < e) = true := by simp [hg]
      go_enter Try.func27, Try.ntmps27
      go_wp2
      go_ret
      exact ⟨ret_bool (by rw [brk_t hk, hd]; rfl), rfl⟩
    · have hd : decide (s.fin < e) = false := by simp [hg]
      cases f
      · go_enter Try.func27, Try.ntmps27
        go_wp2
        go_ret
        exact ⟨ret_bool (by rw [brk_t hk, hd]; rfl), rfl⟩
      · go_enter Try.func27, Try.ntmps27
        go_wp2
        go_ret
        exact ⟨ret_bool (by rw [brk_t hk, hd]; simp; rfl), rfl⟩

set_option maxHeartbeats 400000 in
theorem reach_any (rb : Nat) (room off high fin : Int) (known : Bool) (ready held : Int) (a : Option Addr) (n c : Nat) (xs : Sl) (m : Nat) (w : World) (hr : Hd w rb room off high fin known ready held a n c) (hs : Sub w 62 2 a n c (flat2 xs)) (hsep : blk a ≠ some rb) (hn : n ≤ 65536) (hm : m ≤ 65536) :
    Calls Try.prog 29 #[.pointer (some ⟨rb, 0, none⟩), .int .i64 m] w fun r w' => ∃ a' c', r = .returned (.tuple #[]) ∧ Hd w' rb room off high fin known ready held a' (max n m) c' ∧ Sub w' 62 2 a' (max n m) c' (flat2 (pad m xs)) ∧ blk a' ≠ some rb ∧ Keep (Fp rb a) w w' ∧ (∀ b, blk a' = some b → blk a = some b ∨ w.heap.size ≤ b) := by
  obtain ⟨i0, hi, hz0, hz1, hz2⟩ := info_parts info62
  have hl : xs.length = n := by have := hs.1; rw [flat2_len] at this; omega
  have c7 := hr.c7
  have hw : IntKind.i64.wrap ((m : Int) - (n : Int)) = (m : Int) - n := by rw [IntKind.wrap_i64]; omega
  by_cases hmn : m ≤ n
  · have hb : decide ((m : Int) - n > 0) = false := by simp; omega
    have HR := hid hr
    have HS := hid hs
    clear hr hs
    go_enter Try.func29, Try.ntmps29
    go_wp2
    go_end0
    exact ⟨a, c, rfl, by rw [Nat.max_eq_left hmn]; exact HR.out, by rw [Nat.max_eq_left hmn, pad_self (by omega)]; exact HS.out, hsep, Keep.refl _ _, fun b h => .inl h⟩
  · have hb : decide ((m : Int) - n > 0) = true := by simp; omega
    have ho : ∀ v ∈ (Value.agg #[.int .u8 0, .bool false]).cells.toList, v.oneCell' = true := by
      intro v hv; simp [Value.cells] at hv; rcases hv with rfl | rfl <;> rfl
    obtain ⟨a', c', w', hrun, hs', hk, hbk⟩ := sub_append_zeros (P := Try.prog) (ty := 58) (kq := .i64) Try.underlying58 Try.underlying3 hi hz0 hz1 hz2 rfl (by omega) ho hs (m := m - n) (by omega) (by unfold maxLen; omega) (by omega)
    have hcast : ((m - n : Nat) : Int) = (m : Int) - n := by omega
    rw [hcast] at hrun
    have hr' := hr.keep hk hsep
    have hfr := hr'.free 7
    have hc7 := hr'.c7
    have HR := hid hr'
    have HS := hid hs'
    have HK := hid hk
    have HB := hid hbk
    have HLT := hid hs.lt
    have HRB := hid hr.lt
    clear hr hs hr' hs' hk hbk
    go_enter Try.func29, Try.ntmps29
    go_wp2_with (at_builtin; refine Lib.wpList_append_run _ rfl _ _ _ _ rfl _ _ rfl rfl _ _ hrun ?_)
    go_end0
    have hb' : blk a' ≠ some rb := by
      rcases HB.out with h | h
      · rw [h]; exact hsep
      · rw [h]; intro e; simp at e; have := HRB.out; omega
    refine ⟨a', c', rfl, ?_, ?_, hb', ?_, ?_⟩
    · rw [show max n m = n + (m - n) by omega]; exact HR.out.list_ _ _ _
    · have h1 := HS.out
      rw [show (Value.agg #[.int .u8 0, .bool false]).cells = #[.int .u8 0, .bool false] from rfl, flat2_zeros, ← flat2_append] at h1
      rw [show max n m = n + (m - n) by omega]
      have : pad m xs = xs ++ List.replicate (m - n) none := by unfold pad; rw [hl]
      rw [this]
      exact h1.keep ((Keep.refl (fun k => k = rb) _).setCell rb 7 _ (.inl rfl)) (fun b hb e => hb' (by rw [hb, e]))
    · exact (HK.out.mono (fun i _ h => .inr h)).setCell rb 7 _ (.inl (.inl rfl))
    · intro b hb
      rcases HB.out with h | h
      · left; rw [← h]; exact hb
      · right; rw [h] at hb; simp at hb; omega
end Go.Proofs.Ytdgkeidpoodmeaa
