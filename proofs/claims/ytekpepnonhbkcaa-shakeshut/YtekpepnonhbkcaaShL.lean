/-
  What shake's hear and Peer and slices.Contains on strings do: contracts that the statements' walks use.
-/
import Derived.Test.YtekpepnonhbkcaaShK
namespace Go.Proofs.Ytekpepnonhbkcaa
open Go.RowKit
set_option linter.unusedVariables false
set_option maxRecDepth 20000

set_option maxHeartbeats 8000000 in
theorem hear_any (B sb : Nat) (S : Sh) (sd : List Int) (Fs : List Fl) (m : Sv) (ms : List Int) (w : World) (h : Sd w B sb S sd Fs) (hm : Seg w m.a ms) (hl : ms.length = m.n) (hn : S.said.n + m.n ≤ 1000000) :
    Calls Try.prog 45 #[.pointer (some ⟨sb, 0, none⟩), .slice m.a m.n m.c] w fun e w' => e = .returned (.tuple #[]) ∧ ∃ x : Sv, Sd w' B sb { S with said := x } (sd ++ ms) Fs ∧ Keep (Mine sb S Fs) w w' ∧ ∀ b, Mine sb { S with said := x } Fs b → Mine sb S Fs b ∨ w.heap.size ≤ b := by
  obtain ⟨x, w1, hrun, ha1, hsd, hk, hmi⟩ := h.up hm hl hn
  have HX0 := hid (show ∃ x : Sv, Sd (w1.setCell ⟨sb, 39, none⟩ (.slice x.a x.n x.c)) B sb { S with said := x } (sd ++ ms) Fs ∧ Keep (Mine sb S Fs) w (w1.setCell ⟨sb, 39, none⟩ (.slice x.a x.n x.c)) ∧ ∀ b, Mine sb { S with said := x } Fs b → Mine sb S Fs b ∨ w.heap.size ≤ b from ⟨x, hsd, hk, hmi⟩)
  have HY := hid (show Sd (w1.setCell ⟨sb, 39, none⟩ (.slice x.a x.n x.c)) B sb { S with said := x } (sd ++ ms) Fs ∧ Keep (Mine sb S Fs) w (w1.setCell ⟨sb, 39, none⟩ (.slice x.a x.n x.c)) ∧ ∀ b, Mine sb { S with said := x } Fs b → Mine sb S Fs b ∨ w.heap.size ≤ b from ⟨hsd, hk, hmi⟩)
  have c39 := h.at_.said
  have d39 := ha1.said
  have f39 := ha1.free 39
  clear HX0 hsd hk hmi ha1 h hm hl hn
  obtain ⟨ma, mn, mc⟩ := m
  obtain ⟨xa, xn, xc⟩ := x
  dsimp only at *
  generalize hsv : S.said = sv at c39 d39 hrun
  obtain ⟨sa, sn, sc⟩ := sv
  dsimp only at *
  go_enter Try.func45, Try.ntmps45
  go_wp2_with (at_builtin; refine Lib.wpList_append_run _ rfl _ _ _ _ rfl _ _ rfl rfl _ _ hrun ?_)
  go_end0
  exact ⟨rfl, ⟨xa, xn, xc⟩, HY.out⟩
set_option maxHeartbeats 4000000 in
theorem peer_any (sb : Nat) (S : Sh) (zs : List Int) (w : World) (h : ShAt w sb S) (hs : Seg w S.peer.a zs) (hl : zs.length = S.peer.n) (hn : S.peer.n ≤ 900000) :
    Calls Try.prog 16 #[.pointer (some ⟨sb, 0, none⟩)] w fun e w' => ∃ y : Sv, e = .returned (.slice y.a y.n y.c) ∧ Q w w' ∧ Row w' y zs ∧ New w.heap.size y := by
  have c := h.peer
  have CL := hid (clone_any S.peer zs w hs hl hn)
  clear h hs hl hn
  generalize S.peer = pv at *
  obtain ⟨a, n, cc⟩ := pv
  dsimp only at *
  go_enter Try.func16, Try.ntmps16
  go_wp2_with fail
  refine CL.out.mono ?_
  rintro e w1 ⟨⟨ya, yn, yc⟩, rfl, hq⟩
  have HQ := hid hq
  clear hq
  dsimp only
  go_wp2
  go_ret
  exact ⟨⟨ya, yn, yc⟩, rfl, HQ.out⟩
def eqT (x s : ByteArray) : Bool := x.toList == s.toList
/-- Where a string stands first; as many as there are, if nowhere. -/
def ixT (ss : List ByteArray) (x : ByteArray) : Nat := ss.findIdx (eqT x)
/-- .. as Index tells it. -/
def ixI (ss : List ByteArray) (x : ByteArray) : Int := if ixT ss x < ss.length then (ixT ss x : Int) else -1
theorem ixT_hit {ss : List ByteArray} {x : ByteArray} {k : Nat} (hk : k < ss.length) (hi : k ≤ ixT ss x) (h : eqT x (ss.getD k ByteArray.empty) = true) : ixI ss x = (k : Int) := by
  have e : ixT ss x = k := by
    rcases Nat.lt_or_ge k (ixT ss x) with hh | hh
    · have := List.not_of_lt_findIdx hh
      rw [List.getD_eq_getElem?_getD, List.getElem?_eq_getElem hk, Option.getD_some] at h
      rw [h] at this
      cases this
    · omega
  unfold ixI
  rw [e, if_pos hk]
theorem ixT_miss {ss : List ByteArray} {x : ByteArray} {k : Nat} (hk : k < ss.length) (hi : k ≤ ixT ss x) (h : eqT x (ss.getD k ByteArray.empty) = false) : k + 1 ≤ ixT ss x := by
  rcases Nat.lt_or_ge k (ixT ss x) with hh | hh
  · exact hh
  · have e : ss.findIdx (eqT x) = k := Nat.le_antisymm hh hi
    have h2 : ss.findIdx (eqT x) < ss.length := by omega
    have h3 := List.findIdx_getElem (w := h2)
    simp only [e] at h3
    rw [List.getD_eq_getElem?_getD, List.getElem?_eq_getElem hk, Option.getD_some, h3] at h
    cases h
theorem ixT_end {ss : List ByteArray} {x : ByteArray} (hi : ss.length ≤ ixT ss x) : ixI ss x = -1 := by
  unfold ixI
  rw [if_neg (by omega)]
set_option maxHeartbeats 8000000 in
theorem index_any (a : Option Addr) (n c : Nat) (ss : List ByteArray) (x : ByteArray) (w : World) (hl : ss.length = n) (hs : SegT w a ss) (hn : n ≤ 1000000) :
    Calls Try.prog 66 #[.slice a n c, .string x] w fun e w' => e = .returned (.int .i64 (ixI ss x)) ∧ w = w' := by
  have HL := hid hl
  have HS := hid hs
  clear hl hs
  go_enter Try.func66, Try.ntmps66
  go_wp2_with fail
  go_loopw [8] (fun i wr => ∃ k : Nat, i = .int .i64 (k : Int) ∧ k ≤ n ∧ w = wr ∧ k ≤ ixT ss x) (fun i _ => n - (intOf i).toNat)
  case atStart => exact ⟨0, rfl, Nat.zero_le _, rfl, Nat.zero_le _⟩
  case round =>
    obtain ⟨k, rfl, hk, rfl, hix⟩ := hrel
    have HIX := hid hix
    clear hix
    by_cases hlt : k < n
    · have hki : (k : Int) < (n : Int) := by omega
      have h0 : (0 : Int) ≤ (k : Int) := by omega
      obtain ⟨b, off, rfl, hc⟩ := HS.out (by intro e; have := HL.out; rw [e] at this; simp at this; omega)
      have hck := hc k (by have := HL.out; omega)
      clear hc
      cases hE : eqT x (ss.getD k ByteArray.empty) with
      | true =>
        have HR := hid (ixT_hit (by have := HL.out; omega) HIX.out hE)
        unfold eqT at hE
        generalize ss.getD k ByteArray.empty = s at *
        go_wp2_with fail
        go_ret
        exact ⟨by rw [HR.out]; rfl, rfl⟩
      | false =>
        have HR := hid (ixT_miss (by have := HL.out; omega) HIX.out hE)
        unfold eqT at hE
        generalize ss.getD k ByteArray.empty = s at *
        go_wp2_with fail
        go_roundw
        case rel => exact ⟨k + 1, by go_num, by omega, by first | trivial | rfl, HR.out⟩
        case measure => simp [intOf]; omega
    · obtain rfl : k = n := by omega
      have HR := hid (ixT_end (ss := ss) (x := x) (by have := HL.out; have := HIX.out; omega))
      go_wp2_with fail
      go_ret
      exact ⟨by rw [HR.out]; rfl, rfl⟩
set_option maxHeartbeats 4000000 in
theorem contains_any (a : Option Addr) (n c : Nat) (ss : List ByteArray) (x : ByteArray) (w : World) (hl : ss.length = n) (hs : SegT w a ss) (hn : n ≤ 1000000) :
    Calls Try.prog 44 #[.slice a n c, .string x] w fun e w' => e = .returned (.bool (decide (ixI ss x ≥ 0))) ∧ w = w' := by
  have IX := hid (index_any a n c ss x w hl hs hn)
  clear hl hs hn
  go_enter Try.func44, Try.ntmps44
  go_wp2_with fail
  refine IX.out.mono ?_
  rintro e w1 ⟨rfl, rfl⟩
  generalize hr : ixI ss x = r
  have HR := hid hr
  clear hr
  go_wp2
  go_ret
  exact ⟨by rw [HR.out]; rfl, rfl⟩
end Go.Proofs.Ytekpepnonhbkcaa
