/-
  What shake's takeKept leaves: a side with what was kept taken.
-/
import Derived.Test.YtekpepnonhbkcaaMgC
import Derived.Test.YtekpepnonhbkcaaHnd

/-
  What slices.IndexFunc answers at takeClientHello's function value: a contract that the statements' walks use.
-/
namespace Go.Proofs.Ytekpepnonhbkcaa
open Go.RowKit
set_option linter.unusedVariables false
set_option maxRecDepth 20000

/-- The first of ours that the other side has. -/
def ixF (ss qs : List ByteArray) : Nat := ss.findIdx (fun x => decide (ixI qs x ≥ 0))
def ixG (ss qs : List ByteArray) : Int := if ixF ss qs < ss.length then (ixF ss qs : Int) else -1
set_option maxHeartbeats 4000000 in
theorem clo43 (x : ByteArray) (ob : Nat) (pub : Int) (T P : Sv) (qs : List ByteArray) (w : World) (h : OB w ob pub T P) (hs : SegT w T.a qs) (hl : qs.length = T.n) (hn : T.n ≤ 1000) :
    Calls Try.prog 43 #[.string x, .pointer (some ⟨ob, 0, none⟩)] w fun e w' => e = .returned (.bool (decide (ixI qs x ≥ 0))) ∧ w = w' := by
  have c1 := h.c1
  have HC := hid (contains_any T.a T.n T.c qs x w hl hs (by omega))
  clear h hs hl
  obtain ⟨ta, tn, tc⟩ := T
  dsimp only at *
  go_enter Try.func43, Try.ntmps43
  go_wp2_with (go_at_call 44; refine HC.out.mono ?_; rintro e w1 ⟨rfl, rfl⟩)
  go_ret
  exact ⟨rfl, rfl⟩
set_option maxHeartbeats 4000000 in
theorem indexFunc_any (a : Option Addr) (n c : Nat) (ss : List ByteArray) (ob : Nat) (pub : Int) (T P : Sv) (qs : List ByteArray) (w : World) (hsl : ss.length = n) (hss : SegT w a ss) (hnn : n ≤ 1000) (h : OB w ob pub T P) (hs : SegT w T.a qs) (hl : qs.length = T.n) (hn : T.n ≤ 1000) :
    Calls Try.prog 42 #[.slice a n c, .func (.func 43) #[] #[.pointer (some ⟨ob, 0, none⟩)]] w fun e w' => e = .returned (.int .i64 (ixG ss qs)) ∧ w = w' := by
  have HC := hid (fun x => clo43 x ob pub T P qs w h hs hl hn)
  have HS := hid hss
  have HL := hid hsl
  clear h hs hl hss hsl hn
  go_enter Try.func42, Try.ntmps42
  go_wp2_with fail
  go_loopw [8] (fun iv wr => wr = w ∧ ∃ k : Nat, iv = .int .i64 k ∧ k ≤ n ∧ k ≤ ixF ss qs) (fun i _ => ((n : Int) - intOf i).toNat)
  case atStart => exact ⟨rfl, 0, rfl, Nat.zero_le _, Nat.zero_le _⟩
  case round =>
    obtain ⟨hw, k, rfl, hk, hi⟩ := hrel
    replace hw := hw.symm
    subst hw
    by_cases hkn : k < n
    · have hki : (k : Int) < (n : Int) := by omega
      obtain ⟨b, off, rfl, hc⟩ := HS.out (by intro e; have := HL.out; rw [e] at this; simp at this; omega)
      have hc1 := hc k (by rw [HL.out]; exact hkn)
      have HCK := hid (HC.out (ss.getD k ByteArray.empty))
      have hgd : ss.getD k ByteArray.empty = ss[k]'(by rw [HL.out]; exact hkn) := by rw [List.getD_eq_getElem?_getD, List.getElem?_eq_getElem (by rw [HL.out]; exact hkn)]; rfl
      by_cases hh : ixI qs (ss.getD k ByteArray.empty) ≥ 0
      · have HIX := hid (show ixG ss qs = (k : Int) from by
          have e : ixF ss qs = k := by
            rcases Nat.lt_or_ge k (ixF ss qs) with h2 | h2
            · have h3 := List.not_of_lt_findIdx h2
              rw [hgd] at hh
              simp at h3
              omega
            · omega
          unfold ixG
          rw [e, if_pos (by rw [HL.out]; exact hkn)])
        rw [decide_eq_true hh] at HCK
        clear hh hc hgd hi
        generalize ss.getD k ByteArray.empty = x at *
        go_wp2_with (go_at_call 43; refine HCK.out.mono ?_; rintro e w1 ⟨rfl, rfl⟩)
        go_ret
        exact ⟨by rw [HIX.out]; rfl, rfl⟩
      · have HI2 := hid (show k + 1 ≤ ixF ss qs from by
          rcases Nat.lt_or_ge k (ixF ss qs) with h2 | h2
          · exact h2
          · exfalso
            have e : ixF ss qs = k := by omega
            have h3 := List.findIdx_getElem (xs := ss) (p := fun x => decide (ixI qs x ≥ 0)) (w := by show ixF ss qs < _; rw [e, HL.out]; exact hkn)
            have h4 : decide (ixI qs (ss[ixF ss qs]'(by rw [e, HL.out]; exact hkn)) ≥ 0) = true := h3
            apply hh
            rw [hgd]
            have h5 := of_decide_eq_true h4
            simp only [e] at h5
            exact h5)
        rw [decide_eq_false hh] at HCK
        clear hh hc hgd hi
        generalize ss.getD k ByteArray.empty = x at *
        go_wp2_with (go_at_call 43; refine HCK.out.mono ?_; rintro e w1 ⟨rfl, rfl⟩)
        go_roundw
        case rel => exact ⟨trivial, k + 1, by go_num, by omega, HI2.out⟩
        case measure => simp [intOf]; omega
    · obtain rfl : k = n := by omega
      have HIX := hid (show ixG ss qs = -1 from by unfold ixG; rw [if_neg (by rw [HL.out]; omega)])
      have hni : ¬ (k : Int) < (k : Int) := by omega
      go_wp2_with fail
      go_ret
      exact ⟨by rw [HIX.out]; rfl, rfl⟩
end Go.Proofs.Ytekpepnonhbkcaa

/-
  The drawn regions of shake's takeClientHello, gone through by hand, a lemma a state.
-/
namespace Go.Proofs.Ytekpepnonhbkcaa
open Go.RowKit
set_option linter.unusedVariables false
set_option maxRecDepth 20000

theorem ld9 {w : World} {b j : Nat} {v : ByteArray} (hc : w.cell? ⟨b, j, none⟩ = some (.string v)) : (loadVar 9 ⟨b, j, none⟩).run Try.prog w = .ok (.string v) w := by simp [loadVar, go_sem, hc]
theorem st9 {o : Oper} {a : Act} {w : World} (x y : Operand) (b j : Nat) (v u : ByteArray) (ho : o.op = .store 9 x y) (hx : a.eval x = .pointer (some ⟨b, j, none⟩)) (hy : a.eval y = .string v) (hc : w.cell? ⟨b, j, none⟩ = some (.string u)) (hf : w.frozen? ⟨b, j, none⟩ = false) :
    (execOp a.eval o).run Try.prog w = .ok .skip (w.setCell ⟨b, j, none⟩ (.string v)) := by
  have hst : (storeVar 9 ⟨b, j, none⟩ (.string v)).run Try.prog w = .ok () (w.setCell ⟨b, j, none⟩ (.string v)) := by simp [storeVar, go_sem, hc, hf]
  unfold execOp
  simp only [ho, hx, hy, Instr.storeAt, Instr.sureAddr, Sem.run_bind, Sem.run_pure, Result.andThen_ok, hst]
theorem st24 {o : Oper} {a : Act} {w : World} (x y : Operand) (b j : Nat) (v u : Sv) (ho : o.op = .store 24 x y) (hx : a.eval x = .pointer (some ⟨b, j, none⟩)) (hy : a.eval y = .slice v.a v.n v.c) (hc : w.cell? ⟨b, j, none⟩ = some (.slice u.a u.n u.c)) (hf : w.frozen? ⟨b, j, none⟩ = false) :
    (execOp a.eval o).run Try.prog w = .ok .skip (w.setCell ⟨b, j, none⟩ (.slice v.a v.n v.c)) := by
  have hst : (storeVar 24 ⟨b, j, none⟩ (.slice v.a v.n v.c)).run Try.prog w = .ok () (w.setCell ⟨b, j, none⟩ (.slice v.a v.n v.c)) := by simp [storeVar, go_sem, hc, hf]
  unfold execOp
  simp only [ho, hx, hy, Instr.storeAt, Instr.sureAddr, Sem.run_bind, Sem.run_pure, Result.andThen_ok, hst]
theorem ixa23 {o : Oper} {a : Act} {w : World} (x z : Operand) (g off n c k : Nat) (hk : k < n) (ho : o.op = .indexAddr 23 x z) (hx : a.eval x = .slice (some ⟨g, off, none⟩) n c) (hz : a.eval z = .int .i64 (k : Int)) :
    (execOp a.eval o).run Try.prog w = .ok (.value (.pointer (some ⟨g, off + k, none⟩))) w := by
  have h0 : (0 : Int) ≤ (k : Int) := by omega
  have h1 : (k : Int) < (n : Int) := by omega
  unfold execOp
  simp only [ho, hx, hz]
  simp [go_sem, h1]
/-- The side's block while the proto and the peer are written. -/
def B60 (u : World) (sb : Nat) (S : Sh) : Prop := ∃ L : List Value, u.heap[sb]? = some (.cells L.toArray 65 (0, 0)) ∧ L.length = 63 ∧ ∀ i, i ≠ 60 → i ≠ 61 → L[i]? = S.cells[i]?
theorem B60.set {u : World} {sb : Nat} {S : Sh} (h : B60 u sb S) (j : Nat) (hj : j = 60 ∨ j = 61) (v : Value) : B60 (u.setCell ⟨sb, j, none⟩ v) sb S := by
  obtain ⟨L, hb, hl, hc⟩ := h
  have h1 := heap_setCell_same u sb j _ 65 v hb
  refine ⟨L.set j v, by simpa using h1, by simpa using hl, fun i h60 h61 => ?_⟩
  rw [List.getElem?_set_ne (by omega)]
  exact hc i h60 h61
theorem B60.free {u : World} {sb : Nat} {S : Sh} (h : B60 u sb S) (j : Nat) : u.frozen? ⟨sb, j, none⟩ = false := by
  obtain ⟨L, hb, _⟩ := h
  exact frozen_of_row u sb j _ 65 hb
theorem set_cell_ne {u : World} {sb i j : Nat} {v x : Value} (h : u.cell? ⟨sb, i, none⟩ = some x) (hne : i ≠ j) : (u.setCell ⟨sb, j, none⟩ v).cell? ⟨sb, i, none⟩ = some x := by
  rw [← h]
  exact World.cell?_setCell_other _ _ _ _ (fun e => hne (by cases e; rfl))
theorem set_cell_eq {u : World} {sb j : Nat} {S : Sh} {v : Value} (h : B60 u sb S) (hj : j < 63) : (u.setCell ⟨sb, j, none⟩ v).cell? ⟨sb, j, none⟩ = some v := by
  obtain ⟨L, hb, hl, _⟩ := h
  have h1 := heap_setCell_same u sb j _ 65 v hb
  rw [cell_of_row _ _ _ _ 65 (0, 0) h1]
  simp [hl, hj]
theorem B60.at_ {u : World} {sb : Nat} {S : Sh} {x : ByteArray} {y : Sv} (h : B60 u sb S) (ho : S.own.length = 36) (hr : S.root.length = 16) (c60 : u.cell? ⟨sb, 60, none⟩ = some (.string x)) (c61 : u.cell? ⟨sb, 61, none⟩ = some (.slice y.a y.n y.c)) : ShAt u sb { S with proto := x, peer := y } := by
  obtain ⟨L, hb, hl, hc⟩ := h
  refine ⟨?_, ho, hr⟩
  rw [hb]
  congr 3
  apply List.ext_getElem?
  intro i
  rw [cell_of_row _ _ _ _ 65 (0, 0) hb, List.getElem?_toArray] at c60 c61
  have e2 : ({ S with proto := x, peer := y } : Sh).cells = (S.cells.set 60 (.string x)).set 61 (.slice y.a y.n y.c) := by
    rw [show (60 : Nat) = 56 + 4 from rfl, S.set_end ho hr]
    have h1 : S.own ++ (svv S.waits :: svv S.kept :: .bool S.failed :: svv S.said :: (S.root ++ [svv S.handC, svv S.handS, svv S.appC, svv S.appS, .string S.proto, svv S.peer, svv S.out].set 4 (.string x))) = ({ S with proto := x } : Sh).cells := rfl
    rw [h1, show (61 : Nat) = 56 + 5 from rfl, Sh.set_end { S with proto := x } ho hr]
    rfl
  rw [e2]
  by_cases i61 : i = 61
  · subst i61
    rw [c61, List.getElem?_set_self (by rw [List.length_set, S.len ho hr]; omega)]
  · rw [List.getElem?_set_ne (Ne.symm i61)]
    by_cases i60 : i = 60
    · subst i60
      rw [c60, List.getElem?_set_self (by rw [S.len ho hr]; omega)]
    · rw [List.getElem?_set_ne (Ne.symm i60)]
      exact hc i i60 i61
def KT (u v : World) : Prop := Keep (fun _ => False) u v
theorem tc7_q {sb cb tb tp tn tc k : Nat} {x : ByteArray} {y : Sv} {u v : World} (h : (fun u : World => u.cell? ⟨sb, 34, none⟩ = some (.slice (some ⟨tb, tp, none⟩) tn tc) ∧ u.cell? ⟨tb, tp + k, none⟩ = some (.string x) ∧ u.cell? ⟨cb, 2, none⟩ = some (.slice y.a y.n y.c)) u) (q : KT u v) : (fun u : World => u.cell? ⟨sb, 34, none⟩ = some (.slice (some ⟨tb, tp, none⟩) tn tc) ∧ u.cell? ⟨tb, tp + k, none⟩ = some (.string x) ∧ u.cell? ⟨cb, 2, none⟩ = some (.slice y.a y.n y.c)) v := ⟨Keep.cell q h.1 id, Keep.cell q h.2.1 id, Keep.cell q h.2.2 id⟩
theorem cell_setCell_other {u : World} {b sb i j : Nat} {v x : Value} (h : u.cell? ⟨b, i, none⟩ = some x) (hne : b ≠ sb) : (u.setCell ⟨sb, j, none⟩ v).cell? ⟨b, i, none⟩ = some x := ((Keep.refl (fun c => c = sb) u).setCell sb j v (.inl rfl)).cell h hne
def tc7g0z (sb cb tb tp tn tc k : Nat) (x : ByteArray) (y : Sv) (S : Sh)  : List (Nat × Value) := [(0, .pointer (some ⟨sb, 0, none⟩)), (1, .pointer (some ⟨sb, 0, none⟩)), (2, .pointer (some ⟨sb, 0, none⟩)), (7, .int .i64 (k : Int)), (10, .pointer (some ⟨cb, 2, none⟩)), (3, .pointer (some ⟨sb, 0, none⟩)), (11, .slice y.a y.n y.c), (4, .pointer (some ⟨sb, 0, none⟩)), (5, .pointer (some ⟨sb, 34, none⟩)), (6, .slice (some ⟨tb, tp, none⟩) tn tc), (8, .pointer (some ⟨tb, tp + k, none⟩)), (9, .string x), (12, .pointer (some ⟨sb, 0, none⟩)), (13, .pointer (some ⟨sb, 60, none⟩))]
set_option maxHeartbeats 8000000 in
theorem tc7g0 (sb cb tb tp tn tc k : Nat) (x : ByteArray) (y : Sv) (S : Sh)  {x1 x2 x3 x4 x6 x8 x9 x10 x11 x12 x13 x14 x15 x16 x17 x18 x19 x20 x21 x22 x23 x24 x25 x26 x27 x28 x29 x30 x31 x32 x33 x34 x35 x36 x37 x38 x39 x40 x41 x42 x43 x44 x45 x46 x47 x48 x49 x50 x51 x52 x53 x54 x55 x56 x57 x58 x59 x60 x61 x62 x63 x64 x65 x66 x67 x68 x69 x70 x71 x72 x73 x74 x75 x76 x77 x78 : Value} (w : World) (hk : k < tn) (htb : tb ≠ sb) (hcb : cb ≠ sb) (h60 : ShAt w.drew sb S) : Chn Try.prog (RofN Try.f30 7) (fun u => u.cell? ⟨sb, 34, none⟩ = some (.slice (some ⟨tb, tp, none⟩) tn tc) ∧ u.cell? ⟨tb, tp + k, none⟩ = some (.string x) ∧ u.cell? ⟨cb, 2, none⟩ = some (.slice y.a y.n y.c)) (tc7g0z sb cb tb tp tn tc k x y S ) (#[false, false, false, false, false, false, false, false, false, false, false, false, false, false, false, false, false, false] : Array Bool) (⟨#[.pointer (some ⟨sb, 0, none⟩), x1, x2, x3, x4, .pointer (some ⟨cb, 0, none⟩), x6, .int .i64 (k : Int), x8, x9, x10, x11, x12, x13, x14, x15, x16, x17, x18, x19, x20, x21, x22, x23, x24, x25, x26, x27, x28, x29, x30, x31, x32, x33, x34, x35, x36, x37, x38, x39, x40, x41, x42, x43, x44, x45, x46, x47, x48, x49, x50, x51, x52, x53, x54, x55, x56, x57, x58, x59, x60, x61, x62, x63, x64, x65, x66, x67, x68, x69, x70, x71, x72, x73, x74, x75, x76, x77, x78], []⟩ : Act) :=
  ⟨⟨by kernel_rfl, by kernel_rfl, by kernel_rfl, by kernel_rfl, fun u h => by kernel_rfl⟩,
    ⟨by kernel_rfl, by kernel_rfl, by kernel_rfl, by kernel_rfl, fun u h => by kernel_rfl⟩,
    ⟨by kernel_rfl, by kernel_rfl, by kernel_rfl, by kernel_rfl, fun u h => by kernel_rfl⟩,
    ⟨by kernel_rfl, by kernel_rfl, by kernel_rfl, by kernel_rfl, fun u h => by kernel_rfl⟩,
    ⟨by kernel_rfl, by kernel_rfl, by kernel_rfl, by kernel_rfl, fun u h => by kernel_rfl⟩,
    ⟨by kernel_rfl, by kernel_rfl, by kernel_rfl, by kernel_rfl, fun u h => by kernel_rfl⟩,
    ⟨by kernel_rfl, by kernel_rfl, by kernel_rfl, by kernel_rfl, fun u h => ld_t 24 (.tmp 35) cb 2 (by kernel_rfl) (by kernel_rfl) (ld24' h.2.2)⟩,
    ⟨by kernel_rfl, by kernel_rfl, by kernel_rfl, by kernel_rfl, fun u h => by kernel_rfl⟩,
    ⟨by kernel_rfl, by kernel_rfl, by kernel_rfl, by kernel_rfl, fun u h => by kernel_rfl⟩,
    ⟨by kernel_rfl, by kernel_rfl, by kernel_rfl, by kernel_rfl, fun u h => ld_t 23 (.tmp 30) sb 34 (by kernel_rfl) (by kernel_rfl) (ld23 (v := ⟨some ⟨tb, tp, none⟩, tn, tc⟩) h.1)⟩,
    ⟨by kernel_rfl, by kernel_rfl, by kernel_rfl, by kernel_rfl, fun u h => ixa23 (.tmp 31) (.tmp 32) tb tp tn tc k hk (by kernel_rfl) (by kernel_rfl) (by kernel_rfl)⟩,
    ⟨by kernel_rfl, by kernel_rfl, by kernel_rfl, by kernel_rfl, fun u h => ld_t 9 (.tmp 33) tb (tp + k) (by kernel_rfl) (by kernel_rfl) (ld9 h.2.1)⟩,
    ⟨by kernel_rfl, by kernel_rfl, by kernel_rfl, by kernel_rfl, fun u h => by kernel_rfl⟩,
    ⟨by kernel_rfl, by kernel_rfl, by kernel_rfl, by kernel_rfl, fun u h => by kernel_rfl⟩,
    trivial⟩
def tc7g1z (sb cb tb tp tn tc k : Nat) (x : ByteArray) (y : Sv) (S : Sh)  : List (Nat × Value) := [(15, .pointer (some ⟨sb, 0, none⟩)), (16, .pointer (some ⟨sb, 61, none⟩))]
set_option maxHeartbeats 8000000 in
theorem tc7g1 (sb cb tb tp tn tc k : Nat) (x : ByteArray) (y : Sv) (S : Sh)  {x1 x2 x3 x4 x6 x8 x9 x10 x11 x12 x13 x14 x15 x16 x17 x18 x19 x20 x21 x22 x23 x24 x39 x40 x41 x42 x43 x44 x45 x46 x47 x48 x49 x50 x51 x52 x53 x54 x55 x56 x57 x58 x59 x60 x61 x62 x63 x64 x65 x66 x67 x68 x69 x70 x71 x72 x73 x74 x75 x76 x77 x78 : Value} (w : World) (hk : k < tn) (htb : tb ≠ sb) (hcb : cb ≠ sb) (h60 : ShAt w.drew sb S) : Chn Try.prog (RofN Try.f30 7) (fun u => u.cell? ⟨sb, 34, none⟩ = some (.slice (some ⟨tb, tp, none⟩) tn tc) ∧ u.cell? ⟨tb, tp + k, none⟩ = some (.string x) ∧ u.cell? ⟨cb, 2, none⟩ = some (.slice y.a y.n y.c)) (tc7g1z sb cb tb tp tn tc k x y S ) (#[true, true, true, true, true, true, true, true, true, true, true, true, true, true, true, false, false, false] : Array Bool) (⟨#[.pointer (some ⟨sb, 0, none⟩), x1, x2, x3, x4, .pointer (some ⟨cb, 0, none⟩), x6, .int .i64 (k : Int), x8, x9, x10, x11, x12, x13, x14, x15, x16, x17, x18, x19, x20, x21, x22, x23, x24, .pointer (some ⟨sb, 0, none⟩), .pointer (some ⟨sb, 0, none⟩), .pointer (some ⟨sb, 0, none⟩), .pointer (some ⟨sb, 0, none⟩), .pointer (some ⟨sb, 0, none⟩), .pointer (some ⟨sb, 34, none⟩), .slice (some ⟨tb, tp, none⟩) tn tc, .int .i64 (k : Int), .pointer (some ⟨tb, tp + k, none⟩), .string x, .pointer (some ⟨cb, 2, none⟩), .slice y.a y.n y.c, .pointer (some ⟨sb, 0, none⟩), .pointer (some ⟨sb, 60, none⟩), x39, x40, x41, x42, x43, x44, x45, x46, x47, x48, x49, x50, x51, x52, x53, x54, x55, x56, x57, x58, x59, x60, x61, x62, x63, x64, x65, x66, x67, x68, x69, x70, x71, x72, x73, x74, x75, x76, x77, x78], []⟩ : Act) :=
  ⟨⟨by kernel_rfl, by kernel_rfl, by kernel_rfl, by kernel_rfl, fun u h => by kernel_rfl⟩,
    ⟨by kernel_rfl, by kernel_rfl, by kernel_rfl, by kernel_rfl, fun u h => by kernel_rfl⟩,
    trivial⟩
set_option maxHeartbeats 16000000 in
theorem tc7_14_17 (sb cb tb tp tn tc k : Nat) (x : ByteArray) (y : Sv) (S : Sh)   {x1 x2 x3 x4 x6 x8 x9 x10 x11 x12 x13 x14 x15 x16 x17 x18 x19 x20 x21 x22 x23 x24 x41 x42 x43 x44 x45 x46 x47 x48 x49 x50 x51 x52 x53 x54 x55 x56 x57 x58 x59 x60 x61 x62 x63 x64 x65 x66 x67 x68 x69 x70 x71 x72 x73 x74 x75 x76 x77 x78 : Value} (w : World) (R : Exit → Act → World → Prop) (hQ : ∀ c a d v w, R (.panic c) (a.put d v) w → R (.panic c) a w) (hk : k < tn) (htb : tb ≠ sb) (hcb : cb ≠ sb) (h60 : ShAt w.drew sb S)
    (h : ∀ (u : World), Keep (fun b => b = sb) w u → ShAt u sb { S with proto := x, peer := y } → R .normal (⟨#[.pointer (some ⟨sb, 0, none⟩), x1, x2, x3, x4, .pointer (some ⟨cb, 0, none⟩), x6, .int .i64 (k : Int), x8, x9, x10, x11, x12, x13, x14, x15, x16, x17, x18, x19, x20, x21, x22, x23, x24, .pointer (some ⟨sb, 0, none⟩), .pointer (some ⟨sb, 0, none⟩), .pointer (some ⟨sb, 0, none⟩), .pointer (some ⟨sb, 0, none⟩), .pointer (some ⟨sb, 0, none⟩), .pointer (some ⟨sb, 34, none⟩), .slice (some ⟨tb, tp, none⟩) tn tc, .int .i64 (k : Int), .pointer (some ⟨tb, tp + k, none⟩), .string x, .pointer (some ⟨cb, 2, none⟩), .slice y.a y.n y.c, .pointer (some ⟨sb, 0, none⟩), .pointer (some ⟨sb, 60, none⟩), .pointer (some ⟨sb, 0, none⟩), .pointer (some ⟨sb, 61, none⟩), x41, x42, x43, x44, x45, x46, x47, x48, x49, x50, x51, x52, x53, x54, x55, x56, x57, x58, x59, x60, x61, x62, x63, x64, x65, x66, x67, x68, x69, x70, x71, x72, x73, x74, x75, x76, x77, x78], []⟩ : Act) u) (u : World) (hS : (fun u => u.cell? ⟨sb, 34, none⟩ = some (.slice (some ⟨tb, tp, none⟩) tn tc) ∧ u.cell? ⟨tb, tp + k, none⟩ = some (.string x) ∧ u.cell? ⟨cb, 2, none⟩ = some (.slice y.a y.n y.c)) u) (kk : Keep (fun b => b = sb) w u) (bb : B60 u sb S) (q60 : u.cell? ⟨sb, 60, none⟩ = some (.string x)) (q61 : u.cell? ⟨sb, 61, none⟩ = some (.slice y.a y.n y.c)) :
    wpAnyH Try.prog .any (RofN Try.f30 7) R (fun u => u.cell? ⟨sb, 34, none⟩ = some (.slice (some ⟨tb, tp, none⟩) tn tc) ∧ u.cell? ⟨tb, tp + k, none⟩ = some (.string x) ∧ u.cell? ⟨cb, 2, none⟩ = some (.slice y.a y.n y.c)) 0 (#[true, true, true, true, true, true, true, true, true, true, true, true, true, true, true, true, true, true] : Array Bool) (⟨#[.pointer (some ⟨sb, 0, none⟩), x1, x2, x3, x4, .pointer (some ⟨cb, 0, none⟩), x6, .int .i64 (k : Int), x8, x9, x10, x11, x12, x13, x14, x15, x16, x17, x18, x19, x20, x21, x22, x23, x24, .pointer (some ⟨sb, 0, none⟩), .pointer (some ⟨sb, 0, none⟩), .pointer (some ⟨sb, 0, none⟩), .pointer (some ⟨sb, 0, none⟩), .pointer (some ⟨sb, 0, none⟩), .pointer (some ⟨sb, 34, none⟩), .slice (some ⟨tb, tp, none⟩) tn tc, .int .i64 (k : Int), .pointer (some ⟨tb, tp + k, none⟩), .string x, .pointer (some ⟨cb, 2, none⟩), .slice y.a y.n y.c, .pointer (some ⟨sb, 0, none⟩), .pointer (some ⟨sb, 60, none⟩), .pointer (some ⟨sb, 0, none⟩), .pointer (some ⟨sb, 61, none⟩), x41, x42, x43, x44, x45, x46, x47, x48, x49, x50, x51, x52, x53, x54, x55, x56, x57, x58, x59, x60, x61, x62, x63, x64, x65, x66, x67, x68, x69, x70, x71, x72, x73, x74, x75, x76, x77, x78], []⟩ : Act) u := by
  refine wpAnyH_done (by kernel_rfl) ?_ _
  exact h u kk (bb.at_ h60.own h60.root q60 q61)
set_option maxHeartbeats 16000000 in
theorem tc7_14 (sb cb tb tp tn tc k : Nat) (x : ByteArray) (y : Sv) (S : Sh)  {x1 x2 x3 x4 x6 x8 x9 x10 x11 x12 x13 x14 x15 x16 x17 x18 x19 x20 x21 x22 x23 x24 x41 x42 x43 x44 x45 x46 x47 x48 x49 x50 x51 x52 x53 x54 x55 x56 x57 x58 x59 x60 x61 x62 x63 x64 x65 x66 x67 x68 x69 x70 x71 x72 x73 x74 x75 x76 x77 x78 : Value} (w : World) (R : Exit → Act → World → Prop) (hQ : ∀ c a d v w, R (.panic c) (a.put d v) w → R (.panic c) a w) (hk : k < tn) (htb : tb ≠ sb) (hcb : cb ≠ sb) (h60 : ShAt w.drew sb S)
    (h : ∀ (u : World), Keep (fun b => b = sb) w u → ShAt u sb { S with proto := x, peer := y } → R .normal (⟨#[.pointer (some ⟨sb, 0, none⟩), x1, x2, x3, x4, .pointer (some ⟨cb, 0, none⟩), x6, .int .i64 (k : Int), x8, x9, x10, x11, x12, x13, x14, x15, x16, x17, x18, x19, x20, x21, x22, x23, x24, .pointer (some ⟨sb, 0, none⟩), .pointer (some ⟨sb, 0, none⟩), .pointer (some ⟨sb, 0, none⟩), .pointer (some ⟨sb, 0, none⟩), .pointer (some ⟨sb, 0, none⟩), .pointer (some ⟨sb, 34, none⟩), .slice (some ⟨tb, tp, none⟩) tn tc, .int .i64 (k : Int), .pointer (some ⟨tb, tp + k, none⟩), .string x, .pointer (some ⟨cb, 2, none⟩), .slice y.a y.n y.c, .pointer (some ⟨sb, 0, none⟩), .pointer (some ⟨sb, 60, none⟩), .pointer (some ⟨sb, 0, none⟩), .pointer (some ⟨sb, 61, none⟩), x41, x42, x43, x44, x45, x46, x47, x48, x49, x50, x51, x52, x53, x54, x55, x56, x57, x58, x59, x60, x61, x62, x63, x64, x65, x66, x67, x68, x69, x70, x71, x72, x73, x74, x75, x76, x77, x78], []⟩ : Act) u) (u : World) (hS : (fun u => u.cell? ⟨sb, 34, none⟩ = some (.slice (some ⟨tb, tp, none⟩) tn tc) ∧ u.cell? ⟨tb, tp + k, none⟩ = some (.string x) ∧ u.cell? ⟨cb, 2, none⟩ = some (.slice y.a y.n y.c)) u) (kk : Keep (fun b => b = sb) w u) (bb : B60 u sb S) (p61 : ∃ z : Sv, u.cell? ⟨sb, 61, none⟩ = some (.slice z.a z.n z.c)) (q60 : u.cell? ⟨sb, 60, none⟩ = some (.string x)) :
    wpAnyH Try.prog .any (RofN Try.f30 7) R (fun u => u.cell? ⟨sb, 34, none⟩ = some (.slice (some ⟨tb, tp, none⟩) tn tc) ∧ u.cell? ⟨tb, tp + k, none⟩ = some (.string x) ∧ u.cell? ⟨cb, 2, none⟩ = some (.slice y.a y.n y.c)) 1 (#[true, true, true, true, true, true, true, true, true, true, true, true, true, true, true, true, true, false] : Array Bool) (⟨#[.pointer (some ⟨sb, 0, none⟩), x1, x2, x3, x4, .pointer (some ⟨cb, 0, none⟩), x6, .int .i64 (k : Int), x8, x9, x10, x11, x12, x13, x14, x15, x16, x17, x18, x19, x20, x21, x22, x23, x24, .pointer (some ⟨sb, 0, none⟩), .pointer (some ⟨sb, 0, none⟩), .pointer (some ⟨sb, 0, none⟩), .pointer (some ⟨sb, 0, none⟩), .pointer (some ⟨sb, 0, none⟩), .pointer (some ⟨sb, 34, none⟩), .slice (some ⟨tb, tp, none⟩) tn tc, .int .i64 (k : Int), .pointer (some ⟨tb, tp + k, none⟩), .string x, .pointer (some ⟨cb, 2, none⟩), .slice y.a y.n y.c, .pointer (some ⟨sb, 0, none⟩), .pointer (some ⟨sb, 60, none⟩), .pointer (some ⟨sb, 0, none⟩), .pointer (some ⟨sb, 61, none⟩), x41, x42, x43, x44, x45, x46, x47, x48, x49, x50, x51, x52, x53, x54, x55, x56, x57, x58, x59, x60, x61, x62, x63, x64, x65, x66, x67, x68, x69, x70, x71, x72, x73, x74, x75, x76, x77, x78], []⟩ : Act) u := by
  refine wpAnyH_one (i := 17) (by kernel_rfl) ?_
  have hc : (execOp (⟨#[.pointer (some ⟨sb, 0, none⟩), x1, x2, x3, x4, .pointer (some ⟨cb, 0, none⟩), x6, .int .i64 (k : Int), x8, x9, x10, x11, x12, x13, x14, x15, x16, x17, x18, x19, x20, x21, x22, x23, x24, .pointer (some ⟨sb, 0, none⟩), .pointer (some ⟨sb, 0, none⟩), .pointer (some ⟨sb, 0, none⟩), .pointer (some ⟨sb, 0, none⟩), .pointer (some ⟨sb, 0, none⟩), .pointer (some ⟨sb, 34, none⟩), .slice (some ⟨tb, tp, none⟩) tn tc, .int .i64 (k : Int), .pointer (some ⟨tb, tp + k, none⟩), .string x, .pointer (some ⟨cb, 2, none⟩), .slice y.a y.n y.c, .pointer (some ⟨sb, 0, none⟩), .pointer (some ⟨sb, 60, none⟩), .pointer (some ⟨sb, 0, none⟩), .pointer (some ⟨sb, 61, none⟩), x41, x42, x43, x44, x45, x46, x47, x48, x49, x50, x51, x52, x53, x54, x55, x56, x57, x58, x59, x60, x61, x62, x63, x64, x65, x66, x67, x68, x69, x70, x71, x72, x73, x74, x75, x76, x77, x78], []⟩ : Act).eval (((RofN Try.f30 7)[17]?).getD default)).run Try.prog u = .ok .skip (u.setCell ⟨sb, 61, none⟩ (.slice y.a y.n y.c)) := (by obtain ⟨z, p61⟩ := p61; exact st24 (.tmp 40) (.tmp 36) sb 61 y z (by kernel_rfl) (by kernel_rfl) (by kernel_rfl) p61 (bb.free 61))
  refine wpOp_skip none (by kernel_rfl) (by kernel_rfl) (by kernel_rfl) hc ?_
  clear hc
  have hS1 : (fun u => u.cell? ⟨sb, 34, none⟩ = some (.slice (some ⟨tb, tp, none⟩) tn tc) ∧ u.cell? ⟨tb, tp + k, none⟩ = some (.string x) ∧ u.cell? ⟨cb, 2, none⟩ = some (.slice y.a y.n y.c)) (u.setCell ⟨sb, 61, none⟩ (.slice y.a y.n y.c)) := ⟨set_cell_ne hS.1 (by decide), cell_setCell_other hS.2.1 htb, cell_setCell_other hS.2.2 hcb⟩
  refine ⟨hS1, ?_⟩
  have e1 : (⟨#[.pointer (some ⟨sb, 0, none⟩), x1, x2, x3, x4, .pointer (some ⟨cb, 0, none⟩), x6, .int .i64 (k : Int), x8, x9, x10, x11, x12, x13, x14, x15, x16, x17, x18, x19, x20, x21, x22, x23, x24, .pointer (some ⟨sb, 0, none⟩), .pointer (some ⟨sb, 0, none⟩), .pointer (some ⟨sb, 0, none⟩), .pointer (some ⟨sb, 0, none⟩), .pointer (some ⟨sb, 0, none⟩), .pointer (some ⟨sb, 34, none⟩), .slice (some ⟨tb, tp, none⟩) tn tc, .int .i64 (k : Int), .pointer (some ⟨tb, tp + k, none⟩), .string x, .pointer (some ⟨cb, 2, none⟩), .slice y.a y.n y.c, .pointer (some ⟨sb, 0, none⟩), .pointer (some ⟨sb, 60, none⟩), .pointer (some ⟨sb, 0, none⟩), .pointer (some ⟨sb, 61, none⟩), x41, x42, x43, x44, x45, x46, x47, x48, x49, x50, x51, x52, x53, x54, x55, x56, x57, x58, x59, x60, x61, x62, x63, x64, x65, x66, x67, x68, x69, x70, x71, x72, x73, x74, x75, x76, x77, x78], []⟩ : Act).put none undef = (⟨#[.pointer (some ⟨sb, 0, none⟩), x1, x2, x3, x4, .pointer (some ⟨cb, 0, none⟩), x6, .int .i64 (k : Int), x8, x9, x10, x11, x12, x13, x14, x15, x16, x17, x18, x19, x20, x21, x22, x23, x24, .pointer (some ⟨sb, 0, none⟩), .pointer (some ⟨sb, 0, none⟩), .pointer (some ⟨sb, 0, none⟩), .pointer (some ⟨sb, 0, none⟩), .pointer (some ⟨sb, 0, none⟩), .pointer (some ⟨sb, 34, none⟩), .slice (some ⟨tb, tp, none⟩) tn tc, .int .i64 (k : Int), .pointer (some ⟨tb, tp + k, none⟩), .string x, .pointer (some ⟨cb, 2, none⟩), .slice y.a y.n y.c, .pointer (some ⟨sb, 0, none⟩), .pointer (some ⟨sb, 60, none⟩), .pointer (some ⟨sb, 0, none⟩), .pointer (some ⟨sb, 61, none⟩), x41, x42, x43, x44, x45, x46, x47, x48, x49, x50, x51, x52, x53, x54, x55, x56, x57, x58, x59, x60, x61, x62, x63, x64, x65, x66, x67, x68, x69, x70, x71, x72, x73, x74, x75, x76, x77, x78], []⟩ : Act) := by kernel_rfl
  have l1 : (#[true, true, true, true, true, true, true, true, true, true, true, true, true, true, true, true, true, false] : Array Bool).setIfInBounds 17 true = (#[true, true, true, true, true, true, true, true, true, true, true, true, true, true, true, true, true, true] : Array Bool) := by kernel_rfl
  rw [e1, l1]
  clear e1 l1
  exact tc7_14_17 sb cb tb tp tn tc k x y S  w R hQ hk htb hcb h60 h (u.setCell ⟨sb, 61, none⟩ (.slice y.a y.n y.c)) hS1 (kk.setCell sb 61 _ (.inl rfl)) (bb.set 61 (.inr rfl) _) (set_cell_ne q60 (by decide)) (set_cell_eq bb (by decide))
set_option maxHeartbeats 16000000 in
theorem tc7_o (sb cb tb tp tn tc k : Nat) (x : ByteArray) (y : Sv) (S : Sh)  {x1 x2 x3 x4 x6 x8 x9 x10 x11 x12 x13 x14 x15 x16 x17 x18 x19 x20 x21 x22 x23 x24 x39 x40 x41 x42 x43 x44 x45 x46 x47 x48 x49 x50 x51 x52 x53 x54 x55 x56 x57 x58 x59 x60 x61 x62 x63 x64 x65 x66 x67 x68 x69 x70 x71 x72 x73 x74 x75 x76 x77 x78 : Value} (w : World) (R : Exit → Act → World → Prop) (hQ : ∀ c a d v w, R (.panic c) (a.put d v) w → R (.panic c) a w) (hk : k < tn) (htb : tb ≠ sb) (hcb : cb ≠ sb) (h60 : ShAt w.drew sb S)
    (h : ∀ (u : World), Keep (fun b => b = sb) w u → ShAt u sb { S with proto := x, peer := y } → R .normal (⟨#[.pointer (some ⟨sb, 0, none⟩), x1, x2, x3, x4, .pointer (some ⟨cb, 0, none⟩), x6, .int .i64 (k : Int), x8, x9, x10, x11, x12, x13, x14, x15, x16, x17, x18, x19, x20, x21, x22, x23, x24, .pointer (some ⟨sb, 0, none⟩), .pointer (some ⟨sb, 0, none⟩), .pointer (some ⟨sb, 0, none⟩), .pointer (some ⟨sb, 0, none⟩), .pointer (some ⟨sb, 0, none⟩), .pointer (some ⟨sb, 34, none⟩), .slice (some ⟨tb, tp, none⟩) tn tc, .int .i64 (k : Int), .pointer (some ⟨tb, tp + k, none⟩), .string x, .pointer (some ⟨cb, 2, none⟩), .slice y.a y.n y.c, .pointer (some ⟨sb, 0, none⟩), .pointer (some ⟨sb, 60, none⟩), .pointer (some ⟨sb, 0, none⟩), .pointer (some ⟨sb, 61, none⟩), x41, x42, x43, x44, x45, x46, x47, x48, x49, x50, x51, x52, x53, x54, x55, x56, x57, x58, x59, x60, x61, x62, x63, x64, x65, x66, x67, x68, x69, x70, x71, x72, x73, x74, x75, x76, x77, x78], []⟩ : Act) u) (u : World) (hS : (fun u => u.cell? ⟨sb, 34, none⟩ = some (.slice (some ⟨tb, tp, none⟩) tn tc) ∧ u.cell? ⟨tb, tp + k, none⟩ = some (.string x) ∧ u.cell? ⟨cb, 2, none⟩ = some (.slice y.a y.n y.c)) u) (kk : Keep (fun b => b = sb) w u) (bb : B60 u sb S) (p60 : ∃ z, u.cell? ⟨sb, 60, none⟩ = some (.string z)) (p61 : ∃ z : Sv, u.cell? ⟨sb, 61, none⟩ = some (.slice z.a z.n z.c)) :
    wpAnyH Try.prog .any (RofN Try.f30 7) R (fun u => u.cell? ⟨sb, 34, none⟩ = some (.slice (some ⟨tb, tp, none⟩) tn tc) ∧ u.cell? ⟨tb, tp + k, none⟩ = some (.string x) ∧ u.cell? ⟨cb, 2, none⟩ = some (.slice y.a y.n y.c)) 4 (#[true, true, true, true, true, true, true, true, true, true, true, true, true, true, false, false, false, false] : Array Bool) (⟨#[.pointer (some ⟨sb, 0, none⟩), x1, x2, x3, x4, .pointer (some ⟨cb, 0, none⟩), x6, .int .i64 (k : Int), x8, x9, x10, x11, x12, x13, x14, x15, x16, x17, x18, x19, x20, x21, x22, x23, x24, .pointer (some ⟨sb, 0, none⟩), .pointer (some ⟨sb, 0, none⟩), .pointer (some ⟨sb, 0, none⟩), .pointer (some ⟨sb, 0, none⟩), .pointer (some ⟨sb, 0, none⟩), .pointer (some ⟨sb, 34, none⟩), .slice (some ⟨tb, tp, none⟩) tn tc, .int .i64 (k : Int), .pointer (some ⟨tb, tp + k, none⟩), .string x, .pointer (some ⟨cb, 2, none⟩), .slice y.a y.n y.c, .pointer (some ⟨sb, 0, none⟩), .pointer (some ⟨sb, 60, none⟩), x39, x40, x41, x42, x43, x44, x45, x46, x47, x48, x49, x50, x51, x52, x53, x54, x55, x56, x57, x58, x59, x60, x61, x62, x63, x64, x65, x66, x67, x68, x69, x70, x71, x72, x73, x74, x75, x76, x77, x78], []⟩ : Act) u := by
  refine wpAnyH_one (i := 14) (by kernel_rfl) ?_
  have hc : (execOp (⟨#[.pointer (some ⟨sb, 0, none⟩), x1, x2, x3, x4, .pointer (some ⟨cb, 0, none⟩), x6, .int .i64 (k : Int), x8, x9, x10, x11, x12, x13, x14, x15, x16, x17, x18, x19, x20, x21, x22, x23, x24, .pointer (some ⟨sb, 0, none⟩), .pointer (some ⟨sb, 0, none⟩), .pointer (some ⟨sb, 0, none⟩), .pointer (some ⟨sb, 0, none⟩), .pointer (some ⟨sb, 0, none⟩), .pointer (some ⟨sb, 34, none⟩), .slice (some ⟨tb, tp, none⟩) tn tc, .int .i64 (k : Int), .pointer (some ⟨tb, tp + k, none⟩), .string x, .pointer (some ⟨cb, 2, none⟩), .slice y.a y.n y.c, .pointer (some ⟨sb, 0, none⟩), .pointer (some ⟨sb, 60, none⟩), x39, x40, x41, x42, x43, x44, x45, x46, x47, x48, x49, x50, x51, x52, x53, x54, x55, x56, x57, x58, x59, x60, x61, x62, x63, x64, x65, x66, x67, x68, x69, x70, x71, x72, x73, x74, x75, x76, x77, x78], []⟩ : Act).eval (((RofN Try.f30 7)[14]?).getD default)).run Try.prog u = .ok .skip (u.setCell ⟨sb, 60, none⟩ (.string x)) := (by obtain ⟨z, p60⟩ := p60; exact st9 (.tmp 38) (.tmp 34) sb 60 x z (by kernel_rfl) (by kernel_rfl) (by kernel_rfl) p60 (bb.free 60))
  refine wpOp_skip none (by kernel_rfl) (by kernel_rfl) (by kernel_rfl) hc ?_
  clear hc
  have hS1 : (fun u => u.cell? ⟨sb, 34, none⟩ = some (.slice (some ⟨tb, tp, none⟩) tn tc) ∧ u.cell? ⟨tb, tp + k, none⟩ = some (.string x) ∧ u.cell? ⟨cb, 2, none⟩ = some (.slice y.a y.n y.c)) (u.setCell ⟨sb, 60, none⟩ (.string x)) := ⟨set_cell_ne hS.1 (by decide), cell_setCell_other hS.2.1 htb, cell_setCell_other hS.2.2 hcb⟩
  refine ⟨hS1, ?_⟩
  have e1 : (⟨#[.pointer (some ⟨sb, 0, none⟩), x1, x2, x3, x4, .pointer (some ⟨cb, 0, none⟩), x6, .int .i64 (k : Int), x8, x9, x10, x11, x12, x13, x14, x15, x16, x17, x18, x19, x20, x21, x22, x23, x24, .pointer (some ⟨sb, 0, none⟩), .pointer (some ⟨sb, 0, none⟩), .pointer (some ⟨sb, 0, none⟩), .pointer (some ⟨sb, 0, none⟩), .pointer (some ⟨sb, 0, none⟩), .pointer (some ⟨sb, 34, none⟩), .slice (some ⟨tb, tp, none⟩) tn tc, .int .i64 (k : Int), .pointer (some ⟨tb, tp + k, none⟩), .string x, .pointer (some ⟨cb, 2, none⟩), .slice y.a y.n y.c, .pointer (some ⟨sb, 0, none⟩), .pointer (some ⟨sb, 60, none⟩), x39, x40, x41, x42, x43, x44, x45, x46, x47, x48, x49, x50, x51, x52, x53, x54, x55, x56, x57, x58, x59, x60, x61, x62, x63, x64, x65, x66, x67, x68, x69, x70, x71, x72, x73, x74, x75, x76, x77, x78], []⟩ : Act).put none undef = (⟨#[.pointer (some ⟨sb, 0, none⟩), x1, x2, x3, x4, .pointer (some ⟨cb, 0, none⟩), x6, .int .i64 (k : Int), x8, x9, x10, x11, x12, x13, x14, x15, x16, x17, x18, x19, x20, x21, x22, x23, x24, .pointer (some ⟨sb, 0, none⟩), .pointer (some ⟨sb, 0, none⟩), .pointer (some ⟨sb, 0, none⟩), .pointer (some ⟨sb, 0, none⟩), .pointer (some ⟨sb, 0, none⟩), .pointer (some ⟨sb, 34, none⟩), .slice (some ⟨tb, tp, none⟩) tn tc, .int .i64 (k : Int), .pointer (some ⟨tb, tp + k, none⟩), .string x, .pointer (some ⟨cb, 2, none⟩), .slice y.a y.n y.c, .pointer (some ⟨sb, 0, none⟩), .pointer (some ⟨sb, 60, none⟩), x39, x40, x41, x42, x43, x44, x45, x46, x47, x48, x49, x50, x51, x52, x53, x54, x55, x56, x57, x58, x59, x60, x61, x62, x63, x64, x65, x66, x67, x68, x69, x70, x71, x72, x73, x74, x75, x76, x77, x78], []⟩ : Act) := by kernel_rfl
  have l1 : (#[true, true, true, true, true, true, true, true, true, true, true, true, true, true, false, false, false, false] : Array Bool).setIfInBounds 14 true = (#[true, true, true, true, true, true, true, true, true, true, true, true, true, true, true, false, false, false] : Array Bool) := by kernel_rfl
  rw [e1, l1]
  clear e1 l1
  refine chn_take (by kernel_rfl) hQ hS1 1 (tc7g1z sb cb tb tp tn tc k x y S ) _ _ (tc7g1 sb cb tb tp tn tc k x y S  w hk htb hcb h60) ?_
  have e0 : putL (RofN Try.f30 7) (tc7g1z sb cb tb tp tn tc k x y S ) (⟨#[.pointer (some ⟨sb, 0, none⟩), x1, x2, x3, x4, .pointer (some ⟨cb, 0, none⟩), x6, .int .i64 (k : Int), x8, x9, x10, x11, x12, x13, x14, x15, x16, x17, x18, x19, x20, x21, x22, x23, x24, .pointer (some ⟨sb, 0, none⟩), .pointer (some ⟨sb, 0, none⟩), .pointer (some ⟨sb, 0, none⟩), .pointer (some ⟨sb, 0, none⟩), .pointer (some ⟨sb, 0, none⟩), .pointer (some ⟨sb, 34, none⟩), .slice (some ⟨tb, tp, none⟩) tn tc, .int .i64 (k : Int), .pointer (some ⟨tb, tp + k, none⟩), .string x, .pointer (some ⟨cb, 2, none⟩), .slice y.a y.n y.c, .pointer (some ⟨sb, 0, none⟩), .pointer (some ⟨sb, 60, none⟩), x39, x40, x41, x42, x43, x44, x45, x46, x47, x48, x49, x50, x51, x52, x53, x54, x55, x56, x57, x58, x59, x60, x61, x62, x63, x64, x65, x66, x67, x68, x69, x70, x71, x72, x73, x74, x75, x76, x77, x78], []⟩ : Act) = (⟨#[.pointer (some ⟨sb, 0, none⟩), x1, x2, x3, x4, .pointer (some ⟨cb, 0, none⟩), x6, .int .i64 (k : Int), x8, x9, x10, x11, x12, x13, x14, x15, x16, x17, x18, x19, x20, x21, x22, x23, x24, .pointer (some ⟨sb, 0, none⟩), .pointer (some ⟨sb, 0, none⟩), .pointer (some ⟨sb, 0, none⟩), .pointer (some ⟨sb, 0, none⟩), .pointer (some ⟨sb, 0, none⟩), .pointer (some ⟨sb, 34, none⟩), .slice (some ⟨tb, tp, none⟩) tn tc, .int .i64 (k : Int), .pointer (some ⟨tb, tp + k, none⟩), .string x, .pointer (some ⟨cb, 2, none⟩), .slice y.a y.n y.c, .pointer (some ⟨sb, 0, none⟩), .pointer (some ⟨sb, 60, none⟩), .pointer (some ⟨sb, 0, none⟩), .pointer (some ⟨sb, 61, none⟩), x41, x42, x43, x44, x45, x46, x47, x48, x49, x50, x51, x52, x53, x54, x55, x56, x57, x58, x59, x60, x61, x62, x63, x64, x65, x66, x67, x68, x69, x70, x71, x72, x73, x74, x75, x76, x77, x78], []⟩ : Act) := by kernel_rfl
  have l0 : setL (tc7g1z sb cb tb tp tn tc k x y S ) (#[true, true, true, true, true, true, true, true, true, true, true, true, true, true, true, false, false, false] : Array Bool) = (#[true, true, true, true, true, true, true, true, true, true, true, true, true, true, true, true, true, false] : Array Bool) := by kernel_rfl
  rw [e0, l0]
  clear e0 l0
  exact tc7_14 sb cb tb tp tn tc k x y S  w R hQ hk htb hcb h60 h (u.setCell ⟨sb, 60, none⟩ (.string x)) hS1 (kk.setCell sb 60 _ (.inl rfl)) (bb.set 60 (.inl rfl) _) (by obtain ⟨z, p61⟩ := p61; exact ⟨z, set_cell_ne p61 (by decide)⟩) (set_cell_eq bb (by decide))
set_option maxHeartbeats 16000000 in
theorem tc7 (sb cb tb tp tn tc k : Nat) (x : ByteArray) (y : Sv) (S : Sh) {x1 x2 x3 x4 x6 x8 x9 x10 x11 x12 x13 x14 x15 x16 x17 x18 x19 x20 x21 x22 x23 x24 x25 x26 x27 x28 x29 x30 x31 x32 x33 x34 x35 x36 x37 x38 x39 x40 x41 x42 x43 x44 x45 x46 x47 x48 x49 x50 x51 x52 x53 x54 x55 x56 x57 x58 x59 x60 x61 x62 x63 x64 x65 x66 x67 x68 x69 x70 x71 x72 x73 x74 x75 x76 x77 x78 : Value} (w : World) (R : Exit → Act → World → Prop) (hQ : ∀ c a d v w, R (.panic c) (a.put d v) w → R (.panic c) a w) (hk : k < tn) (htb : tb ≠ sb) (hcb : cb ≠ sb) (h60 : ShAt w.drew sb S) (hS : (fun u => u.cell? ⟨sb, 34, none⟩ = some (.slice (some ⟨tb, tp, none⟩) tn tc) ∧ u.cell? ⟨tb, tp + k, none⟩ = some (.string x) ∧ u.cell? ⟨cb, 2, none⟩ = some (.slice y.a y.n y.c)) w)
    (h : ∀ (u : World), Keep (fun b => b = sb) w u → ShAt u sb { S with proto := x, peer := y } → R .normal (⟨#[.pointer (some ⟨sb, 0, none⟩), x1, x2, x3, x4, .pointer (some ⟨cb, 0, none⟩), x6, .int .i64 (k : Int), x8, x9, x10, x11, x12, x13, x14, x15, x16, x17, x18, x19, x20, x21, x22, x23, x24, .pointer (some ⟨sb, 0, none⟩), .pointer (some ⟨sb, 0, none⟩), .pointer (some ⟨sb, 0, none⟩), .pointer (some ⟨sb, 0, none⟩), .pointer (some ⟨sb, 0, none⟩), .pointer (some ⟨sb, 34, none⟩), .slice (some ⟨tb, tp, none⟩) tn tc, .int .i64 (k : Int), .pointer (some ⟨tb, tp + k, none⟩), .string x, .pointer (some ⟨cb, 2, none⟩), .slice y.a y.n y.c, .pointer (some ⟨sb, 0, none⟩), .pointer (some ⟨sb, 60, none⟩), .pointer (some ⟨sb, 0, none⟩), .pointer (some ⟨sb, 61, none⟩), x41, x42, x43, x44, x45, x46, x47, x48, x49, x50, x51, x52, x53, x54, x55, x56, x57, x58, x59, x60, x61, x62, x63, x64, x65, x66, x67, x68, x69, x70, x71, x72, x73, x74, x75, x76, x77, x78], []⟩ : Act) u) :
    (Code.region 7 (RofN Try.f30 7) true).wp Try.prog R (⟨#[.pointer (some ⟨sb, 0, none⟩), x1, x2, x3, x4, .pointer (some ⟨cb, 0, none⟩), x6, .int .i64 (k : Int), x8, x9, x10, x11, x12, x13, x14, x15, x16, x17, x18, x19, x20, x21, x22, x23, x24, x25, x26, x27, x28, x29, x30, x31, x32, x33, x34, x35, x36, x37, x38, x39, x40, x41, x42, x43, x44, x45, x46, x47, x48, x49, x50, x51, x52, x53, x54, x55, x56, x57, x58, x59, x60, x61, x62, x63, x64, x65, x66, x67, x68, x69, x70, x71, x72, x73, x74, x75, x76, x77, x78], []⟩ : Act) w := by
  refine wp_region_held (S := (fun u => u.cell? ⟨sb, 34, none⟩ = some (.slice (some ⟨tb, tp, none⟩) tn tc) ∧ u.cell? ⟨tb, tp + k, none⟩ = some (.string x) ∧ u.cell? ⟨cb, 2, none⟩ = some (.slice y.a y.n y.c))) (by kernel_rfl) ?_
  have hsz : (RofN Try.f30 7).size = 18 := by kernel_rfl
  rw [hsz]
  have hS0 : (fun u => u.cell? ⟨sb, 34, none⟩ = some (.slice (some ⟨tb, tp, none⟩) tn tc) ∧ u.cell? ⟨tb, tp + k, none⟩ = some (.string x) ∧ u.cell? ⟨cb, 2, none⟩ = some (.slice y.a y.n y.c)) w.drew := tc7_q hS ((Keep.refl (fun _ => False) w).drew)
  refine chn_take (by kernel_rfl) hQ hS0 4 (tc7g0z sb cb tb tp tn tc k x y S ) _ _ (tc7g0 sb cb tb tp tn tc k x y S  w hk htb hcb h60) ?_
  have e0 : putL (RofN Try.f30 7) (tc7g0z sb cb tb tp tn tc k x y S ) (⟨#[.pointer (some ⟨sb, 0, none⟩), x1, x2, x3, x4, .pointer (some ⟨cb, 0, none⟩), x6, .int .i64 (k : Int), x8, x9, x10, x11, x12, x13, x14, x15, x16, x17, x18, x19, x20, x21, x22, x23, x24, x25, x26, x27, x28, x29, x30, x31, x32, x33, x34, x35, x36, x37, x38, x39, x40, x41, x42, x43, x44, x45, x46, x47, x48, x49, x50, x51, x52, x53, x54, x55, x56, x57, x58, x59, x60, x61, x62, x63, x64, x65, x66, x67, x68, x69, x70, x71, x72, x73, x74, x75, x76, x77, x78], []⟩ : Act) = (⟨#[.pointer (some ⟨sb, 0, none⟩), x1, x2, x3, x4, .pointer (some ⟨cb, 0, none⟩), x6, .int .i64 (k : Int), x8, x9, x10, x11, x12, x13, x14, x15, x16, x17, x18, x19, x20, x21, x22, x23, x24, .pointer (some ⟨sb, 0, none⟩), .pointer (some ⟨sb, 0, none⟩), .pointer (some ⟨sb, 0, none⟩), .pointer (some ⟨sb, 0, none⟩), .pointer (some ⟨sb, 0, none⟩), .pointer (some ⟨sb, 34, none⟩), .slice (some ⟨tb, tp, none⟩) tn tc, .int .i64 (k : Int), .pointer (some ⟨tb, tp + k, none⟩), .string x, .pointer (some ⟨cb, 2, none⟩), .slice y.a y.n y.c, .pointer (some ⟨sb, 0, none⟩), .pointer (some ⟨sb, 60, none⟩), x39, x40, x41, x42, x43, x44, x45, x46, x47, x48, x49, x50, x51, x52, x53, x54, x55, x56, x57, x58, x59, x60, x61, x62, x63, x64, x65, x66, x67, x68, x69, x70, x71, x72, x73, x74, x75, x76, x77, x78], []⟩ : Act) := by kernel_rfl
  have l0 : setL (tc7g0z sb cb tb tp tn tc k x y S ) (Array.replicate 18 false) = (#[true, true, true, true, true, true, true, true, true, true, true, true, true, true, false, false, false, false] : Array Bool) := by kernel_rfl
  rw [e0, l0]
  clear e0 l0
  exact tc7_o sb cb tb tp tn tc k x y S w R hQ hk htb hcb h60 h _ hS0 ((Keep.refl _ w).drew) (⟨S.cells, h60.row, S.len h60.own h60.root, fun _ _ _ => rfl⟩) (⟨_, h60.proto⟩) (⟨_, h60.peer⟩)
def KU (u v : World) : Prop := True
theorem tc11_q {u v : World} (h : (fun _ : World => True) u) (q : KU u v) : (fun _ : World => True) v := trivial
def tc11g0z (sb : Nat) (x : ByteArray) (p : Sv)  : List (Nat × Value) := [(0, .pointer (some ⟨sb, 0, none⟩)), (1, .pointer (some ⟨sb, 0, none⟩)), (5, .pointer (some ⟨sb, 0, none⟩)), (2, .pointer (some ⟨sb, 0, none⟩)), (6, .pointer (some ⟨sb, 0, none⟩)), (3, .pointer (some ⟨sb, 60, none⟩)), (7, .pointer (some ⟨sb, 0, none⟩)), (8, .pointer (some ⟨sb, 35, none⟩))]
set_option maxHeartbeats 8000000 in
theorem tc11g0 (sb : Nat) (x : ByteArray) (p : Sv)  {x1 x2 x3 x4 x5 x6 x7 x8 x9 x10 x11 x12 x13 x14 x15 x16 x17 x18 x19 x20 x21 x22 x23 x24 x25 x26 x27 x28 x29 x30 x31 x32 x33 x34 x35 x36 x37 x38 x39 x40 x41 x42 x43 x44 x45 x46 x47 x48 x49 x50 x51 x52 x53 x54 x55 x56 x57 x58 x59 x60 x61 x62 x63 x64 x65 x66 x67 x68 x69 x70 x71 x72 x73 x74 x75 x76 x77 x78 : Value} (w : World) (c60 : w.drew.cell? ⟨sb, 60, none⟩ = some (.string x)) (c35 : w.drew.cell? ⟨sb, 35, none⟩ = some (.slice p.a p.n p.c)) (Y : Sv → World → Prop) (Z : World → Prop)
    (H48 : ∀ u, u = w.drew → Calls Try.prog 48 #[.string x, .slice p.a p.n p.c] u fun e v => ∃ m : Sv, e = .returned (.slice m.a m.n m.c) ∧ Y m v) (H25 : ∀ u m, Y m u → Calls Try.prog 25 #[.pointer (some ⟨sb, 0, none⟩), .int .i64 1, .slice m.a m.n m.c] u fun e v => e = .returned (.tuple #[]) ∧ Z v) : Chn Try.prog (RofN Try.f30 11) (fun _ => True) (tc11g0z sb x p ) (#[false, false, false, false, false, false, false, false, false, false, false, false] : Array Bool) (⟨#[.pointer (some ⟨sb, 0, none⟩), x1, x2, x3, x4, x5, x6, x7, x8, x9, x10, x11, x12, x13, x14, x15, x16, x17, x18, x19, x20, x21, x22, x23, x24, x25, x26, x27, x28, x29, x30, x31, x32, x33, x34, x35, x36, x37, x38, x39, x40, x41, x42, x43, x44, x45, x46, x47, x48, x49, x50, x51, x52, x53, x54, x55, x56, x57, x58, x59, x60, x61, x62, x63, x64, x65, x66, x67, x68, x69, x70, x71, x72, x73, x74, x75, x76, x77, x78], []⟩ : Act) :=
  ⟨⟨by kernel_rfl, by kernel_rfl, by kernel_rfl, by kernel_rfl, fun u h => by kernel_rfl⟩,
    ⟨by kernel_rfl, by kernel_rfl, by kernel_rfl, by kernel_rfl, fun u h => by kernel_rfl⟩,
    ⟨by kernel_rfl, by kernel_rfl, by kernel_rfl, by kernel_rfl, fun u h => by kernel_rfl⟩,
    ⟨by kernel_rfl, by kernel_rfl, by kernel_rfl, by kernel_rfl, fun u h => by kernel_rfl⟩,
    ⟨by kernel_rfl, by kernel_rfl, by kernel_rfl, by kernel_rfl, fun u h => by kernel_rfl⟩,
    ⟨by kernel_rfl, by kernel_rfl, by kernel_rfl, by kernel_rfl, fun u h => by kernel_rfl⟩,
    ⟨by kernel_rfl, by kernel_rfl, by kernel_rfl, by kernel_rfl, fun u h => by kernel_rfl⟩,
    ⟨by kernel_rfl, by kernel_rfl, by kernel_rfl, by kernel_rfl, fun u h => by kernel_rfl⟩,
    trivial⟩
set_option maxHeartbeats 16000000 in
theorem tc11_4_9_10_11 (sb : Nat) (x : ByteArray) (p : Sv)   (ma : Option Addr) (mn mc : Nat)  {x1 x2 x3 x4 x5 x6 x7 x8 x9 x10 x11 x12 x13 x14 x15 x16 x17 x18 x19 x20 x21 x22 x23 x24 x25 x26 x27 x28 x29 x30 x31 x32 x33 x34 x35 x36 x37 x38 x39 x40 x41 x42 x43 x44 x45 x46 x47 x48 x49 x50 x51 x52 x53 x54 x67 x68 x69 x70 x71 x72 x73 x74 x75 x76 x77 x78 : Value} (w : World) (R : Exit → Act → World → Prop) (hQ : ∀ c a d v w, R (.panic c) (a.put d v) w → R (.panic c) a w) (c60 : w.drew.cell? ⟨sb, 60, none⟩ = some (.string x)) (c35 : w.drew.cell? ⟨sb, 35, none⟩ = some (.slice p.a p.n p.c)) (Y : Sv → World → Prop) (Z : World → Prop)
    (H48 : ∀ u, u = w.drew → Calls Try.prog 48 #[.string x, .slice p.a p.n p.c] u fun e v => ∃ m : Sv, e = .returned (.slice m.a m.n m.c) ∧ Y m v) (H25 : ∀ u m, Y m u → Calls Try.prog 25 #[.pointer (some ⟨sb, 0, none⟩), .int .i64 1, .slice m.a m.n m.c] u fun e v => e = .returned (.tuple #[]) ∧ Z v)
    (h : ∀ (ma : Option Addr) (mn mc : Nat) (u : World), Z u → R .normal (⟨#[.pointer (some ⟨sb, 0, none⟩), x1, x2, x3, x4, x5, x6, x7, x8, x9, x10, x11, x12, x13, x14, x15, x16, x17, x18, x19, x20, x21, x22, x23, x24, x25, x26, x27, x28, x29, x30, x31, x32, x33, x34, x35, x36, x37, x38, x39, x40, x41, x42, x43, x44, x45, x46, x47, x48, x49, x50, x51, x52, x53, x54, .pointer (some ⟨sb, 0, none⟩), .pointer (some ⟨sb, 0, none⟩), .pointer (some ⟨sb, 0, none⟩), .pointer (some ⟨sb, 60, none⟩), .string x, .pointer (some ⟨sb, 0, none⟩), .pointer (some ⟨sb, 0, none⟩), .pointer (some ⟨sb, 0, none⟩), .pointer (some ⟨sb, 35, none⟩), .slice p.a p.n p.c, .slice ma mn mc, .tuple #[], x67, x68, x69, x70, x71, x72, x73, x74, x75, x76, x77, x78], []⟩ : Act) u) (u : World) (hS : (fun _ => True) u) (z66 : Z u) :
    wpAnyH Try.prog .any (RofN Try.f30 11) R (fun _ => True) 0 (#[true, true, true, true, true, true, true, true, true, true, true, true] : Array Bool) (⟨#[.pointer (some ⟨sb, 0, none⟩), x1, x2, x3, x4, x5, x6, x7, x8, x9, x10, x11, x12, x13, x14, x15, x16, x17, x18, x19, x20, x21, x22, x23, x24, x25, x26, x27, x28, x29, x30, x31, x32, x33, x34, x35, x36, x37, x38, x39, x40, x41, x42, x43, x44, x45, x46, x47, x48, x49, x50, x51, x52, x53, x54, .pointer (some ⟨sb, 0, none⟩), .pointer (some ⟨sb, 0, none⟩), .pointer (some ⟨sb, 0, none⟩), .pointer (some ⟨sb, 60, none⟩), .string x, .pointer (some ⟨sb, 0, none⟩), .pointer (some ⟨sb, 0, none⟩), .pointer (some ⟨sb, 0, none⟩), .pointer (some ⟨sb, 35, none⟩), .slice p.a p.n p.c, .slice ma mn mc, .tuple #[], x67, x68, x69, x70, x71, x72, x73, x74, x75, x76, x77, x78], []⟩ : Act) u := by
  refine wpAnyH_done (by kernel_rfl) ?_ _
  exact h ma mn mc u z66
set_option maxHeartbeats 16000000 in
theorem tc11_4_9_10 (sb : Nat) (x : ByteArray) (p : Sv)   (ma : Option Addr) (mn mc : Nat) {x1 x2 x3 x4 x5 x6 x7 x8 x9 x10 x11 x12 x13 x14 x15 x16 x17 x18 x19 x20 x21 x22 x23 x24 x25 x26 x27 x28 x29 x30 x31 x32 x33 x34 x35 x36 x37 x38 x39 x40 x41 x42 x43 x44 x45 x46 x47 x48 x49 x50 x51 x52 x53 x54 x66 x67 x68 x69 x70 x71 x72 x73 x74 x75 x76 x77 x78 : Value} (w : World) (R : Exit → Act → World → Prop) (hQ : ∀ c a d v w, R (.panic c) (a.put d v) w → R (.panic c) a w) (c60 : w.drew.cell? ⟨sb, 60, none⟩ = some (.string x)) (c35 : w.drew.cell? ⟨sb, 35, none⟩ = some (.slice p.a p.n p.c)) (Y : Sv → World → Prop) (Z : World → Prop)
    (H48 : ∀ u, u = w.drew → Calls Try.prog 48 #[.string x, .slice p.a p.n p.c] u fun e v => ∃ m : Sv, e = .returned (.slice m.a m.n m.c) ∧ Y m v) (H25 : ∀ u m, Y m u → Calls Try.prog 25 #[.pointer (some ⟨sb, 0, none⟩), .int .i64 1, .slice m.a m.n m.c] u fun e v => e = .returned (.tuple #[]) ∧ Z v)
    (h : ∀ (ma : Option Addr) (mn mc : Nat) (u : World), Z u → R .normal (⟨#[.pointer (some ⟨sb, 0, none⟩), x1, x2, x3, x4, x5, x6, x7, x8, x9, x10, x11, x12, x13, x14, x15, x16, x17, x18, x19, x20, x21, x22, x23, x24, x25, x26, x27, x28, x29, x30, x31, x32, x33, x34, x35, x36, x37, x38, x39, x40, x41, x42, x43, x44, x45, x46, x47, x48, x49, x50, x51, x52, x53, x54, .pointer (some ⟨sb, 0, none⟩), .pointer (some ⟨sb, 0, none⟩), .pointer (some ⟨sb, 0, none⟩), .pointer (some ⟨sb, 60, none⟩), .string x, .pointer (some ⟨sb, 0, none⟩), .pointer (some ⟨sb, 0, none⟩), .pointer (some ⟨sb, 0, none⟩), .pointer (some ⟨sb, 35, none⟩), .slice p.a p.n p.c, .slice ma mn mc, .tuple #[], x67, x68, x69, x70, x71, x72, x73, x74, x75, x76, x77, x78], []⟩ : Act) u) (u : World) (hS : (fun _ => True) u) (y65 : Y ⟨ma, mn, mc⟩ u) :
    wpAnyH Try.prog .any (RofN Try.f30 11) R (fun _ => True) 1 (#[true, true, true, true, true, true, true, true, true, true, true, false] : Array Bool) (⟨#[.pointer (some ⟨sb, 0, none⟩), x1, x2, x3, x4, x5, x6, x7, x8, x9, x10, x11, x12, x13, x14, x15, x16, x17, x18, x19, x20, x21, x22, x23, x24, x25, x26, x27, x28, x29, x30, x31, x32, x33, x34, x35, x36, x37, x38, x39, x40, x41, x42, x43, x44, x45, x46, x47, x48, x49, x50, x51, x52, x53, x54, .pointer (some ⟨sb, 0, none⟩), .pointer (some ⟨sb, 0, none⟩), .pointer (some ⟨sb, 0, none⟩), .pointer (some ⟨sb, 60, none⟩), .string x, .pointer (some ⟨sb, 0, none⟩), .pointer (some ⟨sb, 0, none⟩), .pointer (some ⟨sb, 0, none⟩), .pointer (some ⟨sb, 35, none⟩), .slice p.a p.n p.c, .slice ma mn mc, x66, x67, x68, x69, x70, x71, x72, x73, x74, x75, x76, x77, x78], []⟩ : Act) u := by
  refine wpAnyH_one (i := 11) (by kernel_rfl) ?_
  refine wpOp_callx (some 66) (by kernel_rfl) (by kernel_rfl) (by kernel_rfl) 25 #[.pointer (some ⟨sb, 0, none⟩), .int .i64 1, .slice ma mn mc] (by kernel_rfl) (H25 u ⟨ma, mn, mc⟩ y65) ?_
  rintro e v ⟨rfl, z66⟩
  have q0 : KU u v := trivial
  have hS1 : (fun _ => True) v := tc11_q hS q0
  refine ⟨_, rfl, hS1, ?_⟩
  have e1 : (⟨#[.pointer (some ⟨sb, 0, none⟩), x1, x2, x3, x4, x5, x6, x7, x8, x9, x10, x11, x12, x13, x14, x15, x16, x17, x18, x19, x20, x21, x22, x23, x24, x25, x26, x27, x28, x29, x30, x31, x32, x33, x34, x35, x36, x37, x38, x39, x40, x41, x42, x43, x44, x45, x46, x47, x48, x49, x50, x51, x52, x53, x54, .pointer (some ⟨sb, 0, none⟩), .pointer (some ⟨sb, 0, none⟩), .pointer (some ⟨sb, 0, none⟩), .pointer (some ⟨sb, 60, none⟩), .string x, .pointer (some ⟨sb, 0, none⟩), .pointer (some ⟨sb, 0, none⟩), .pointer (some ⟨sb, 0, none⟩), .pointer (some ⟨sb, 35, none⟩), .slice p.a p.n p.c, .slice ma mn mc, x66, x67, x68, x69, x70, x71, x72, x73, x74, x75, x76, x77, x78], []⟩ : Act).put (some 66) (.tuple #[]) = (⟨#[.pointer (some ⟨sb, 0, none⟩), x1, x2, x3, x4, x5, x6, x7, x8, x9, x10, x11, x12, x13, x14, x15, x16, x17, x18, x19, x20, x21, x22, x23, x24, x25, x26, x27, x28, x29, x30, x31, x32, x33, x34, x35, x36, x37, x38, x39, x40, x41, x42, x43, x44, x45, x46, x47, x48, x49, x50, x51, x52, x53, x54, .pointer (some ⟨sb, 0, none⟩), .pointer (some ⟨sb, 0, none⟩), .pointer (some ⟨sb, 0, none⟩), .pointer (some ⟨sb, 60, none⟩), .string x, .pointer (some ⟨sb, 0, none⟩), .pointer (some ⟨sb, 0, none⟩), .pointer (some ⟨sb, 0, none⟩), .pointer (some ⟨sb, 35, none⟩), .slice p.a p.n p.c, .slice ma mn mc, .tuple #[], x67, x68, x69, x70, x71, x72, x73, x74, x75, x76, x77, x78], []⟩ : Act) := by kernel_rfl
  have l1 : (#[true, true, true, true, true, true, true, true, true, true, true, false] : Array Bool).setIfInBounds 11 true = (#[true, true, true, true, true, true, true, true, true, true, true, true] : Array Bool) := by kernel_rfl
  rw [e1, l1]
  clear e1 l1
  exact tc11_4_9_10_11 sb x p ma mn mc w R hQ c60 c35 Y Z H48 H25 h v hS1 (z66)
set_option maxHeartbeats 16000000 in
theorem tc11_4_9 (sb : Nat) (x : ByteArray) (p : Sv)   {x1 x2 x3 x4 x5 x6 x7 x8 x9 x10 x11 x12 x13 x14 x15 x16 x17 x18 x19 x20 x21 x22 x23 x24 x25 x26 x27 x28 x29 x30 x31 x32 x33 x34 x35 x36 x37 x38 x39 x40 x41 x42 x43 x44 x45 x46 x47 x48 x49 x50 x51 x52 x53 x54 x65 x66 x67 x68 x69 x70 x71 x72 x73 x74 x75 x76 x77 x78 : Value} (w : World) (R : Exit → Act → World → Prop) (hQ : ∀ c a d v w, R (.panic c) (a.put d v) w → R (.panic c) a w) (c60 : w.drew.cell? ⟨sb, 60, none⟩ = some (.string x)) (c35 : w.drew.cell? ⟨sb, 35, none⟩ = some (.slice p.a p.n p.c)) (Y : Sv → World → Prop) (Z : World → Prop)
    (H48 : ∀ u, u = w.drew → Calls Try.prog 48 #[.string x, .slice p.a p.n p.c] u fun e v => ∃ m : Sv, e = .returned (.slice m.a m.n m.c) ∧ Y m v) (H25 : ∀ u m, Y m u → Calls Try.prog 25 #[.pointer (some ⟨sb, 0, none⟩), .int .i64 1, .slice m.a m.n m.c] u fun e v => e = .returned (.tuple #[]) ∧ Z v)
    (h : ∀ (ma : Option Addr) (mn mc : Nat) (u : World), Z u → R .normal (⟨#[.pointer (some ⟨sb, 0, none⟩), x1, x2, x3, x4, x5, x6, x7, x8, x9, x10, x11, x12, x13, x14, x15, x16, x17, x18, x19, x20, x21, x22, x23, x24, x25, x26, x27, x28, x29, x30, x31, x32, x33, x34, x35, x36, x37, x38, x39, x40, x41, x42, x43, x44, x45, x46, x47, x48, x49, x50, x51, x52, x53, x54, .pointer (some ⟨sb, 0, none⟩), .pointer (some ⟨sb, 0, none⟩), .pointer (some ⟨sb, 0, none⟩), .pointer (some ⟨sb, 60, none⟩), .string x, .pointer (some ⟨sb, 0, none⟩), .pointer (some ⟨sb, 0, none⟩), .pointer (some ⟨sb, 0, none⟩), .pointer (some ⟨sb, 35, none⟩), .slice p.a p.n p.c, .slice ma mn mc, .tuple #[], x67, x68, x69, x70, x71, x72, x73, x74, x75, x76, x77, x78], []⟩ : Act) u) (u : World) (hS : (fun _ => True) u) (hu : u = w.drew) :
    wpAnyH Try.prog .any (RofN Try.f30 11) R (fun _ => True) 2 (#[true, true, true, true, true, true, true, true, true, true, false, false] : Array Bool) (⟨#[.pointer (some ⟨sb, 0, none⟩), x1, x2, x3, x4, x5, x6, x7, x8, x9, x10, x11, x12, x13, x14, x15, x16, x17, x18, x19, x20, x21, x22, x23, x24, x25, x26, x27, x28, x29, x30, x31, x32, x33, x34, x35, x36, x37, x38, x39, x40, x41, x42, x43, x44, x45, x46, x47, x48, x49, x50, x51, x52, x53, x54, .pointer (some ⟨sb, 0, none⟩), .pointer (some ⟨sb, 0, none⟩), .pointer (some ⟨sb, 0, none⟩), .pointer (some ⟨sb, 60, none⟩), .string x, .pointer (some ⟨sb, 0, none⟩), .pointer (some ⟨sb, 0, none⟩), .pointer (some ⟨sb, 0, none⟩), .pointer (some ⟨sb, 35, none⟩), .slice p.a p.n p.c, x65, x66, x67, x68, x69, x70, x71, x72, x73, x74, x75, x76, x77, x78], []⟩ : Act) u := by
  refine wpAnyH_one (i := 10) (by kernel_rfl) ?_
  refine wpOp_callx (some 65) (by kernel_rfl) (by kernel_rfl) (by kernel_rfl) 48 #[.string x, .slice p.a p.n p.c] (by kernel_rfl) (H48 u hu) ?_
  rintro e v ⟨⟨ma, mn, mc⟩, rfl, y65⟩
  have q0 : KU u v := trivial
  have hS1 : (fun _ => True) v := tc11_q hS q0
  refine ⟨_, rfl, hS1, ?_⟩
  have e1 : (⟨#[.pointer (some ⟨sb, 0, none⟩), x1, x2, x3, x4, x5, x6, x7, x8, x9, x10, x11, x12, x13, x14, x15, x16, x17, x18, x19, x20, x21, x22, x23, x24, x25, x26, x27, x28, x29, x30, x31, x32, x33, x34, x35, x36, x37, x38, x39, x40, x41, x42, x43, x44, x45, x46, x47, x48, x49, x50, x51, x52, x53, x54, .pointer (some ⟨sb, 0, none⟩), .pointer (some ⟨sb, 0, none⟩), .pointer (some ⟨sb, 0, none⟩), .pointer (some ⟨sb, 60, none⟩), .string x, .pointer (some ⟨sb, 0, none⟩), .pointer (some ⟨sb, 0, none⟩), .pointer (some ⟨sb, 0, none⟩), .pointer (some ⟨sb, 35, none⟩), .slice p.a p.n p.c, x65, x66, x67, x68, x69, x70, x71, x72, x73, x74, x75, x76, x77, x78], []⟩ : Act).put (some 65) (.slice ma mn mc) = (⟨#[.pointer (some ⟨sb, 0, none⟩), x1, x2, x3, x4, x5, x6, x7, x8, x9, x10, x11, x12, x13, x14, x15, x16, x17, x18, x19, x20, x21, x22, x23, x24, x25, x26, x27, x28, x29, x30, x31, x32, x33, x34, x35, x36, x37, x38, x39, x40, x41, x42, x43, x44, x45, x46, x47, x48, x49, x50, x51, x52, x53, x54, .pointer (some ⟨sb, 0, none⟩), .pointer (some ⟨sb, 0, none⟩), .pointer (some ⟨sb, 0, none⟩), .pointer (some ⟨sb, 60, none⟩), .string x, .pointer (some ⟨sb, 0, none⟩), .pointer (some ⟨sb, 0, none⟩), .pointer (some ⟨sb, 0, none⟩), .pointer (some ⟨sb, 35, none⟩), .slice p.a p.n p.c, .slice ma mn mc, x66, x67, x68, x69, x70, x71, x72, x73, x74, x75, x76, x77, x78], []⟩ : Act) := by kernel_rfl
  have l1 : (#[true, true, true, true, true, true, true, true, true, true, false, false] : Array Bool).setIfInBounds 10 true = (#[true, true, true, true, true, true, true, true, true, true, true, false] : Array Bool) := by kernel_rfl
  rw [e1, l1]
  clear e1 l1
  exact tc11_4_9_10 sb x p ma mn mc w R hQ c60 c35 Y Z H48 H25 h v hS1 (y65)
set_option maxHeartbeats 16000000 in
theorem tc11_9 (sb : Nat) (x : ByteArray) (p : Sv)  {x1 x2 x3 x4 x5 x6 x7 x8 x9 x10 x11 x12 x13 x14 x15 x16 x17 x18 x19 x20 x21 x22 x23 x24 x25 x26 x27 x28 x29 x30 x31 x32 x33 x34 x35 x36 x37 x38 x39 x40 x41 x42 x43 x44 x45 x46 x47 x48 x49 x50 x51 x52 x53 x54 x59 x65 x66 x67 x68 x69 x70 x71 x72 x73 x74 x75 x76 x77 x78 : Value} (w : World) (R : Exit → Act → World → Prop) (hQ : ∀ c a d v w, R (.panic c) (a.put d v) w → R (.panic c) a w) (c60 : w.drew.cell? ⟨sb, 60, none⟩ = some (.string x)) (c35 : w.drew.cell? ⟨sb, 35, none⟩ = some (.slice p.a p.n p.c)) (Y : Sv → World → Prop) (Z : World → Prop)
    (H48 : ∀ u, u = w.drew → Calls Try.prog 48 #[.string x, .slice p.a p.n p.c] u fun e v => ∃ m : Sv, e = .returned (.slice m.a m.n m.c) ∧ Y m v) (H25 : ∀ u m, Y m u → Calls Try.prog 25 #[.pointer (some ⟨sb, 0, none⟩), .int .i64 1, .slice m.a m.n m.c] u fun e v => e = .returned (.tuple #[]) ∧ Z v)
    (h : ∀ (ma : Option Addr) (mn mc : Nat) (u : World), Z u → R .normal (⟨#[.pointer (some ⟨sb, 0, none⟩), x1, x2, x3, x4, x5, x6, x7, x8, x9, x10, x11, x12, x13, x14, x15, x16, x17, x18, x19, x20, x21, x22, x23, x24, x25, x26, x27, x28, x29, x30, x31, x32, x33, x34, x35, x36, x37, x38, x39, x40, x41, x42, x43, x44, x45, x46, x47, x48, x49, x50, x51, x52, x53, x54, .pointer (some ⟨sb, 0, none⟩), .pointer (some ⟨sb, 0, none⟩), .pointer (some ⟨sb, 0, none⟩), .pointer (some ⟨sb, 60, none⟩), .string x, .pointer (some ⟨sb, 0, none⟩), .pointer (some ⟨sb, 0, none⟩), .pointer (some ⟨sb, 0, none⟩), .pointer (some ⟨sb, 35, none⟩), .slice p.a p.n p.c, .slice ma mn mc, .tuple #[], x67, x68, x69, x70, x71, x72, x73, x74, x75, x76, x77, x78], []⟩ : Act) u) (u : World) (hS : (fun _ => True) u) (hu : u = w.drew) :
    wpAnyH Try.prog .any (RofN Try.f30 11) R (fun _ => True) 3 (#[true, true, true, true, false, true, true, true, true, true, false, false] : Array Bool) (⟨#[.pointer (some ⟨sb, 0, none⟩), x1, x2, x3, x4, x5, x6, x7, x8, x9, x10, x11, x12, x13, x14, x15, x16, x17, x18, x19, x20, x21, x22, x23, x24, x25, x26, x27, x28, x29, x30, x31, x32, x33, x34, x35, x36, x37, x38, x39, x40, x41, x42, x43, x44, x45, x46, x47, x48, x49, x50, x51, x52, x53, x54, .pointer (some ⟨sb, 0, none⟩), .pointer (some ⟨sb, 0, none⟩), .pointer (some ⟨sb, 0, none⟩), .pointer (some ⟨sb, 60, none⟩), x59, .pointer (some ⟨sb, 0, none⟩), .pointer (some ⟨sb, 0, none⟩), .pointer (some ⟨sb, 0, none⟩), .pointer (some ⟨sb, 35, none⟩), .slice p.a p.n p.c, x65, x66, x67, x68, x69, x70, x71, x72, x73, x74, x75, x76, x77, x78], []⟩ : Act) u := by
  refine wpAnyH_one (i := 4) (by kernel_rfl) ?_
  have hc : (execOp (⟨#[.pointer (some ⟨sb, 0, none⟩), x1, x2, x3, x4, x5, x6, x7, x8, x9, x10, x11, x12, x13, x14, x15, x16, x17, x18, x19, x20, x21, x22, x23, x24, x25, x26, x27, x28, x29, x30, x31, x32, x33, x34, x35, x36, x37, x38, x39, x40, x41, x42, x43, x44, x45, x46, x47, x48, x49, x50, x51, x52, x53, x54, .pointer (some ⟨sb, 0, none⟩), .pointer (some ⟨sb, 0, none⟩), .pointer (some ⟨sb, 0, none⟩), .pointer (some ⟨sb, 60, none⟩), x59, .pointer (some ⟨sb, 0, none⟩), .pointer (some ⟨sb, 0, none⟩), .pointer (some ⟨sb, 0, none⟩), .pointer (some ⟨sb, 35, none⟩), .slice p.a p.n p.c, x65, x66, x67, x68, x69, x70, x71, x72, x73, x74, x75, x76, x77, x78], []⟩ : Act).eval (((RofN Try.f30 11)[4]?).getD default)).run Try.prog u = .ok (.value (.string x)) (u) := (by rw [hu]; exact ld_t 9 (.tmp 58) sb 60 (by kernel_rfl) (by kernel_rfl) (ld9 c60))
  refine wpOp_val (some 59) (by kernel_rfl) (by kernel_rfl) (by kernel_rfl) hc ?_
  clear hc
  have hS1 : (fun _ => True) (u) := trivial
  refine ⟨hS1, ?_⟩
  have e1 : (⟨#[.pointer (some ⟨sb, 0, none⟩), x1, x2, x3, x4, x5, x6, x7, x8, x9, x10, x11, x12, x13, x14, x15, x16, x17, x18, x19, x20, x21, x22, x23, x24, x25, x26, x27, x28, x29, x30, x31, x32, x33, x34, x35, x36, x37, x38, x39, x40, x41, x42, x43, x44, x45, x46, x47, x48, x49, x50, x51, x52, x53, x54, .pointer (some ⟨sb, 0, none⟩), .pointer (some ⟨sb, 0, none⟩), .pointer (some ⟨sb, 0, none⟩), .pointer (some ⟨sb, 60, none⟩), x59, .pointer (some ⟨sb, 0, none⟩), .pointer (some ⟨sb, 0, none⟩), .pointer (some ⟨sb, 0, none⟩), .pointer (some ⟨sb, 35, none⟩), .slice p.a p.n p.c, x65, x66, x67, x68, x69, x70, x71, x72, x73, x74, x75, x76, x77, x78], []⟩ : Act).put (some 59) (.string x) = (⟨#[.pointer (some ⟨sb, 0, none⟩), x1, x2, x3, x4, x5, x6, x7, x8, x9, x10, x11, x12, x13, x14, x15, x16, x17, x18, x19, x20, x21, x22, x23, x24, x25, x26, x27, x28, x29, x30, x31, x32, x33, x34, x35, x36, x37, x38, x39, x40, x41, x42, x43, x44, x45, x46, x47, x48, x49, x50, x51, x52, x53, x54, .pointer (some ⟨sb, 0, none⟩), .pointer (some ⟨sb, 0, none⟩), .pointer (some ⟨sb, 0, none⟩), .pointer (some ⟨sb, 60, none⟩), .string x, .pointer (some ⟨sb, 0, none⟩), .pointer (some ⟨sb, 0, none⟩), .pointer (some ⟨sb, 0, none⟩), .pointer (some ⟨sb, 35, none⟩), .slice p.a p.n p.c, x65, x66, x67, x68, x69, x70, x71, x72, x73, x74, x75, x76, x77, x78], []⟩ : Act) := by kernel_rfl
  have l1 : (#[true, true, true, true, false, true, true, true, true, true, false, false] : Array Bool).setIfInBounds 4 true = (#[true, true, true, true, true, true, true, true, true, true, false, false] : Array Bool) := by kernel_rfl
  rw [e1, l1]
  clear e1 l1
  exact tc11_4_9 sb x p  w R hQ c60 c35 Y Z H48 H25 h (u) hS1 (hu)
set_option maxHeartbeats 16000000 in
theorem tc11_4 (sb : Nat) (x : ByteArray) (p : Sv)  {x1 x2 x3 x4 x5 x6 x7 x8 x9 x10 x11 x12 x13 x14 x15 x16 x17 x18 x19 x20 x21 x22 x23 x24 x25 x26 x27 x28 x29 x30 x31 x32 x33 x34 x35 x36 x37 x38 x39 x40 x41 x42 x43 x44 x45 x46 x47 x48 x49 x50 x51 x52 x53 x54 x64 x65 x66 x67 x68 x69 x70 x71 x72 x73 x74 x75 x76 x77 x78 : Value} (w : World) (R : Exit → Act → World → Prop) (hQ : ∀ c a d v w, R (.panic c) (a.put d v) w → R (.panic c) a w) (c60 : w.drew.cell? ⟨sb, 60, none⟩ = some (.string x)) (c35 : w.drew.cell? ⟨sb, 35, none⟩ = some (.slice p.a p.n p.c)) (Y : Sv → World → Prop) (Z : World → Prop)
    (H48 : ∀ u, u = w.drew → Calls Try.prog 48 #[.string x, .slice p.a p.n p.c] u fun e v => ∃ m : Sv, e = .returned (.slice m.a m.n m.c) ∧ Y m v) (H25 : ∀ u m, Y m u → Calls Try.prog 25 #[.pointer (some ⟨sb, 0, none⟩), .int .i64 1, .slice m.a m.n m.c] u fun e v => e = .returned (.tuple #[]) ∧ Z v)
    (h : ∀ (ma : Option Addr) (mn mc : Nat) (u : World), Z u → R .normal (⟨#[.pointer (some ⟨sb, 0, none⟩), x1, x2, x3, x4, x5, x6, x7, x8, x9, x10, x11, x12, x13, x14, x15, x16, x17, x18, x19, x20, x21, x22, x23, x24, x25, x26, x27, x28, x29, x30, x31, x32, x33, x34, x35, x36, x37, x38, x39, x40, x41, x42, x43, x44, x45, x46, x47, x48, x49, x50, x51, x52, x53, x54, .pointer (some ⟨sb, 0, none⟩), .pointer (some ⟨sb, 0, none⟩), .pointer (some ⟨sb, 0, none⟩), .pointer (some ⟨sb, 60, none⟩), .string x, .pointer (some ⟨sb, 0, none⟩), .pointer (some ⟨sb, 0, none⟩), .pointer (some ⟨sb, 0, none⟩), .pointer (some ⟨sb, 35, none⟩), .slice p.a p.n p.c, .slice ma mn mc, .tuple #[], x67, x68, x69, x70, x71, x72, x73, x74, x75, x76, x77, x78], []⟩ : Act) u) (u : World) (hS : (fun _ => True) u) (hu : u = w.drew) :
    wpAnyH Try.prog .any (RofN Try.f30 11) R (fun _ => True) 3 (#[true, true, true, true, true, true, true, true, true, false, false, false] : Array Bool) (⟨#[.pointer (some ⟨sb, 0, none⟩), x1, x2, x3, x4, x5, x6, x7, x8, x9, x10, x11, x12, x13, x14, x15, x16, x17, x18, x19, x20, x21, x22, x23, x24, x25, x26, x27, x28, x29, x30, x31, x32, x33, x34, x35, x36, x37, x38, x39, x40, x41, x42, x43, x44, x45, x46, x47, x48, x49, x50, x51, x52, x53, x54, .pointer (some ⟨sb, 0, none⟩), .pointer (some ⟨sb, 0, none⟩), .pointer (some ⟨sb, 0, none⟩), .pointer (some ⟨sb, 60, none⟩), .string x, .pointer (some ⟨sb, 0, none⟩), .pointer (some ⟨sb, 0, none⟩), .pointer (some ⟨sb, 0, none⟩), .pointer (some ⟨sb, 35, none⟩), x64, x65, x66, x67, x68, x69, x70, x71, x72, x73, x74, x75, x76, x77, x78], []⟩ : Act) u := by
  refine wpAnyH_one (i := 9) (by kernel_rfl) ?_
  have hc : (execOp (⟨#[.pointer (some ⟨sb, 0, none⟩), x1, x2, x3, x4, x5, x6, x7, x8, x9, x10, x11, x12, x13, x14, x15, x16, x17, x18, x19, x20, x21, x22, x23, x24, x25, x26, x27, x28, x29, x30, x31, x32, x33, x34, x35, x36, x37, x38, x39, x40, x41, x42, x43, x44, x45, x46, x47, x48, x49, x50, x51, x52, x53, x54, .pointer (some ⟨sb, 0, none⟩), .pointer (some ⟨sb, 0, none⟩), .pointer (some ⟨sb, 0, none⟩), .pointer (some ⟨sb, 60, none⟩), .string x, .pointer (some ⟨sb, 0, none⟩), .pointer (some ⟨sb, 0, none⟩), .pointer (some ⟨sb, 0, none⟩), .pointer (some ⟨sb, 35, none⟩), x64, x65, x66, x67, x68, x69, x70, x71, x72, x73, x74, x75, x76, x77, x78], []⟩ : Act).eval (((RofN Try.f30 11)[9]?).getD default)).run Try.prog u = .ok (.value (.slice p.a p.n p.c)) (u) := (by rw [hu]; exact ld_t 24 (.tmp 63) sb 35 (by kernel_rfl) (by kernel_rfl) (ld24' c35))
  refine wpOp_val (some 64) (by kernel_rfl) (by kernel_rfl) (by kernel_rfl) hc ?_
  clear hc
  have hS1 : (fun _ => True) (u) := trivial
  refine ⟨hS1, ?_⟩
  have e1 : (⟨#[.pointer (some ⟨sb, 0, none⟩), x1, x2, x3, x4, x5, x6, x7, x8, x9, x10, x11, x12, x13, x14, x15, x16, x17, x18, x19, x20, x21, x22, x23, x24, x25, x26, x27, x28, x29, x30, x31, x32, x33, x34, x35, x36, x37, x38, x39, x40, x41, x42, x43, x44, x45, x46, x47, x48, x49, x50, x51, x52, x53, x54, .pointer (some ⟨sb, 0, none⟩), .pointer (some ⟨sb, 0, none⟩), .pointer (some ⟨sb, 0, none⟩), .pointer (some ⟨sb, 60, none⟩), .string x, .pointer (some ⟨sb, 0, none⟩), .pointer (some ⟨sb, 0, none⟩), .pointer (some ⟨sb, 0, none⟩), .pointer (some ⟨sb, 35, none⟩), x64, x65, x66, x67, x68, x69, x70, x71, x72, x73, x74, x75, x76, x77, x78], []⟩ : Act).put (some 64) (.slice p.a p.n p.c) = (⟨#[.pointer (some ⟨sb, 0, none⟩), x1, x2, x3, x4, x5, x6, x7, x8, x9, x10, x11, x12, x13, x14, x15, x16, x17, x18, x19, x20, x21, x22, x23, x24, x25, x26, x27, x28, x29, x30, x31, x32, x33, x34, x35, x36, x37, x38, x39, x40, x41, x42, x43, x44, x45, x46, x47, x48, x49, x50, x51, x52, x53, x54, .pointer (some ⟨sb, 0, none⟩), .pointer (some ⟨sb, 0, none⟩), .pointer (some ⟨sb, 0, none⟩), .pointer (some ⟨sb, 60, none⟩), .string x, .pointer (some ⟨sb, 0, none⟩), .pointer (some ⟨sb, 0, none⟩), .pointer (some ⟨sb, 0, none⟩), .pointer (some ⟨sb, 35, none⟩), .slice p.a p.n p.c, x65, x66, x67, x68, x69, x70, x71, x72, x73, x74, x75, x76, x77, x78], []⟩ : Act) := by kernel_rfl
  have l1 : (#[true, true, true, true, true, true, true, true, true, false, false, false] : Array Bool).setIfInBounds 9 true = (#[true, true, true, true, true, true, true, true, true, true, false, false] : Array Bool) := by kernel_rfl
  rw [e1, l1]
  clear e1 l1
  exact tc11_4_9 sb x p  w R hQ c60 c35 Y Z H48 H25 h (u) hS1 (hu)
set_option maxHeartbeats 16000000 in
theorem tc11_o (sb : Nat) (x : ByteArray) (p : Sv)  {x1 x2 x3 x4 x5 x6 x7 x8 x9 x10 x11 x12 x13 x14 x15 x16 x17 x18 x19 x20 x21 x22 x23 x24 x25 x26 x27 x28 x29 x30 x31 x32 x33 x34 x35 x36 x37 x38 x39 x40 x41 x42 x43 x44 x45 x46 x47 x48 x49 x50 x51 x52 x53 x54 x59 x64 x65 x66 x67 x68 x69 x70 x71 x72 x73 x74 x75 x76 x77 x78 : Value} (w : World) (R : Exit → Act → World → Prop) (hQ : ∀ c a d v w, R (.panic c) (a.put d v) w → R (.panic c) a w) (c60 : w.drew.cell? ⟨sb, 60, none⟩ = some (.string x)) (c35 : w.drew.cell? ⟨sb, 35, none⟩ = some (.slice p.a p.n p.c)) (Y : Sv → World → Prop) (Z : World → Prop)
    (H48 : ∀ u, u = w.drew → Calls Try.prog 48 #[.string x, .slice p.a p.n p.c] u fun e v => ∃ m : Sv, e = .returned (.slice m.a m.n m.c) ∧ Y m v) (H25 : ∀ u m, Y m u → Calls Try.prog 25 #[.pointer (some ⟨sb, 0, none⟩), .int .i64 1, .slice m.a m.n m.c] u fun e v => e = .returned (.tuple #[]) ∧ Z v)
    (h : ∀ (ma : Option Addr) (mn mc : Nat) (u : World), Z u → R .normal (⟨#[.pointer (some ⟨sb, 0, none⟩), x1, x2, x3, x4, x5, x6, x7, x8, x9, x10, x11, x12, x13, x14, x15, x16, x17, x18, x19, x20, x21, x22, x23, x24, x25, x26, x27, x28, x29, x30, x31, x32, x33, x34, x35, x36, x37, x38, x39, x40, x41, x42, x43, x44, x45, x46, x47, x48, x49, x50, x51, x52, x53, x54, .pointer (some ⟨sb, 0, none⟩), .pointer (some ⟨sb, 0, none⟩), .pointer (some ⟨sb, 0, none⟩), .pointer (some ⟨sb, 60, none⟩), .string x, .pointer (some ⟨sb, 0, none⟩), .pointer (some ⟨sb, 0, none⟩), .pointer (some ⟨sb, 0, none⟩), .pointer (some ⟨sb, 35, none⟩), .slice p.a p.n p.c, .slice ma mn mc, .tuple #[], x67, x68, x69, x70, x71, x72, x73, x74, x75, x76, x77, x78], []⟩ : Act) u) (u : World) (hS : (fun _ => True) u) (hu : u = w.drew) :
    wpAnyH Try.prog .any (RofN Try.f30 11) R (fun _ => True) 4 (#[true, true, true, true, false, true, true, true, true, false, false, false] : Array Bool) (⟨#[.pointer (some ⟨sb, 0, none⟩), x1, x2, x3, x4, x5, x6, x7, x8, x9, x10, x11, x12, x13, x14, x15, x16, x17, x18, x19, x20, x21, x22, x23, x24, x25, x26, x27, x28, x29, x30, x31, x32, x33, x34, x35, x36, x37, x38, x39, x40, x41, x42, x43, x44, x45, x46, x47, x48, x49, x50, x51, x52, x53, x54, .pointer (some ⟨sb, 0, none⟩), .pointer (some ⟨sb, 0, none⟩), .pointer (some ⟨sb, 0, none⟩), .pointer (some ⟨sb, 60, none⟩), x59, .pointer (some ⟨sb, 0, none⟩), .pointer (some ⟨sb, 0, none⟩), .pointer (some ⟨sb, 0, none⟩), .pointer (some ⟨sb, 35, none⟩), x64, x65, x66, x67, x68, x69, x70, x71, x72, x73, x74, x75, x76, x77, x78], []⟩ : Act) u := by
  refine wpAnyH_l2 (i := 4) (j := 9) (by kernel_rfl) ?_ ?_
  · have hc : (execOp (⟨#[.pointer (some ⟨sb, 0, none⟩), x1, x2, x3, x4, x5, x6, x7, x8, x9, x10, x11, x12, x13, x14, x15, x16, x17, x18, x19, x20, x21, x22, x23, x24, x25, x26, x27, x28, x29, x30, x31, x32, x33, x34, x35, x36, x37, x38, x39, x40, x41, x42, x43, x44, x45, x46, x47, x48, x49, x50, x51, x52, x53, x54, .pointer (some ⟨sb, 0, none⟩), .pointer (some ⟨sb, 0, none⟩), .pointer (some ⟨sb, 0, none⟩), .pointer (some ⟨sb, 60, none⟩), x59, .pointer (some ⟨sb, 0, none⟩), .pointer (some ⟨sb, 0, none⟩), .pointer (some ⟨sb, 0, none⟩), .pointer (some ⟨sb, 35, none⟩), x64, x65, x66, x67, x68, x69, x70, x71, x72, x73, x74, x75, x76, x77, x78], []⟩ : Act).eval (((RofN Try.f30 11)[4]?).getD default)).run Try.prog u = .ok (.value (.string x)) (u) := (by rw [hu]; exact ld_t 9 (.tmp 58) sb 60 (by kernel_rfl) (by kernel_rfl) (ld9 c60))
    refine wpOp_val (some 59) (by kernel_rfl) (by kernel_rfl) (by kernel_rfl) hc ?_
    clear hc
    have hS1 : (fun _ => True) (u) := trivial
    refine ⟨hS1, ?_⟩
    have e1 : (⟨#[.pointer (some ⟨sb, 0, none⟩), x1, x2, x3, x4, x5, x6, x7, x8, x9, x10, x11, x12, x13, x14, x15, x16, x17, x18, x19, x20, x21, x22, x23, x24, x25, x26, x27, x28, x29, x30, x31, x32, x33, x34, x35, x36, x37, x38, x39, x40, x41, x42, x43, x44, x45, x46, x47, x48, x49, x50, x51, x52, x53, x54, .pointer (some ⟨sb, 0, none⟩), .pointer (some ⟨sb, 0, none⟩), .pointer (some ⟨sb, 0, none⟩), .pointer (some ⟨sb, 60, none⟩), x59, .pointer (some ⟨sb, 0, none⟩), .pointer (some ⟨sb, 0, none⟩), .pointer (some ⟨sb, 0, none⟩), .pointer (some ⟨sb, 35, none⟩), x64, x65, x66, x67, x68, x69, x70, x71, x72, x73, x74, x75, x76, x77, x78], []⟩ : Act).put (some 59) (.string x) = (⟨#[.pointer (some ⟨sb, 0, none⟩), x1, x2, x3, x4, x5, x6, x7, x8, x9, x10, x11, x12, x13, x14, x15, x16, x17, x18, x19, x20, x21, x22, x23, x24, x25, x26, x27, x28, x29, x30, x31, x32, x33, x34, x35, x36, x37, x38, x39, x40, x41, x42, x43, x44, x45, x46, x47, x48, x49, x50, x51, x52, x53, x54, .pointer (some ⟨sb, 0, none⟩), .pointer (some ⟨sb, 0, none⟩), .pointer (some ⟨sb, 0, none⟩), .pointer (some ⟨sb, 60, none⟩), .string x, .pointer (some ⟨sb, 0, none⟩), .pointer (some ⟨sb, 0, none⟩), .pointer (some ⟨sb, 0, none⟩), .pointer (some ⟨sb, 35, none⟩), x64, x65, x66, x67, x68, x69, x70, x71, x72, x73, x74, x75, x76, x77, x78], []⟩ : Act) := by kernel_rfl
    have l1 : (#[true, true, true, true, false, true, true, true, true, false, false, false] : Array Bool).setIfInBounds 4 true = (#[true, true, true, true, true, true, true, true, true, false, false, false] : Array Bool) := by kernel_rfl
    rw [e1, l1]
    clear e1 l1
    exact tc11_4 sb x p  w R hQ c60 c35 Y Z H48 H25 h (u) hS1 (hu)
  · have hc : (execOp (⟨#[.pointer (some ⟨sb, 0, none⟩), x1, x2, x3, x4, x5, x6, x7, x8, x9, x10, x11, x12, x13, x14, x15, x16, x17, x18, x19, x20, x21, x22, x23, x24, x25, x26, x27, x28, x29, x30, x31, x32, x33, x34, x35, x36, x37, x38, x39, x40, x41, x42, x43, x44, x45, x46, x47, x48, x49, x50, x51, x52, x53, x54, .pointer (some ⟨sb, 0, none⟩), .pointer (some ⟨sb, 0, none⟩), .pointer (some ⟨sb, 0, none⟩), .pointer (some ⟨sb, 60, none⟩), x59, .pointer (some ⟨sb, 0, none⟩), .pointer (some ⟨sb, 0, none⟩), .pointer (some ⟨sb, 0, none⟩), .pointer (some ⟨sb, 35, none⟩), x64, x65, x66, x67, x68, x69, x70, x71, x72, x73, x74, x75, x76, x77, x78], []⟩ : Act).eval (((RofN Try.f30 11)[9]?).getD default)).run Try.prog u = .ok (.value (.slice p.a p.n p.c)) (u) := (by rw [hu]; exact ld_t 24 (.tmp 63) sb 35 (by kernel_rfl) (by kernel_rfl) (ld24' c35))
    refine wpOp_val (some 64) (by kernel_rfl) (by kernel_rfl) (by kernel_rfl) hc ?_
    clear hc
    have hS1 : (fun _ => True) (u) := trivial
    refine ⟨hS1, ?_⟩
    have e1 : (⟨#[.pointer (some ⟨sb, 0, none⟩), x1, x2, x3, x4, x5, x6, x7, x8, x9, x10, x11, x12, x13, x14, x15, x16, x17, x18, x19, x20, x21, x22, x23, x24, x25, x26, x27, x28, x29, x30, x31, x32, x33, x34, x35, x36, x37, x38, x39, x40, x41, x42, x43, x44, x45, x46, x47, x48, x49, x50, x51, x52, x53, x54, .pointer (some ⟨sb, 0, none⟩), .pointer (some ⟨sb, 0, none⟩), .pointer (some ⟨sb, 0, none⟩), .pointer (some ⟨sb, 60, none⟩), x59, .pointer (some ⟨sb, 0, none⟩), .pointer (some ⟨sb, 0, none⟩), .pointer (some ⟨sb, 0, none⟩), .pointer (some ⟨sb, 35, none⟩), x64, x65, x66, x67, x68, x69, x70, x71, x72, x73, x74, x75, x76, x77, x78], []⟩ : Act).put (some 64) (.slice p.a p.n p.c) = (⟨#[.pointer (some ⟨sb, 0, none⟩), x1, x2, x3, x4, x5, x6, x7, x8, x9, x10, x11, x12, x13, x14, x15, x16, x17, x18, x19, x20, x21, x22, x23, x24, x25, x26, x27, x28, x29, x30, x31, x32, x33, x34, x35, x36, x37, x38, x39, x40, x41, x42, x43, x44, x45, x46, x47, x48, x49, x50, x51, x52, x53, x54, .pointer (some ⟨sb, 0, none⟩), .pointer (some ⟨sb, 0, none⟩), .pointer (some ⟨sb, 0, none⟩), .pointer (some ⟨sb, 60, none⟩), x59, .pointer (some ⟨sb, 0, none⟩), .pointer (some ⟨sb, 0, none⟩), .pointer (some ⟨sb, 0, none⟩), .pointer (some ⟨sb, 35, none⟩), .slice p.a p.n p.c, x65, x66, x67, x68, x69, x70, x71, x72, x73, x74, x75, x76, x77, x78], []⟩ : Act) := by kernel_rfl
    have l1 : (#[true, true, true, true, false, true, true, true, true, false, false, false] : Array Bool).setIfInBounds 9 true = (#[true, true, true, true, false, true, true, true, true, true, false, false] : Array Bool) := by kernel_rfl
    rw [e1, l1]
    clear e1 l1
    exact tc11_9 sb x p  w R hQ c60 c35 Y Z H48 H25 h (u) hS1 (hu)
set_option maxHeartbeats 16000000 in
theorem tc11 (sb : Nat) (x : ByteArray) (p : Sv) {x1 x2 x3 x4 x5 x6 x7 x8 x9 x10 x11 x12 x13 x14 x15 x16 x17 x18 x19 x20 x21 x22 x23 x24 x25 x26 x27 x28 x29 x30 x31 x32 x33 x34 x35 x36 x37 x38 x39 x40 x41 x42 x43 x44 x45 x46 x47 x48 x49 x50 x51 x52 x53 x54 x55 x56 x57 x58 x59 x60 x61 x62 x63 x64 x65 x66 x67 x68 x69 x70 x71 x72 x73 x74 x75 x76 x77 x78 : Value} (w : World) (R : Exit → Act → World → Prop) (hQ : ∀ c a d v w, R (.panic c) (a.put d v) w → R (.panic c) a w) (c60 : w.drew.cell? ⟨sb, 60, none⟩ = some (.string x)) (c35 : w.drew.cell? ⟨sb, 35, none⟩ = some (.slice p.a p.n p.c)) (Y : Sv → World → Prop) (Z : World → Prop)
    (H48 : ∀ u, u = w.drew → Calls Try.prog 48 #[.string x, .slice p.a p.n p.c] u fun e v => ∃ m : Sv, e = .returned (.slice m.a m.n m.c) ∧ Y m v) (H25 : ∀ u m, Y m u → Calls Try.prog 25 #[.pointer (some ⟨sb, 0, none⟩), .int .i64 1, .slice m.a m.n m.c] u fun e v => e = .returned (.tuple #[]) ∧ Z v) (hS : (fun _ => True) w)
    (h : ∀ (ma : Option Addr) (mn mc : Nat) (u : World), Z u → R .normal (⟨#[.pointer (some ⟨sb, 0, none⟩), x1, x2, x3, x4, x5, x6, x7, x8, x9, x10, x11, x12, x13, x14, x15, x16, x17, x18, x19, x20, x21, x22, x23, x24, x25, x26, x27, x28, x29, x30, x31, x32, x33, x34, x35, x36, x37, x38, x39, x40, x41, x42, x43, x44, x45, x46, x47, x48, x49, x50, x51, x52, x53, x54, .pointer (some ⟨sb, 0, none⟩), .pointer (some ⟨sb, 0, none⟩), .pointer (some ⟨sb, 0, none⟩), .pointer (some ⟨sb, 60, none⟩), .string x, .pointer (some ⟨sb, 0, none⟩), .pointer (some ⟨sb, 0, none⟩), .pointer (some ⟨sb, 0, none⟩), .pointer (some ⟨sb, 35, none⟩), .slice p.a p.n p.c, .slice ma mn mc, .tuple #[], x67, x68, x69, x70, x71, x72, x73, x74, x75, x76, x77, x78], []⟩ : Act) u) :
    (Code.region 11 (RofN Try.f30 11) true).wp Try.prog R (⟨#[.pointer (some ⟨sb, 0, none⟩), x1, x2, x3, x4, x5, x6, x7, x8, x9, x10, x11, x12, x13, x14, x15, x16, x17, x18, x19, x20, x21, x22, x23, x24, x25, x26, x27, x28, x29, x30, x31, x32, x33, x34, x35, x36, x37, x38, x39, x40, x41, x42, x43, x44, x45, x46, x47, x48, x49, x50, x51, x52, x53, x54, x55, x56, x57, x58, x59, x60, x61, x62, x63, x64, x65, x66, x67, x68, x69, x70, x71, x72, x73, x74, x75, x76, x77, x78], []⟩ : Act) w := by
  refine wp_region_held (S := (fun _ => True)) (by kernel_rfl) ?_
  have hsz : (RofN Try.f30 11).size = 12 := by kernel_rfl
  rw [hsz]
  have hS0 : (fun _ => True) w.drew := tc11_q hS (show KU w w.drew from trivial)
  refine chn_take (by kernel_rfl) hQ hS0 4 (tc11g0z sb x p ) _ _ (tc11g0 sb x p  w c60 c35 Y Z H48 H25) ?_
  have e0 : putL (RofN Try.f30 11) (tc11g0z sb x p ) (⟨#[.pointer (some ⟨sb, 0, none⟩), x1, x2, x3, x4, x5, x6, x7, x8, x9, x10, x11, x12, x13, x14, x15, x16, x17, x18, x19, x20, x21, x22, x23, x24, x25, x26, x27, x28, x29, x30, x31, x32, x33, x34, x35, x36, x37, x38, x39, x40, x41, x42, x43, x44, x45, x46, x47, x48, x49, x50, x51, x52, x53, x54, x55, x56, x57, x58, x59, x60, x61, x62, x63, x64, x65, x66, x67, x68, x69, x70, x71, x72, x73, x74, x75, x76, x77, x78], []⟩ : Act) = (⟨#[.pointer (some ⟨sb, 0, none⟩), x1, x2, x3, x4, x5, x6, x7, x8, x9, x10, x11, x12, x13, x14, x15, x16, x17, x18, x19, x20, x21, x22, x23, x24, x25, x26, x27, x28, x29, x30, x31, x32, x33, x34, x35, x36, x37, x38, x39, x40, x41, x42, x43, x44, x45, x46, x47, x48, x49, x50, x51, x52, x53, x54, .pointer (some ⟨sb, 0, none⟩), .pointer (some ⟨sb, 0, none⟩), .pointer (some ⟨sb, 0, none⟩), .pointer (some ⟨sb, 60, none⟩), x59, .pointer (some ⟨sb, 0, none⟩), .pointer (some ⟨sb, 0, none⟩), .pointer (some ⟨sb, 0, none⟩), .pointer (some ⟨sb, 35, none⟩), x64, x65, x66, x67, x68, x69, x70, x71, x72, x73, x74, x75, x76, x77, x78], []⟩ : Act) := by kernel_rfl
  have l0 : setL (tc11g0z sb x p ) (Array.replicate 12 false) = (#[true, true, true, true, false, true, true, true, true, false, false, false] : Array Bool) := by kernel_rfl
  rw [e0, l0]
  clear e0 l0
  exact tc11_o sb x p w R hQ c60 c35 Y Z H48 H25 h _ hS0 (rfl)
end Go.Proofs.Ytekpepnonhbkcaa

/-
  What shake's takeClientHello does: a contract that the statements' walks use.
-/
namespace Go.Proofs.Ytekpepnonhbkcaa
open Go.RowKit
set_option linter.unusedVariables false
set_option maxRecDepth 20000

def coB (s : ByteArray) (ps : List Int) : List Int := msgL 8 ((be 1 (s.size : Int) ++ sb s) ++ (be 2 (ps.length : Int) ++ ps))
/-- A server's side that has chosen. -/
def ch1 (A : Ab) : Ab := { A with pr := A.ss.getD (ixF A.ss (chQ (A.kp.drop 4)).1) ByteArray.empty, pe := (chD (A.kp.drop 4)).1 }
def ch2 (A : Ab) : Ab := sayA (hearA (ch1 A) A.kp) 0 (msgL 2 (grL A.rs A.pv))
def ch3 (A : Ab) : Ab := agA (ch2 A) (rdG (A.kp.drop 4) 0 0).1
def ch4 (A : Ab) : Ab := sayA (ch3 A) 1 (coB (ch1 A).pr A.ps)
def ch5 (A : Ab) : Ab := sayA (ch4 A) 1 (msgL 20 (prL (ch4 A).hs (ch4 A).sd))
def tkCH (A : Ab) : Int × Ab := if chOk (A.kp.drop 4) = true then (if ixF A.ss (chQ (A.kp.drop 4)).1 < A.ss.length then (0, coA (ch5 A)) else (102, A)) else (100, A)
theorem Fu.ownAt {w : World} {B sb : Nat} {S : Sh} {Fs : List Fl} {A : Ab} (h : Fu w B sb S Fs A) : ∃ t p, w.rangeAt sb 0 (ccells A.sv A.rs A.pv t p) ∧ A.rs.length = 32 ∧ ROT w (Mut sb S Fs) t A.ss ∧ RO w (Mut sb S Fs) p A.ps ∧ w.cell? ⟨sb, 34, none⟩ = some (.slice t.a t.n t.c) ∧ w.cell? ⟨sb, 35, none⟩ = some (.slice p.a p.n p.c) := by
  obtain ⟨t, p, e, l, ht, hp⟩ := h.re.own
  have hr : ∀ j v, (ccells A.sv A.rs A.pv t p)[j]? = some v → w.cell? ⟨sb, j, none⟩ = some v := by
    intro j v hj
    have hjl : j < 36 := by
      rcases Nat.lt_or_ge j 36 with hh | hh
      · exact hh
      · rw [List.getElem?_eq_none (by rw [ccells_len l]; exact hh)] at hj; cases hj
    rw [h.sd.at_.cell]
    unfold Sh.cells
    rw [e, List.getElem?_append_left (by rw [ccells_len l]; omega)]
    exact hj
  refine ⟨t, p, fun j v hj => by rw [Nat.zero_add]; exact hr j v hj, l, ht, hp, hr 34 _ ?_, hr 35 _ ?_⟩
  · unfold ccells
    rw [show 34 = 33 + 1 from rfl, List.getElem?_cons_succ, List.getElem?_append_right (by simp [l])]
    simp [l]
  · unfold ccells
    rw [show 35 = 34 + 1 from rfl, List.getElem?_cons_succ, List.getElem?_append_right (by simp [l])]
    simp [l]
theorem Fu.setPr2 {w w1 w' : World} {B sb : Nat} {S : Sh} {Fs : List Fl} {A : Ab} {x : ByteArray} {y : Sv} {ys : List Int} (h : Fu w1 B sb S Fs A) (hsb : Fu w B sb S Fs A) (hy : Row w1 y ys) (hn : New w.heap.size y) (k8 : Keep (fun b => b = sb) w1 w') (a8 : ShAt w' sb { S with proto := x, peer := y }) :
    Aft w1 B sb S Fs { A with pr := x, pe := ys } w' { S with proto := x, peer := y } Fs := by
  have r8 := h.re.keep k8 mut_sb (M' := Mut sb { S with proto := x, peer := y } Fs) (fun b m => .inl ((mut_eq (S := S) rfl rfl rfl b).1 m))
  have hM : ∀ b, Mut sb { S with proto := x, peer := y } Fs b → b < w.heap.size := fun b m => (hsb.mut ((mut_eq (S := S) rfl rfl rfl b).1 m)).2
  have ny : ∀ b, blk y.a = some b → ¬ b = sb := fun b e => by have := hn b e; have := hsb.sd.at_.lt; omega
  exact ⟨h.cells a8 k8 rfl rfl rfl rfl rfl rfl ⟨r8.own, r8.wt, r8.fd, r8.rt, r8.hc, r8.hs, r8.ac, r8.as_, rfl, RO.new (Sub.keep hy k8 ny) hn hM⟩, k8.mono (fun i _ e => mut_sb i e), fun b m => .inl ((mut_eq (S := S) rfl rfl rfl b).1 m), rfl⟩
theorem addC_len (cs : List (Int × List Int)) (lv : Int) (ms : List Int) : (addC cs lv ms).length ≤ cs.length + 1 := by
  unfold addC
  split
  · split
    · simp
    · simp
  · simp
theorem addC_bd {cs : List (Int × List Int)} {lv : Int} {ms : List Int} {n : Nat} (h : ∀ x ∈ cs, x.2.length ≤ n) : ∀ x ∈ addC cs lv ms, x.2.length ≤ n + ms.length := by
  intro x hx
  unfold addC at hx
  split at hx
  · next y hy =>
    have hm : y ∈ cs := List.mem_of_getLast? hy
    split at hx
    · rcases List.mem_append.1 hx with hx | hx
      · have := h x (List.dropLast_subset _ hx); omega
      · rw [List.mem_singleton.1 hx]
        have := h y hm
        show (y.2 ++ ms).length ≤ _
        rw [List.length_append]; omega
    · rcases List.mem_append.1 hx with hx | hx
      · have := h x hx; omega
      · rw [List.mem_singleton.1 hx]; show ms.length ≤ _; omega
  · rcases List.mem_append.1 hx with hx | hx
    · have := h x hx; omega
    · rw [List.mem_singleton.1 hx]; show ms.length ≤ _; omega
theorem msgL_by {k : Int} {zs : List Int} (h : ByL zs) (h0 : 0 ≤ k) (h1 : k < 256) : ByL (msgL k zs) := by
  unfold msgL
  refine ByL.app (fun y hy => ?_) ((be_by 3 _).app h)
  rw [List.mem_singleton.1 hy]
  exact ⟨h0, h1⟩
theorem grL_len {rs : List Int} {pv : Int} (h : rs.length = 32) : (grL rs pv).length = 40 := by unfold grL; rw [List.length_append, be_length, h]
theorem grL_by {rs : List Int} {pv : Int} (h : ByL rs) : ByL (grL rs pv) := by unfold grL; exact h.app (be_by _ _)
theorem coB_len (s : ByteArray) (ps : List Int) : (coB s ps).length = s.size + ps.length + 7 := by
  unfold coB
  rw [msgL_len]
  simp only [List.length_append, be_length, sb_len]
  omega
theorem coB_by {s : ByteArray} {ps : List Int} (h : ByL ps) : ByL (coB s ps) := by
  unfold coB
  exact msgL_by (((be_by _ _).app (sb_lt s)).app ((be_by _ _).app h)) (by decide) (by decide)
theorem okTs_sz {ss : List ByteArray} (h : okTs ss = true) (i : Nat) : (ss.getD i ByteArray.empty).size ≤ 32 := by
  unfold okTs at h
  simp only [Bool.and_eq_true, decide_eq_true_eq, List.all_eq_true] at h
  rw [List.getD_eq_getElem?_getD]
  rcases Nat.lt_or_ge i ss.length with hi | hi
  · rw [List.getElem?_eq_getElem hi]
    have := h.2 _ (List.getElem_mem hi)
    unfold okT at this
    simp at this
    show (ss[i]).size ≤ 32
    omega
  · rw [List.getElem?_eq_none hi]; exact Nat.zero_le _
theorem ch4_hs (A : Ab) : (ch4 A).hs = expR (rtL (ch2 A) (rdG (A.kp.drop 4) 0 0).1) (sb sShs) 16 := rfl
theorem not_mut {w : World} {B sb : Nat} {S : Sh} {Fs : List Fl} {A : Ab} (h : Fu w B sb S Fs A) {x : Sv} (n : New w.heap.size x) : ∀ b, blk x.a = some b → ¬ Mut sb S Fs b := fun b e m => by have := n b e; have := (h.mut m).2; omega
theorem expR_by (ks ls : List Int) (n : Int) : ByL (expR ks ls n) := by
  unfold expR
  split
  · exact exL_lt _ _ _
  · intro y hy; cases hy
theorem expR_le (ks ls : List Int) : (expR ks ls 16).length ≤ 16 := by
  unfold expR
  split
  · rw [exL_len]; decide
  · exact Nat.zero_le _
theorem RowT.q2 {w : World} {d : Sv} {ss : List ByteArray} (h : RowT w d ss) (b : Obj) : SegT (w.alloc b) d.a ss ∧ ss.length = d.n := ⟨h.seg.q ((Q.refl w).alloc b), h.len⟩
set_option maxHeartbeats 8000000 in
theorem takeCH_any (B sb : Nat) (S : Sh) (Fs : List Fl) (A : Ab) (w : World) (h : Fu w B sb S Fs A) (ok : Ok A) (h4 : 4 ≤ A.kp.length) :
    Calls Try.prog 30 #[.pointer (some ⟨sb, 0, none⟩), .slice S.kept.a S.kept.n S.kept.c] w fun e w' => e = .returned (.int .i64 (tkCH A).1) ∧ ∃ S' Fs', Aft w B sb S Fs (tkCH A).2 w' S' Fs' := by
  have HF := hid h
  have HO := hid ok
  have hkl : A.kp.length = S.kept.n := Row.len h.kr
  have hcn := h.kr.capN
  obtain ⟨g, off, ha⟩ := h.kr.some (by omega)
  have hsg := Row.seg h.kr
  have hnk := ok.nkp
  generalize hkv : S.kept = kv at *
  obtain ⟨ka, kn, kc⟩ := kv
  dsimp only at *
  subst ha
  have HKV := hid hkv
  have BO := hid (bodyOf_any (some ⟨g, off, none⟩) kn kc w (by omega))
  have HSB := hid (seg_body hsg hkl hcn (by omega))
  have HBL := hid (show (A.kp.drop 4).length = kn - 4 from by rw [List.length_drop, hkl])
  have RS := hid (readCH_any (if kc = 4 then some ⟨g, off, none⟩ else (some (⟨g, off, none⟩ : Addr)).map (·.add 4)) (kn - 4) (kc - 4) (A.kp.drop 4) w HBL.out (by omega) (ok.kp.drop 4) HSB.out)
  have HSG := hid hsg
  have HKL := hid hkl
  have HSS := hid (show A.ss.length ≤ 8 from by have := ok.nss; unfold okTs at this; simp at this; omega)
  clear h ok hkv hsg
  generalize (if kc = 4 then some (⟨g, off, none⟩ : Addr) else (some (⟨g, off, none⟩ : Addr)).map (·.add 4)) = ba at *
  have HT := hid (show tkCH A = if chOk (A.kp.drop 4) = true then (if ixF A.ss (chQ (A.kp.drop 4)).1 < A.ss.length then (0, coA (ch5 A)) else (102, A)) else (100, A) from rfl)
  by_cases hb : chOk (A.kp.drop 4) = true
  · rw [if_pos hb] at HT
    have hb2 := hb
    unfold chOk okTs at hb2
    simp only [Bool.and_eq_true, decide_eq_true_eq] at hb2
    have HQ8 := hid (show (chQ (A.kp.drop 4)).1.length ≤ 8 from hb2.1.2.1.2)
    have HP1 := hid (show (chD (A.kp.drop 4)).1.length ≤ 1024 from hb2.2)
    clear hb2
    rw [hb] at RS
    clear hb
    generalize hpub : (rdG (A.kp.drop 4) 0 0).1 = pub at *
    have HPUB := hid hpub
    clear hpub
    generalize hqs : (chQ (A.kp.drop 4)).1 = qs at *
    have HQS := hid hqs
    clear hqs
    generalize hpd : (chD (A.kp.drop 4)).1 = pd at *
    have HPD := hid hpd
    clear hpd
    by_cases hix : ixF A.ss qs < A.ss.length
    · rw [if_pos hix] at HT
      obtain ⟨k, hk⟩ : ∃ k, ixF A.ss qs = k := ⟨_, rfl⟩
      have HIG := hid (show ixG A.ss qs = (k : Int) from by unfold ixG; rw [if_pos hix, hk])
      have HKX := hid hk
      rw [hk] at hix
      have HIX := hid hix
      clear hk hix
      go_enter Try.func30, Try.ntmps30
      go_wp2_with (first
        | (go_at_call 41; refine BO.out.mono ?_; rintro e w1 ⟨rfl, rfl⟩)
        | (go_at_call 40; refine RS.out.mono ?_; rintro e w2 ⟨⟨ta, tn, tc⟩, ⟨pa, pn, pc⟩, rfl, q2, rt2, nt2, rp2, np2⟩; have Q2 := hid q2; have RT2 := hid rt2; have NT2 := hid nt2; have RP2 := hid rp2; have NP2 := hid np2; clear q2 rt2 nt2 rp2 np2; dsimp only; refine Hid.out ?_))
      refine hid ?_
      have hob := heap_alloc_new w2 (.cells #[.int .i64 pub, .slice ta tn tc, .slice pa pn pc] 78)
      have a3 := Aft.q HF.out (Q2.out.alloc (.cells #[.int .i64 pub, .slice ta tn tc, .slice pa pn pc] 78))
      have HQN := hid (RT2.out.q2 (.cells #[.int .i64 pub, .slice ta tn tc, .slice pa pn pc] 78))
      have rp3 := Sub.q RP2.out ((Q.refl w2).alloc (.cells #[.int .i64 pub, .slice ta tn tc, .slice pa pn pc] 78))
      have RP3 := hid rp3
      clear rp3
      have HOB := hid (show OB _ w2.heap.size pub ⟨ta, tn, tc⟩ ⟨pa, pn, pc⟩ from hob)
      have A3 := hid a3
      clear hob a3
      obtain ⟨⟨tta, ttn, ttc⟩, ⟨pra, prn, prc⟩, rg, rl, tr, pr, c34, c35⟩ := A3.out.f.ownAt
      dsimp only at *
      have TR := hid tr
      have PR := hid pr
      have RG := hid rg
      have RL := hid rl
      have C34 := hid c34
      have C35 := hid c35
      clear tr pr rg rl c35
      have IXF := hid (indexFunc_any tta ttn ttc A.ss w2.heap.size pub ⟨ta, tn, tc⟩ ⟨pa, pn, pc⟩ qs _ TR.out.l TR.out.s (by have := TR.out.l; have := HSS.out; dsimp only at *; omega) HOB.out HQN.out.1 HQN.out.2 (by have := HQN.out.2; have := HQ8.out; dsimp only at *; omega))
      rw [HIG.out] at IXF
      obtain ⟨tb, tp, htt, hcs⟩ := TR.out.s (by intro e; have := HIX.out; rw [e] at this; exact absurd this (by simp))
      dsimp only at htt
      subst htt
      have hk0 : ¬ ((k : Int) < 0) := by omega
      go_upto_region 7 with (first
        | (go_at_call 42; refine IXF.out.mono ?_; rintro e w4 ⟨rfl, rfl⟩))
      generalize hR : Code.region 7 _ true = CC
      have eR : CC = Code.region 7 (RofN Try.f30 7) true := hR.symm.trans (by kernel_rfl)
      clear hR
      subst eR
      refine wp_region_noPanic ?_
      have hsz : sb < w2.heap.size := Nat.lt_of_lt_of_le HF.out.sd.at_.lt Q2.out.size
      refine tc7 sb w2.heap.size tb tp ttn ttc k (A.ss.getD k ByteArray.empty) ⟨pa, pn, pc⟩ S _ _ (fun c a d v w h => h) (by have := HIX.out; have := TR.out.l; dsimp only at *; omega) (fun e => (TR.out.b tb rfl).1 (mut_sb tb e)) (by omega) (A3.out.f.q ((Q.refl _).drew)).sd.at_ ⟨C34.out, hcs k HIX.out, HOB.out.c2⟩ ?_
      intro w5 k5 a5
      have HNM := hid (show ¬ Mut sb S Fs w2.heap.size from fun m => by have := (HF.out.mut m).2; have := Q2.out.size; omega)
      have d5 := Fu.setPr2 A3.out.f HF.out RP3.out NP2.out k5 a5
      generalize hS1 : ({ S with proto := A.ss.getD k ByteArray.empty, peer := ⟨pa, pn, pc⟩ } : Sh) = S1 at d5
      rw [show ({ A with pr := A.ss.getD k ByteArray.empty, pe := pd } : Ab) = ch1 A from by unfold ch1; rw [HQS.out, HKX.out, HPD.out]] at d5
      clear hS1 a5 k5 hcs
      have D5 := hid d5
      clear d5 hsz
      have HSD := hid (show (ch1 A).sd.length + A.kp.length ≤ 105000 from by show A.sd.length + _ ≤ _; have := HO.out.nsd; have := HO.out.nkp; omega)
      have HZ1 := hid (show ByL ((ch1 A).sd ++ A.kp) from HO.out.sd.app HO.out.kp)
      have HZ2 := hid (show ByL (ch2 A).sd from HZ1.out.app (msgL_by (grL_by HO.out.rs) (by decide) (by decide)))
      have HL2 := hid (show (ch2 A).sd.length ≤ 105044 from by show (((ch1 A).sd ++ A.kp) ++ _).length ≤ _; rw [List.length_append, List.length_append, msgL_len, grL_len RL.out]; have := HSD.out; omega)
      have HSI := hid (show (ch1 A).pr.size ≤ 32 from okTs_sz HO.out.nss _)
      have HO3 := hid (show (ch3 A).out.length ≤ 1000 from by have h1 : (ch3 A).out.length ≤ A.out.length + 1 := addC_len _ _ _; have := HO.out.no; omega)
      have HZ3 := hid (show ∀ x ∈ (ch3 A).out, x.2.length ≤ 500000 from fun x hx => by have h1 := addC_bd HO.out.nz x hx; rw [msgL_len, grL_len RL.out] at h1; omega)
      have HO4 := hid (show (ch4 A).out.length ≤ 1000 from by have h1 : (ch3 A).out.length ≤ A.out.length + 1 := addC_len _ _ _; have h2 : (ch4 A).out.length ≤ (ch3 A).out.length + 1 := addC_len _ _ _; have := HO.out.no; omega)
      have HZO := hid (show ∀ x ∈ (ch4 A).out, x.2.length ≤ 500000 from fun x hx => by have h1 := addC_bd (addC_bd HO.out.nz) x hx; rw [msgL_len, grL_len RL.out, coB_len] at h1; have := HSI.out; have := HO.out.nps; omega)
      have HK5 := hid (show Seg w5 (some ⟨g, off, none⟩) A.kp from by
        have hr := D5.out.f.kr
        rw [D5.out.kp, HKV.out] at hr
        exact Row.seg hr)
      refine NoPanic.normal ?_
      refine ‹∀ a w, Code.wp Try.prog _ _ a w → _› _ _ ?_
      clear c34
      go_upto_region 11 with (first
        | (go_at_call 45; refine (hearF B sb S1 Fs (ch1 A) ⟨some ⟨g, off, none⟩, kn, kc⟩ A.kp w5 D5.out.f HK5.out HKL.out (by have := HSD.out; omega)).mono ?_; rintro e w6 ⟨rfl, S6, a6, -, -⟩; have D6 := hid (D5.out.trans a6); clear a6; obtain ⟨t6, p6, rg6, rl6, -⟩ := D6.out.f.ownAt; have RL6 := hid rl6; clear rl6)
        | (refine wpList_load_mid rfl 26 _ rfl sb 0 rfl _ _ rg6 Try.underlying26 rfl (ccells_info RL6.out) ?_)
        | (go_at_call 46; refine (serverHello_new A.sv A.rs A.pv t6 p6 w6 RL6.out (by have := HO.out.pv; omega)).mono ?_; rintro e w7 ⟨⟨ma, mn, mc⟩, rfl, q7, r7, n7⟩; have D7 := hid (D6.out.trans (Aft.q D6.out.f q7)); have R7 := hid r7; have N7 := hid (not_mut D6.out.f n7); clear q7 r7 n7)
        | (go_at_call 25; refine (sayF B sb S6 Fs (hearA (ch1 A) A.kp) 0 ⟨ma, mn, mc⟩ (msgL 2 (grL A.rs A.pv)) w7 D7.out.f R7.out N7.out (by rw [msgL_len, grL_len RL.out]; have := HSD.out; show ((ch1 A).sd ++ A.kp).length + _ ≤ _; rw [List.length_append]; omega) (by have := HO.out.no; show A.out.length ≤ _; omega) (fun x hx => by have := HO.out.nz x hx; omega) (by rw [msgL_len, grL_len RL.out]; omega)).mono ?_; rintro e w8 ⟨rfl, S8, F8, a8, -, -⟩; have D8 := hid (D7.out.trans a8); clear a8; have c0 := (HOB.out.keep D8.out.k HNM.out).c0)
        | (go_at_call 47; refine (agr_any B sb S8 F8 (ch2 A) pub w8 D8.out.f HZ2.out (by have := HL2.out; omega) (by have := HO.out.pv; show A.pv ≤ _; omega)).mono ?_; rintro e w9 ⟨rfl, S9, a9⟩; have D9 := hid (D8.out.trans a9); clear a9 c0))
      generalize hR : Code.region 11 _ true = CC
      have eR : CC = Code.region 11 (RofN Try.f30 11) true := hR.symm.trans (by kernel_rfl)
      clear hR
      subst eR
      refine wp_region_noPanic ?_
      have e3 : agA (ch2 A) pub = ch3 A := by unfold ch3; rw [HPUB.out]
      rw [e3] at D9
      clear e3
      have D9d := hid (D9.out.trans (Aft.q D9.out.f ((Q.refl w9).drew)))
      obtain ⟨t9, ⟨p9a, p9n, p9c⟩, -, -, -, pr9, -, c35⟩ := D9d.out.f.ownAt
      have c60 := D9d.out.f.sd.at_.proto
      rw [show S9.proto = (ch1 A).pr from D9d.out.f.re.pr] at c60
      have HPN := hid (show A.ps.length = p9n from pr9.l)
      have CH := hid (choice_new (ch1 A).pr ⟨p9a, p9n, p9c⟩ A.ps w9.drew pr9.s pr9.l (by show p9n ≤ _; have := HPN.out; have := HO.out.nps; omega) HSI.out)
      have HCL := hid (show (coB (ch1 A).pr A.ps).length ≤ 1063 from by rw [coB_len]; have := HSI.out; have := HO.out.nps; omega)
      have HL3 := hid (show (ch3 A).sd.length ≤ 105044 from HL2.out)
      refine tc11 sb (ch1 A).pr ⟨p9a, p9n, p9c⟩ w9 _ (fun c a d v w h => h) c60 c35 (fun m v => Q w9.drew v ∧ Row v m (coB (ch1 A).pr A.ps) ∧ New w9.drew.heap.size m) (fun v => ∃ S' F', Aft _ B sb S Fs (ch4 A) v S' F') (fun u hu => by subst hu; exact CH.out) (fun u m hy => (sayF B sb S9 F8 (ch3 A) 1 m (coB (ch1 A).pr A.ps) u (D9d.out.f.q hy.1) hy.2.1 (not_mut D9d.out.f hy.2.2) (by have := HL3.out; have := HCL.out; omega) HO3.out HZ3.out (by have := HCL.out; omega)).mono (fun e v ⟨he, S', F', a, _, _⟩ => ⟨he, S', F', (D9d.out.trans (Aft.q D9d.out.f hy.1)).trans a⟩)) trivial ?_
      rintro m10a m10n m10c w10 ⟨S10, F10, d10⟩
      have D10 := hid d10
      clear d10 c60 c35 pr9
      refine NoPanic.normal ?_
      refine ‹∀ a w, Code.wp Try.prog _ _ a w → _› _ _ ?_
      have c57 := D10.out.f.sd.at_.handS
      have rc := D10.out.f.re.hs
      generalize hcv : S10.handS = cv at c57 rc
      obtain ⟨cva, cvn, cvc⟩ := cv
      dsimp only at c57
      clear hcv
      have HL4 := hid (show (ch4 A).sd.length ≤ 106107 from by show ((ch3 A).sd ++ coB (ch1 A).pr A.ps).length ≤ _; rw [List.length_append]; have := HL3.out; have := HCL.out; omega)
      have HZ4 := hid (show ByL (ch4 A).sd from HZ2.out.app (coB_by HO.out.ps))
      have PF := hid (proof_any sb S10 (ch4 A).sd ⟨cva, cvn, cvc⟩ (ch4 A).hs w10 D10.out.f.sd.at_ (Row.seg D10.out.f.sd.sr) (Row.len D10.out.f.sd.sr) (by have h1 : (ch4 A).sd.length = S10.said.n := Row.len D10.out.f.sd.sr; have := HL4.out; omega) HZ4.out rc.s rc.l (by have h2 : (ch4 A).hs.length = cvn := rc.l; have h3 : (ch4 A).hs.length ≤ 16 := by { rw [ch4_hs]; exact expR_le _ _ }; show cvn ≤ _; omega) (by rw [ch4_hs]; exact expR_by _ _ _) (dg_lt _))
      clear rc
      dsimp only at PF
      have HPL := hid (show dg ([102, 105, 110] ++ ((ch4 A).hs ++ dg (ch4 A).sd)) = prL (ch4 A).hs (ch4 A).sd from rfl)
      have HPK := hid (show (prL (ch4 A).hs (ch4 A).sd).length = 16 from dg_len _)
      rw [HPL.out] at PF
      have HZ5 := hid (show ByL (ch5 A).sd from HZ4.out.app (msgL_by (dg_lt _) (by decide) (by decide)))
      have HL5 := hid (show (ch5 A).sd.length ≤ 106127 from by show ((ch4 A).sd ++ msgL 20 _).length ≤ _; rw [List.length_append, msgL_len, HPK.out]; have := HL4.out; omega)
      have E5 := hid (show ch5 A = sayA (ch4 A) 1 (msgL 20 (prL (ch4 A).hs (ch4 A).sd)) from rfl)
      generalize prL (ch4 A).hs (ch4 A).sd = pl at *
      clear HPL
      go_wp2_with (first
        | (go_at_call 50; refine PF.out.mono ?_; rintro e w11 ⟨g11, rfl, q11, s11, n11⟩; have D11 := hid (D10.out.trans (Aft.q D10.out.f q11)); have S11 := hid s11; clear q11 s11 n11 c57)
        | (go_at_call 49; refine (finished_new ⟨some ⟨g11, 0, none⟩, 16, 16⟩ pl w11 S11.out HPK.out (by show 16 ≤ _; omega)).mono ?_; rintro e w12 ⟨⟨fa, fn, fc⟩, rfl, q12, r12, n12⟩; have D12 := hid (D11.out.trans (Aft.q D11.out.f q12)); have R12 := hid r12; have N12 := hid (not_mut D11.out.f n12); clear q12 r12 n12)
        | (go_at_call 25; refine (sayF B sb S10 F10 (ch4 A) 1 ⟨fa, fn, fc⟩ (msgL 20 pl) w12 D12.out.f R12.out N12.out (by rw [msgL_len, HPK.out]; have := HL4.out; omega) HO4.out HZO.out (by rw [msgL_len, HPK.out]; omega)).mono ?_; rintro e w13 ⟨rfl, S13, F13, a13, -, -⟩; rw [← E5.out] at a13; have D13 := hid (D12.out.trans a13); clear a13)
        | (go_at_call 51; refine (con_any B sb S13 F13 (ch5 A) w13 D13.out.f HZ5.out (by have := HL5.out; omega) (dg_lt _)).mono ?_; rintro e w14 ⟨rfl, S14, a14⟩; have D14 := hid (D13.out.trans a14); clear a14))
      go_ret
      refine ⟨by rw [HT.out]; rfl, S14, F13, ?_⟩
      rw [HT.out]
      exact A3.out.trans D14.out
    · rw [if_neg hix] at HT
      have HIG := hid (show ixG A.ss qs = -1 from by unfold ixG; rw [if_neg hix])
      clear hix
      go_enter Try.func30, Try.ntmps30
      go_wp2_with (first
        | (go_at_call 41; refine BO.out.mono ?_; rintro e w1 ⟨rfl, rfl⟩)
        | (go_at_call 40; refine RS.out.mono ?_; rintro e w2 ⟨⟨ta, tn, tc⟩, ⟨pa, pn, pc⟩, rfl, q2, rt2, nt2, rp2, np2⟩; have Q2 := hid q2; have RT2 := hid rt2; clear q2 rt2 nt2 rp2 np2; dsimp only; refine Hid.out ?_))
      refine hid ?_
      have hob := heap_alloc_new w2 (.cells #[.int .i64 pub, .slice ta tn tc, .slice pa pn pc] 78)
      have a3 := Aft.q HF.out (Q2.out.alloc (.cells #[.int .i64 pub, .slice ta tn tc, .slice pa pn pc] 78))
      have HQN := hid (RT2.out.q2 (.cells #[.int .i64 pub, .slice ta tn tc, .slice pa pn pc] 78))
      have HOB := hid (show OB _ w2.heap.size pub ⟨ta, tn, tc⟩ ⟨pa, pn, pc⟩ from hob)
      have A3 := hid a3
      clear hob a3
      obtain ⟨⟨tta, ttn, ttc⟩, ⟨pra, prn, prc⟩, rg, rl, tr, pr, c34, c35⟩ := A3.out.f.ownAt
      dsimp only at *
      have TR := hid tr
      have PR := hid pr
      have RG := hid rg
      have RL := hid rl
      have C34 := hid c34
      have C35 := hid c35
      clear tr pr rg rl c35
      have IXF := hid (indexFunc_any tta ttn ttc A.ss w2.heap.size pub ⟨ta, tn, tc⟩ ⟨pa, pn, pc⟩ qs _ TR.out.l TR.out.s (by have := TR.out.l; have := HSS.out; dsimp only at *; omega) HOB.out HQN.out.1 HQN.out.2 (by have := HQN.out.2; have := HQ8.out; dsimp only at *; omega))
      rw [HIG.out] at IXF
      go_wp2_with (first
        | (go_at_call 42; refine IXF.out.mono ?_; rintro e w4 ⟨rfl, rfl⟩))
      go_ret
      refine ⟨by rw [HT.out]; rfl, S, Fs, ?_⟩
      rw [HT.out]
      exact A3.out
  · rw [if_neg hb] at HT
    have hb' : chOk (A.kp.drop 4) = false := by simpa using hb
    rw [hb'] at RS
    clear hb hb'
    generalize (rdG (A.kp.drop 4) 0 0).1 = pub at *
    go_enter Try.func30, Try.ntmps30
    go_wp2_with (first
      | (go_at_call 41; refine BO.out.mono ?_; rintro e w1 ⟨rfl, rfl⟩)
      | (go_at_call 40; refine RS.out.mono ?_; rintro e w2 ⟨⟨ta, tn, tc⟩, ⟨pa, pn, pc⟩, rfl, q2, -, -, -, -⟩; have Q2 := hid q2; clear q2; dsimp only))
    go_ret
    refine ⟨by rw [HT.out]; rfl, S, Fs, ?_⟩
    rw [HT.out]
    exact Aft.q HF.out (Q2.out.alloc _)
end Go.Proofs.Ytekpepnonhbkcaa

/-
  The drawn region of shake's takeKept, gone through by hand, a lemma a state.
-/
namespace Go.Proofs.Ytekpepnonhbkcaa
open Go.RowKit
set_option linter.unusedVariables false
set_option maxRecDepth 20000

theorem ld61 {w : World} {b j : Nat} {v : Sv} (hc : w.cell? ⟨b, j, none⟩ = some (.slice v.a v.n v.c)) : (loadVar 61 ⟨b, j, none⟩).run Try.prog w = .ok (.slice v.a v.n v.c) w := by simp [loadVar, go_sem, hc]
theorem ld69 {w : World} {b j f : Nat} (hc : w.cell? ⟨b, j, none⟩ = some (.func (.func f) #[] #[])) : (loadVar 69 ⟨b, j, none⟩).run Try.prog w = .ok (.func (.func f) #[] #[]) w := by simp [loadVar, go_sem, hc]
theorem ixa61 {o : Oper} {a : Act} {w : World} (x : Operand) (g off n c : Nat) (hk : 0 < n) (ho : o.op = .indexAddr 61 x (.const (.int .i64 0))) (hx : a.eval x = .slice (some ⟨g, off, none⟩) n c) (hz : a.eval (.const (.int .i64 0)) = .int .i64 0) :
    (execOp a.eval o).run Try.prog w = .ok (.value (.pointer (some ⟨g, off, none⟩))) w := by
  have h1 : (0 : Int) < (n : Int) := by omega
  unfold execOp
  simp only [ho, hx, hz]
  simp [go_sem]
  intro e
  omega
def tk7g0z (sb wb wo wn wc f : Nat) (k : Sv) (er : Int)  : List (Nat × Value) := [(0, .pointer (some ⟨sb, 0, none⟩)), (7, .pointer (some ⟨sb, 0, none⟩)), (8, .pointer (some ⟨sb, 0, none⟩)), (1, .pointer (some ⟨sb, 0, none⟩)), (9, .pointer (some ⟨sb, 0, none⟩)), (2, .pointer (some ⟨sb, 36, none⟩)), (10, .pointer (some ⟨sb, 37, none⟩))]
set_option maxHeartbeats 8000000 in
theorem tk7g0 (sb wb wo wn wc f : Nat) (k : Sv) (er : Int)  {x1 x2 x3 x4 x5 x6 x7 x8 x9 x10 x11 x12 x13 x14 x15 x16 x17 x18 x19 x20 x21 x22 x23 x24 x25 x26 x27 x28 x29 x30 x31 x32 x33 x34 x35 x36 x37 x38 x39 x40 x41 x42 x43 x44 x45 x46 x47 x48 x49 x50 : Value} (w : World) (hwn : 0 < wn) (hf : f = 30 ∨ f = 31 ∨ f = 32 ∨ f = 33 ∨ f = 34) (c36 : w.drew.cell? ⟨sb, 36, none⟩ = some (.slice (some ⟨wb, wo, none⟩) wn wc)) (c2 : w.drew.cell? ⟨wb, wo + 2, none⟩ = some (.func (.func f) #[] #[])) (c37 : w.drew.cell? ⟨sb, 37, none⟩ = some (.slice k.a k.n k.c)) (Y : World → Prop)
    (HC : ∀ u, u = w.drew → Calls Try.prog f #[.pointer (some ⟨sb, 0, none⟩), .slice k.a k.n k.c] u fun e v => e = .returned (.int .i64 er) ∧ Y v) : Chn Try.prog (RofN Try.f39 7) (fun _ => True) (tk7g0z sb wb wo wn wc f k er ) (#[false, false, false, false, false, false, false, false, false, false, false, false, false, false] : Array Bool) (⟨#[.pointer (some ⟨sb, 0, none⟩), x1, x2, x3, x4, x5, x6, x7, x8, x9, x10, x11, x12, x13, x14, x15, x16, x17, x18, x19, x20, x21, x22, x23, x24, x25, x26, x27, x28, x29, x30, x31, x32, x33, x34, x35, x36, x37, x38, x39, x40, x41, x42, x43, x44, x45, x46, x47, x48, x49, x50], []⟩ : Act) :=
  ⟨⟨by kernel_rfl, by kernel_rfl, by kernel_rfl, by kernel_rfl, fun u h => by kernel_rfl⟩,
    ⟨by kernel_rfl, by kernel_rfl, by kernel_rfl, by kernel_rfl, fun u h => by kernel_rfl⟩,
    ⟨by kernel_rfl, by kernel_rfl, by kernel_rfl, by kernel_rfl, fun u h => by kernel_rfl⟩,
    ⟨by kernel_rfl, by kernel_rfl, by kernel_rfl, by kernel_rfl, fun u h => by kernel_rfl⟩,
    ⟨by kernel_rfl, by kernel_rfl, by kernel_rfl, by kernel_rfl, fun u h => by kernel_rfl⟩,
    ⟨by kernel_rfl, by kernel_rfl, by kernel_rfl, by kernel_rfl, fun u h => by kernel_rfl⟩,
    ⟨by kernel_rfl, by kernel_rfl, by kernel_rfl, by kernel_rfl, fun u h => by kernel_rfl⟩,
    trivial⟩
def tk7g1z (sb wb wo wn wc f : Nat) (k : Sv) (er : Int)  : List (Nat × Value) := [(4, .pointer (some ⟨wb, wo, none⟩)), (5, .pointer (some ⟨wb, wo + 2, none⟩))]
set_option maxHeartbeats 8000000 in
theorem tk7g1 (sb wb wo wn wc f : Nat) (k : Sv) (er : Int)  {x1 x2 x3 x4 x5 x6 x7 x8 x9 x10 x11 x12 x13 x14 x15 x16 x17 x18 x23 x24 x25 x30 x31 x32 x33 x34 x35 x36 x37 x38 x39 x40 x41 x42 x43 x44 x45 x46 x47 x48 x49 x50 : Value} (w : World) (hwn : 0 < wn) (hf : f = 30 ∨ f = 31 ∨ f = 32 ∨ f = 33 ∨ f = 34) (c36 : w.drew.cell? ⟨sb, 36, none⟩ = some (.slice (some ⟨wb, wo, none⟩) wn wc)) (c2 : w.drew.cell? ⟨wb, wo + 2, none⟩ = some (.func (.func f) #[] #[])) (c37 : w.drew.cell? ⟨sb, 37, none⟩ = some (.slice k.a k.n k.c)) (Y : World → Prop)
    (HC : ∀ u, u = w.drew → Calls Try.prog f #[.pointer (some ⟨sb, 0, none⟩), .slice k.a k.n k.c] u fun e v => e = .returned (.int .i64 er) ∧ Y v) : Chn Try.prog (RofN Try.f39 7) (fun _ => True) (tk7g1z sb wb wo wn wc f k er ) (#[true, true, true, true, false, false, false, true, true, true, true, false, false, false] : Array Bool) (⟨#[.pointer (some ⟨sb, 0, none⟩), x1, x2, x3, x4, x5, x6, x7, x8, x9, x10, x11, x12, x13, x14, x15, x16, x17, x18, .pointer (some ⟨sb, 0, none⟩), .pointer (some ⟨sb, 0, none⟩), .pointer (some ⟨sb, 36, none⟩), .slice (some ⟨wb, wo, none⟩) wn wc, x23, x24, x25, .pointer (some ⟨sb, 0, none⟩), .pointer (some ⟨sb, 0, none⟩), .pointer (some ⟨sb, 0, none⟩), .pointer (some ⟨sb, 37, none⟩), x30, x31, x32, x33, x34, x35, x36, x37, x38, x39, x40, x41, x42, x43, x44, x45, x46, x47, x48, x49, x50], []⟩ : Act) :=
  ⟨⟨by kernel_rfl, by kernel_rfl, by kernel_rfl, by kernel_rfl, fun u h => ixa61 (.tmp 22) wb wo wn wc hwn (by kernel_rfl) (by kernel_rfl) (by kernel_rfl)⟩,
    ⟨by kernel_rfl, by kernel_rfl, by kernel_rfl, by kernel_rfl, fun u h => by kernel_rfl⟩,
    trivial⟩
def tk7g2z (sb wb wo wn wc f : Nat) (k : Sv) (er : Int)   : List (Nat × Value) := [(4, .pointer (some ⟨wb, wo, none⟩)), (5, .pointer (some ⟨wb, wo + 2, none⟩))]
set_option maxHeartbeats 8000000 in
theorem tk7g2 (sb wb wo wn wc f : Nat) (k : Sv) (er : Int)   {x1 x2 x3 x4 x5 x6 x7 x8 x9 x10 x11 x12 x13 x14 x15 x16 x17 x18 x23 x24 x25 x31 x32 x33 x34 x35 x36 x37 x38 x39 x40 x41 x42 x43 x44 x45 x46 x47 x48 x49 x50 : Value} (w : World) (hwn : 0 < wn) (hf : f = 30 ∨ f = 31 ∨ f = 32 ∨ f = 33 ∨ f = 34) (c36 : w.drew.cell? ⟨sb, 36, none⟩ = some (.slice (some ⟨wb, wo, none⟩) wn wc)) (c2 : w.drew.cell? ⟨wb, wo + 2, none⟩ = some (.func (.func f) #[] #[])) (c37 : w.drew.cell? ⟨sb, 37, none⟩ = some (.slice k.a k.n k.c)) (Y : World → Prop)
    (HC : ∀ u, u = w.drew → Calls Try.prog f #[.pointer (some ⟨sb, 0, none⟩), .slice k.a k.n k.c] u fun e v => e = .returned (.int .i64 er) ∧ Y v) : Chn Try.prog (RofN Try.f39 7) (fun _ => True) (tk7g2z sb wb wo wn wc f k er ) (#[true, true, true, true, false, false, false, true, true, true, true, true, false, false] : Array Bool) (⟨#[.pointer (some ⟨sb, 0, none⟩), x1, x2, x3, x4, x5, x6, x7, x8, x9, x10, x11, x12, x13, x14, x15, x16, x17, x18, .pointer (some ⟨sb, 0, none⟩), .pointer (some ⟨sb, 0, none⟩), .pointer (some ⟨sb, 36, none⟩), .slice (some ⟨wb, wo, none⟩) wn wc, x23, x24, x25, .pointer (some ⟨sb, 0, none⟩), .pointer (some ⟨sb, 0, none⟩), .pointer (some ⟨sb, 0, none⟩), .pointer (some ⟨sb, 37, none⟩), .slice k.a k.n k.c, x31, x32, x33, x34, x35, x36, x37, x38, x39, x40, x41, x42, x43, x44, x45, x46, x47, x48, x49, x50], []⟩ : Act) :=
  ⟨⟨by kernel_rfl, by kernel_rfl, by kernel_rfl, by kernel_rfl, fun u h => ixa61 (.tmp 22) wb wo wn wc hwn (by kernel_rfl) (by kernel_rfl) (by kernel_rfl)⟩,
    ⟨by kernel_rfl, by kernel_rfl, by kernel_rfl, by kernel_rfl, fun u h => by kernel_rfl⟩,
    trivial⟩
def tk7g3z (sb wb wo wn wc f : Nat) (k : Sv) (er : Int)     : List (Nat × Value) := [(13, .int .i64 er)]
set_option maxHeartbeats 8000000 in
theorem tk7g3 (sb wb wo wn wc f : Nat) (k : Sv) (er : Int)     {x1 x2 x3 x4 x5 x6 x7 x8 x9 x10 x11 x12 x13 x14 x15 x16 x17 x18 x32 x33 x34 x35 x36 x37 x38 x39 x40 x41 x42 x43 x44 x45 x46 x47 x48 x49 x50 : Value} (w : World) (hwn : 0 < wn) (hf : f = 30 ∨ f = 31 ∨ f = 32 ∨ f = 33 ∨ f = 34) (c36 : w.drew.cell? ⟨sb, 36, none⟩ = some (.slice (some ⟨wb, wo, none⟩) wn wc)) (c2 : w.drew.cell? ⟨wb, wo + 2, none⟩ = some (.func (.func f) #[] #[])) (c37 : w.drew.cell? ⟨sb, 37, none⟩ = some (.slice k.a k.n k.c)) (Y : World → Prop)
    (HC : ∀ u, u = w.drew → Calls Try.prog f #[.pointer (some ⟨sb, 0, none⟩), .slice k.a k.n k.c] u fun e v => e = .returned (.int .i64 er) ∧ Y v) : Chn Try.prog (RofN Try.f39 7) (fun _ => True) (tk7g3z sb wb wo wn wc f k er ) (#[true, true, true, true, true, true, true, true, true, true, true, true, true, false] : Array Bool) (⟨#[.pointer (some ⟨sb, 0, none⟩), x1, x2, x3, x4, x5, x6, x7, x8, x9, x10, x11, x12, x13, x14, x15, x16, x17, x18, .pointer (some ⟨sb, 0, none⟩), .pointer (some ⟨sb, 0, none⟩), .pointer (some ⟨sb, 36, none⟩), .slice (some ⟨wb, wo, none⟩) wn wc, .pointer (some ⟨wb, wo, none⟩), .pointer (some ⟨wb, wo + 2, none⟩), .func (.func f) #[] #[], .pointer (some ⟨sb, 0, none⟩), .pointer (some ⟨sb, 0, none⟩), .pointer (some ⟨sb, 0, none⟩), .pointer (some ⟨sb, 37, none⟩), .slice k.a k.n k.c, .int .i64 er, x32, x33, x34, x35, x36, x37, x38, x39, x40, x41, x42, x43, x44, x45, x46, x47, x48, x49, x50], []⟩ : Act) :=
  ⟨⟨by kernel_rfl, by kernel_rfl, by kernel_rfl, by kernel_rfl, fun u h => by kernel_rfl⟩,
    trivial⟩
set_option maxHeartbeats 16000000 in
theorem tk7_3_6_11_12 (sb wb wo wn wc f : Nat) (k : Sv) (er : Int)     {x1 x2 x3 x5 x6 x7 x8 x9 x10 x11 x12 x13 x14 x15 x16 x17 x18 x32 x33 x34 x35 x36 x37 x38 x39 x40 x41 x42 x43 x44 x45 x46 x47 x48 x49 x50 : Value} (w : World) (R : Exit → Act → World → Prop) (hQ : ∀ c a d v w, R (.panic c) (a.put d v) w → R (.panic c) a w) (hwn : 0 < wn) (hf : f = 30 ∨ f = 31 ∨ f = 32 ∨ f = 33 ∨ f = 34) (c36 : w.drew.cell? ⟨sb, 36, none⟩ = some (.slice (some ⟨wb, wo, none⟩) wn wc)) (c2 : w.drew.cell? ⟨wb, wo + 2, none⟩ = some (.func (.func f) #[] #[])) (c37 : w.drew.cell? ⟨sb, 37, none⟩ = some (.slice k.a k.n k.c)) (Y : World → Prop)
    (HC : ∀ u, u = w.drew → Calls Try.prog f #[.pointer (some ⟨sb, 0, none⟩), .slice k.a k.n k.c] u fun e v => e = .returned (.int .i64 er) ∧ Y v)
    (h : ∀ (u : World), Y u → R .normal (⟨#[.pointer (some ⟨sb, 0, none⟩), x1, x2, x3, .int .i64 er, x5, x6, x7, x8, x9, x10, x11, x12, x13, x14, x15, x16, x17, x18, .pointer (some ⟨sb, 0, none⟩), .pointer (some ⟨sb, 0, none⟩), .pointer (some ⟨sb, 36, none⟩), .slice (some ⟨wb, wo, none⟩) wn wc, .pointer (some ⟨wb, wo, none⟩), .pointer (some ⟨wb, wo + 2, none⟩), .func (.func f) #[] #[], .pointer (some ⟨sb, 0, none⟩), .pointer (some ⟨sb, 0, none⟩), .pointer (some ⟨sb, 0, none⟩), .pointer (some ⟨sb, 37, none⟩), .slice k.a k.n k.c, .int .i64 er, x32, x33, x34, x35, x36, x37, x38, x39, x40, x41, x42, x43, x44, x45, x46, x47, x48, x49, x50], []⟩ : Act) u) (u : World) (hS : (fun _ => True) u) (y31 : Y u) :
    wpAnyH Try.prog .any (RofN Try.f39 7) R (fun _ => True) 0 (#[true, true, true, true, true, true, true, true, true, true, true, true, true, true] : Array Bool) (⟨#[.pointer (some ⟨sb, 0, none⟩), x1, x2, x3, .int .i64 er, x5, x6, x7, x8, x9, x10, x11, x12, x13, x14, x15, x16, x17, x18, .pointer (some ⟨sb, 0, none⟩), .pointer (some ⟨sb, 0, none⟩), .pointer (some ⟨sb, 36, none⟩), .slice (some ⟨wb, wo, none⟩) wn wc, .pointer (some ⟨wb, wo, none⟩), .pointer (some ⟨wb, wo + 2, none⟩), .func (.func f) #[] #[], .pointer (some ⟨sb, 0, none⟩), .pointer (some ⟨sb, 0, none⟩), .pointer (some ⟨sb, 0, none⟩), .pointer (some ⟨sb, 37, none⟩), .slice k.a k.n k.c, .int .i64 er, x32, x33, x34, x35, x36, x37, x38, x39, x40, x41, x42, x43, x44, x45, x46, x47, x48, x49, x50], []⟩ : Act) u := by
  refine wpAnyH_done (by kernel_rfl) ?_ _
  exact h u y31
set_option maxHeartbeats 16000000 in
theorem tk7_3_6_11 (sb wb wo wn wc f : Nat) (k : Sv) (er : Int)    {x1 x2 x3 x4 x5 x6 x7 x8 x9 x10 x11 x12 x13 x14 x15 x16 x17 x18 x31 x32 x33 x34 x35 x36 x37 x38 x39 x40 x41 x42 x43 x44 x45 x46 x47 x48 x49 x50 : Value} (w : World) (R : Exit → Act → World → Prop) (hQ : ∀ c a d v w, R (.panic c) (a.put d v) w → R (.panic c) a w) (hwn : 0 < wn) (hf : f = 30 ∨ f = 31 ∨ f = 32 ∨ f = 33 ∨ f = 34) (c36 : w.drew.cell? ⟨sb, 36, none⟩ = some (.slice (some ⟨wb, wo, none⟩) wn wc)) (c2 : w.drew.cell? ⟨wb, wo + 2, none⟩ = some (.func (.func f) #[] #[])) (c37 : w.drew.cell? ⟨sb, 37, none⟩ = some (.slice k.a k.n k.c)) (Y : World → Prop)
    (HC : ∀ u, u = w.drew → Calls Try.prog f #[.pointer (some ⟨sb, 0, none⟩), .slice k.a k.n k.c] u fun e v => e = .returned (.int .i64 er) ∧ Y v)
    (h : ∀ (u : World), Y u → R .normal (⟨#[.pointer (some ⟨sb, 0, none⟩), x1, x2, x3, .int .i64 er, x5, x6, x7, x8, x9, x10, x11, x12, x13, x14, x15, x16, x17, x18, .pointer (some ⟨sb, 0, none⟩), .pointer (some ⟨sb, 0, none⟩), .pointer (some ⟨sb, 36, none⟩), .slice (some ⟨wb, wo, none⟩) wn wc, .pointer (some ⟨wb, wo, none⟩), .pointer (some ⟨wb, wo + 2, none⟩), .func (.func f) #[] #[], .pointer (some ⟨sb, 0, none⟩), .pointer (some ⟨sb, 0, none⟩), .pointer (some ⟨sb, 0, none⟩), .pointer (some ⟨sb, 37, none⟩), .slice k.a k.n k.c, .int .i64 er, x32, x33, x34, x35, x36, x37, x38, x39, x40, x41, x42, x43, x44, x45, x46, x47, x48, x49, x50], []⟩ : Act) u) (u : World) (hS : (fun _ => True) u) (hu : u = w.drew) :
    wpAnyH Try.prog .any (RofN Try.f39 7) R (fun _ => True) 2 (#[true, true, true, true, true, true, true, true, true, true, true, true, false, false] : Array Bool) (⟨#[.pointer (some ⟨sb, 0, none⟩), x1, x2, x3, x4, x5, x6, x7, x8, x9, x10, x11, x12, x13, x14, x15, x16, x17, x18, .pointer (some ⟨sb, 0, none⟩), .pointer (some ⟨sb, 0, none⟩), .pointer (some ⟨sb, 36, none⟩), .slice (some ⟨wb, wo, none⟩) wn wc, .pointer (some ⟨wb, wo, none⟩), .pointer (some ⟨wb, wo + 2, none⟩), .func (.func f) #[] #[], .pointer (some ⟨sb, 0, none⟩), .pointer (some ⟨sb, 0, none⟩), .pointer (some ⟨sb, 0, none⟩), .pointer (some ⟨sb, 37, none⟩), .slice k.a k.n k.c, x31, x32, x33, x34, x35, x36, x37, x38, x39, x40, x41, x42, x43, x44, x45, x46, x47, x48, x49, x50], []⟩ : Act) u := by
  refine wpAnyH_one (i := 12) (by kernel_rfl) ?_
  refine wpOp_callx (some 31) (by kernel_rfl) (by kernel_rfl) (by kernel_rfl) f #[.pointer (some ⟨sb, 0, none⟩), .slice k.a k.n k.c] (by rcases hf with rfl | rfl | rfl | rfl | rfl <;> kernel_rfl) (HC u hu) ?_
  rintro e v ⟨rfl, y31⟩
  have q0 : KU u v := trivial
  have hS1 : (fun _ => True) v := tc11_q hS q0
  refine ⟨_, rfl, hS1, ?_⟩
  have e1 : (⟨#[.pointer (some ⟨sb, 0, none⟩), x1, x2, x3, x4, x5, x6, x7, x8, x9, x10, x11, x12, x13, x14, x15, x16, x17, x18, .pointer (some ⟨sb, 0, none⟩), .pointer (some ⟨sb, 0, none⟩), .pointer (some ⟨sb, 36, none⟩), .slice (some ⟨wb, wo, none⟩) wn wc, .pointer (some ⟨wb, wo, none⟩), .pointer (some ⟨wb, wo + 2, none⟩), .func (.func f) #[] #[], .pointer (some ⟨sb, 0, none⟩), .pointer (some ⟨sb, 0, none⟩), .pointer (some ⟨sb, 0, none⟩), .pointer (some ⟨sb, 37, none⟩), .slice k.a k.n k.c, x31, x32, x33, x34, x35, x36, x37, x38, x39, x40, x41, x42, x43, x44, x45, x46, x47, x48, x49, x50], []⟩ : Act).put (some 31) (.int .i64 er) = (⟨#[.pointer (some ⟨sb, 0, none⟩), x1, x2, x3, x4, x5, x6, x7, x8, x9, x10, x11, x12, x13, x14, x15, x16, x17, x18, .pointer (some ⟨sb, 0, none⟩), .pointer (some ⟨sb, 0, none⟩), .pointer (some ⟨sb, 36, none⟩), .slice (some ⟨wb, wo, none⟩) wn wc, .pointer (some ⟨wb, wo, none⟩), .pointer (some ⟨wb, wo + 2, none⟩), .func (.func f) #[] #[], .pointer (some ⟨sb, 0, none⟩), .pointer (some ⟨sb, 0, none⟩), .pointer (some ⟨sb, 0, none⟩), .pointer (some ⟨sb, 37, none⟩), .slice k.a k.n k.c, .int .i64 er, x32, x33, x34, x35, x36, x37, x38, x39, x40, x41, x42, x43, x44, x45, x46, x47, x48, x49, x50], []⟩ : Act) := by kernel_rfl
  have l1 : (#[true, true, true, true, true, true, true, true, true, true, true, true, false, false] : Array Bool).setIfInBounds 12 true = (#[true, true, true, true, true, true, true, true, true, true, true, true, true, false] : Array Bool) := by kernel_rfl
  rw [e1, l1]
  clear e1 l1
  refine chn_take (by kernel_rfl) hQ hS1 0 (tk7g3z sb wb wo wn wc f k er ) _ _ (tk7g3 sb wb wo wn wc f k er  w hwn hf c36 c2 c37 Y HC) ?_
  have e0 : putL (RofN Try.f39 7) (tk7g3z sb wb wo wn wc f k er ) (⟨#[.pointer (some ⟨sb, 0, none⟩), x1, x2, x3, x4, x5, x6, x7, x8, x9, x10, x11, x12, x13, x14, x15, x16, x17, x18, .pointer (some ⟨sb, 0, none⟩), .pointer (some ⟨sb, 0, none⟩), .pointer (some ⟨sb, 36, none⟩), .slice (some ⟨wb, wo, none⟩) wn wc, .pointer (some ⟨wb, wo, none⟩), .pointer (some ⟨wb, wo + 2, none⟩), .func (.func f) #[] #[], .pointer (some ⟨sb, 0, none⟩), .pointer (some ⟨sb, 0, none⟩), .pointer (some ⟨sb, 0, none⟩), .pointer (some ⟨sb, 37, none⟩), .slice k.a k.n k.c, .int .i64 er, x32, x33, x34, x35, x36, x37, x38, x39, x40, x41, x42, x43, x44, x45, x46, x47, x48, x49, x50], []⟩ : Act) = (⟨#[.pointer (some ⟨sb, 0, none⟩), x1, x2, x3, .int .i64 er, x5, x6, x7, x8, x9, x10, x11, x12, x13, x14, x15, x16, x17, x18, .pointer (some ⟨sb, 0, none⟩), .pointer (some ⟨sb, 0, none⟩), .pointer (some ⟨sb, 36, none⟩), .slice (some ⟨wb, wo, none⟩) wn wc, .pointer (some ⟨wb, wo, none⟩), .pointer (some ⟨wb, wo + 2, none⟩), .func (.func f) #[] #[], .pointer (some ⟨sb, 0, none⟩), .pointer (some ⟨sb, 0, none⟩), .pointer (some ⟨sb, 0, none⟩), .pointer (some ⟨sb, 37, none⟩), .slice k.a k.n k.c, .int .i64 er, x32, x33, x34, x35, x36, x37, x38, x39, x40, x41, x42, x43, x44, x45, x46, x47, x48, x49, x50], []⟩ : Act) := by kernel_rfl
  have l0 : setL (tk7g3z sb wb wo wn wc f k er ) (#[true, true, true, true, true, true, true, true, true, true, true, true, true, false] : Array Bool) = (#[true, true, true, true, true, true, true, true, true, true, true, true, true, true] : Array Bool) := by kernel_rfl
  rw [e0, l0]
  clear e0 l0
  exact tk7_3_6_11_12 sb wb wo wn wc f k er  w R hQ hwn hf c36 c2 c37 Y HC h v hS1 (y31)
set_option maxHeartbeats 16000000 in
theorem tk7_3_11 (sb wb wo wn wc f : Nat) (k : Sv) (er : Int)   {x1 x2 x3 x4 x5 x6 x7 x8 x9 x10 x11 x12 x13 x14 x15 x16 x17 x18 x25 x31 x32 x33 x34 x35 x36 x37 x38 x39 x40 x41 x42 x43 x44 x45 x46 x47 x48 x49 x50 : Value} (w : World) (R : Exit → Act → World → Prop) (hQ : ∀ c a d v w, R (.panic c) (a.put d v) w → R (.panic c) a w) (hwn : 0 < wn) (hf : f = 30 ∨ f = 31 ∨ f = 32 ∨ f = 33 ∨ f = 34) (c36 : w.drew.cell? ⟨sb, 36, none⟩ = some (.slice (some ⟨wb, wo, none⟩) wn wc)) (c2 : w.drew.cell? ⟨wb, wo + 2, none⟩ = some (.func (.func f) #[] #[])) (c37 : w.drew.cell? ⟨sb, 37, none⟩ = some (.slice k.a k.n k.c)) (Y : World → Prop)
    (HC : ∀ u, u = w.drew → Calls Try.prog f #[.pointer (some ⟨sb, 0, none⟩), .slice k.a k.n k.c] u fun e v => e = .returned (.int .i64 er) ∧ Y v)
    (h : ∀ (u : World), Y u → R .normal (⟨#[.pointer (some ⟨sb, 0, none⟩), x1, x2, x3, .int .i64 er, x5, x6, x7, x8, x9, x10, x11, x12, x13, x14, x15, x16, x17, x18, .pointer (some ⟨sb, 0, none⟩), .pointer (some ⟨sb, 0, none⟩), .pointer (some ⟨sb, 36, none⟩), .slice (some ⟨wb, wo, none⟩) wn wc, .pointer (some ⟨wb, wo, none⟩), .pointer (some ⟨wb, wo + 2, none⟩), .func (.func f) #[] #[], .pointer (some ⟨sb, 0, none⟩), .pointer (some ⟨sb, 0, none⟩), .pointer (some ⟨sb, 0, none⟩), .pointer (some ⟨sb, 37, none⟩), .slice k.a k.n k.c, .int .i64 er, x32, x33, x34, x35, x36, x37, x38, x39, x40, x41, x42, x43, x44, x45, x46, x47, x48, x49, x50], []⟩ : Act) u) (u : World) (hS : (fun _ => True) u) (hu : u = w.drew) :
    wpAnyH Try.prog .any (RofN Try.f39 7) R (fun _ => True) 3 (#[true, true, true, true, true, true, false, true, true, true, true, true, false, false] : Array Bool) (⟨#[.pointer (some ⟨sb, 0, none⟩), x1, x2, x3, x4, x5, x6, x7, x8, x9, x10, x11, x12, x13, x14, x15, x16, x17, x18, .pointer (some ⟨sb, 0, none⟩), .pointer (some ⟨sb, 0, none⟩), .pointer (some ⟨sb, 36, none⟩), .slice (some ⟨wb, wo, none⟩) wn wc, .pointer (some ⟨wb, wo, none⟩), .pointer (some ⟨wb, wo + 2, none⟩), x25, .pointer (some ⟨sb, 0, none⟩), .pointer (some ⟨sb, 0, none⟩), .pointer (some ⟨sb, 0, none⟩), .pointer (some ⟨sb, 37, none⟩), .slice k.a k.n k.c, x31, x32, x33, x34, x35, x36, x37, x38, x39, x40, x41, x42, x43, x44, x45, x46, x47, x48, x49, x50], []⟩ : Act) u := by
  refine wpAnyH_one (i := 6) (by kernel_rfl) ?_
  have hc : (execOp (⟨#[.pointer (some ⟨sb, 0, none⟩), x1, x2, x3, x4, x5, x6, x7, x8, x9, x10, x11, x12, x13, x14, x15, x16, x17, x18, .pointer (some ⟨sb, 0, none⟩), .pointer (some ⟨sb, 0, none⟩), .pointer (some ⟨sb, 36, none⟩), .slice (some ⟨wb, wo, none⟩) wn wc, .pointer (some ⟨wb, wo, none⟩), .pointer (some ⟨wb, wo + 2, none⟩), x25, .pointer (some ⟨sb, 0, none⟩), .pointer (some ⟨sb, 0, none⟩), .pointer (some ⟨sb, 0, none⟩), .pointer (some ⟨sb, 37, none⟩), .slice k.a k.n k.c, x31, x32, x33, x34, x35, x36, x37, x38, x39, x40, x41, x42, x43, x44, x45, x46, x47, x48, x49, x50], []⟩ : Act).eval (((RofN Try.f39 7)[6]?).getD default)).run Try.prog u = .ok (.value (.func (.func f) #[] #[])) (u) := (by rw [hu]; exact ld_t 69 (.tmp 24) wb (wo + 2) (by kernel_rfl) (by kernel_rfl) (ld69 c2))
  refine wpOp_val (some 25) (by kernel_rfl) (by kernel_rfl) (by kernel_rfl) hc ?_
  clear hc
  have hS1 : (fun _ => True) (u) := trivial
  refine ⟨hS1, ?_⟩
  have e1 : (⟨#[.pointer (some ⟨sb, 0, none⟩), x1, x2, x3, x4, x5, x6, x7, x8, x9, x10, x11, x12, x13, x14, x15, x16, x17, x18, .pointer (some ⟨sb, 0, none⟩), .pointer (some ⟨sb, 0, none⟩), .pointer (some ⟨sb, 36, none⟩), .slice (some ⟨wb, wo, none⟩) wn wc, .pointer (some ⟨wb, wo, none⟩), .pointer (some ⟨wb, wo + 2, none⟩), x25, .pointer (some ⟨sb, 0, none⟩), .pointer (some ⟨sb, 0, none⟩), .pointer (some ⟨sb, 0, none⟩), .pointer (some ⟨sb, 37, none⟩), .slice k.a k.n k.c, x31, x32, x33, x34, x35, x36, x37, x38, x39, x40, x41, x42, x43, x44, x45, x46, x47, x48, x49, x50], []⟩ : Act).put (some 25) (.func (.func f) #[] #[]) = (⟨#[.pointer (some ⟨sb, 0, none⟩), x1, x2, x3, x4, x5, x6, x7, x8, x9, x10, x11, x12, x13, x14, x15, x16, x17, x18, .pointer (some ⟨sb, 0, none⟩), .pointer (some ⟨sb, 0, none⟩), .pointer (some ⟨sb, 36, none⟩), .slice (some ⟨wb, wo, none⟩) wn wc, .pointer (some ⟨wb, wo, none⟩), .pointer (some ⟨wb, wo + 2, none⟩), .func (.func f) #[] #[], .pointer (some ⟨sb, 0, none⟩), .pointer (some ⟨sb, 0, none⟩), .pointer (some ⟨sb, 0, none⟩), .pointer (some ⟨sb, 37, none⟩), .slice k.a k.n k.c, x31, x32, x33, x34, x35, x36, x37, x38, x39, x40, x41, x42, x43, x44, x45, x46, x47, x48, x49, x50], []⟩ : Act) := by kernel_rfl
  have l1 : (#[true, true, true, true, true, true, false, true, true, true, true, true, false, false] : Array Bool).setIfInBounds 6 true = (#[true, true, true, true, true, true, true, true, true, true, true, true, false, false] : Array Bool) := by kernel_rfl
  rw [e1, l1]
  clear e1 l1
  exact tk7_3_6_11 sb wb wo wn wc f k er  w R hQ hwn hf c36 c2 c37 Y HC h (u) hS1 (hu)
set_option maxHeartbeats 16000000 in
theorem tk7_3_6 (sb wb wo wn wc f : Nat) (k : Sv) (er : Int)   {x1 x2 x3 x4 x5 x6 x7 x8 x9 x10 x11 x12 x13 x14 x15 x16 x17 x18 x30 x31 x32 x33 x34 x35 x36 x37 x38 x39 x40 x41 x42 x43 x44 x45 x46 x47 x48 x49 x50 : Value} (w : World) (R : Exit → Act → World → Prop) (hQ : ∀ c a d v w, R (.panic c) (a.put d v) w → R (.panic c) a w) (hwn : 0 < wn) (hf : f = 30 ∨ f = 31 ∨ f = 32 ∨ f = 33 ∨ f = 34) (c36 : w.drew.cell? ⟨sb, 36, none⟩ = some (.slice (some ⟨wb, wo, none⟩) wn wc)) (c2 : w.drew.cell? ⟨wb, wo + 2, none⟩ = some (.func (.func f) #[] #[])) (c37 : w.drew.cell? ⟨sb, 37, none⟩ = some (.slice k.a k.n k.c)) (Y : World → Prop)
    (HC : ∀ u, u = w.drew → Calls Try.prog f #[.pointer (some ⟨sb, 0, none⟩), .slice k.a k.n k.c] u fun e v => e = .returned (.int .i64 er) ∧ Y v)
    (h : ∀ (u : World), Y u → R .normal (⟨#[.pointer (some ⟨sb, 0, none⟩), x1, x2, x3, .int .i64 er, x5, x6, x7, x8, x9, x10, x11, x12, x13, x14, x15, x16, x17, x18, .pointer (some ⟨sb, 0, none⟩), .pointer (some ⟨sb, 0, none⟩), .pointer (some ⟨sb, 36, none⟩), .slice (some ⟨wb, wo, none⟩) wn wc, .pointer (some ⟨wb, wo, none⟩), .pointer (some ⟨wb, wo + 2, none⟩), .func (.func f) #[] #[], .pointer (some ⟨sb, 0, none⟩), .pointer (some ⟨sb, 0, none⟩), .pointer (some ⟨sb, 0, none⟩), .pointer (some ⟨sb, 37, none⟩), .slice k.a k.n k.c, .int .i64 er, x32, x33, x34, x35, x36, x37, x38, x39, x40, x41, x42, x43, x44, x45, x46, x47, x48, x49, x50], []⟩ : Act) u) (u : World) (hS : (fun _ => True) u) (hu : u = w.drew) :
    wpAnyH Try.prog .any (RofN Try.f39 7) R (fun _ => True) 3 (#[true, true, true, true, true, true, true, true, true, true, true, false, false, false] : Array Bool) (⟨#[.pointer (some ⟨sb, 0, none⟩), x1, x2, x3, x4, x5, x6, x7, x8, x9, x10, x11, x12, x13, x14, x15, x16, x17, x18, .pointer (some ⟨sb, 0, none⟩), .pointer (some ⟨sb, 0, none⟩), .pointer (some ⟨sb, 36, none⟩), .slice (some ⟨wb, wo, none⟩) wn wc, .pointer (some ⟨wb, wo, none⟩), .pointer (some ⟨wb, wo + 2, none⟩), .func (.func f) #[] #[], .pointer (some ⟨sb, 0, none⟩), .pointer (some ⟨sb, 0, none⟩), .pointer (some ⟨sb, 0, none⟩), .pointer (some ⟨sb, 37, none⟩), x30, x31, x32, x33, x34, x35, x36, x37, x38, x39, x40, x41, x42, x43, x44, x45, x46, x47, x48, x49, x50], []⟩ : Act) u := by
  refine wpAnyH_one (i := 11) (by kernel_rfl) ?_
  have hc : (execOp (⟨#[.pointer (some ⟨sb, 0, none⟩), x1, x2, x3, x4, x5, x6, x7, x8, x9, x10, x11, x12, x13, x14, x15, x16, x17, x18, .pointer (some ⟨sb, 0, none⟩), .pointer (some ⟨sb, 0, none⟩), .pointer (some ⟨sb, 36, none⟩), .slice (some ⟨wb, wo, none⟩) wn wc, .pointer (some ⟨wb, wo, none⟩), .pointer (some ⟨wb, wo + 2, none⟩), .func (.func f) #[] #[], .pointer (some ⟨sb, 0, none⟩), .pointer (some ⟨sb, 0, none⟩), .pointer (some ⟨sb, 0, none⟩), .pointer (some ⟨sb, 37, none⟩), x30, x31, x32, x33, x34, x35, x36, x37, x38, x39, x40, x41, x42, x43, x44, x45, x46, x47, x48, x49, x50], []⟩ : Act).eval (((RofN Try.f39 7)[11]?).getD default)).run Try.prog u = .ok (.value (.slice k.a k.n k.c)) (u) := (by rw [hu]; exact ld_t 24 (.tmp 29) sb 37 (by kernel_rfl) (by kernel_rfl) (ld24' c37))
  refine wpOp_val (some 30) (by kernel_rfl) (by kernel_rfl) (by kernel_rfl) hc ?_
  clear hc
  have hS1 : (fun _ => True) (u) := trivial
  refine ⟨hS1, ?_⟩
  have e1 : (⟨#[.pointer (some ⟨sb, 0, none⟩), x1, x2, x3, x4, x5, x6, x7, x8, x9, x10, x11, x12, x13, x14, x15, x16, x17, x18, .pointer (some ⟨sb, 0, none⟩), .pointer (some ⟨sb, 0, none⟩), .pointer (some ⟨sb, 36, none⟩), .slice (some ⟨wb, wo, none⟩) wn wc, .pointer (some ⟨wb, wo, none⟩), .pointer (some ⟨wb, wo + 2, none⟩), .func (.func f) #[] #[], .pointer (some ⟨sb, 0, none⟩), .pointer (some ⟨sb, 0, none⟩), .pointer (some ⟨sb, 0, none⟩), .pointer (some ⟨sb, 37, none⟩), x30, x31, x32, x33, x34, x35, x36, x37, x38, x39, x40, x41, x42, x43, x44, x45, x46, x47, x48, x49, x50], []⟩ : Act).put (some 30) (.slice k.a k.n k.c) = (⟨#[.pointer (some ⟨sb, 0, none⟩), x1, x2, x3, x4, x5, x6, x7, x8, x9, x10, x11, x12, x13, x14, x15, x16, x17, x18, .pointer (some ⟨sb, 0, none⟩), .pointer (some ⟨sb, 0, none⟩), .pointer (some ⟨sb, 36, none⟩), .slice (some ⟨wb, wo, none⟩) wn wc, .pointer (some ⟨wb, wo, none⟩), .pointer (some ⟨wb, wo + 2, none⟩), .func (.func f) #[] #[], .pointer (some ⟨sb, 0, none⟩), .pointer (some ⟨sb, 0, none⟩), .pointer (some ⟨sb, 0, none⟩), .pointer (some ⟨sb, 37, none⟩), .slice k.a k.n k.c, x31, x32, x33, x34, x35, x36, x37, x38, x39, x40, x41, x42, x43, x44, x45, x46, x47, x48, x49, x50], []⟩ : Act) := by kernel_rfl
  have l1 : (#[true, true, true, true, true, true, true, true, true, true, true, false, false, false] : Array Bool).setIfInBounds 11 true = (#[true, true, true, true, true, true, true, true, true, true, true, true, false, false] : Array Bool) := by kernel_rfl
  rw [e1, l1]
  clear e1 l1
  exact tk7_3_6_11 sb wb wo wn wc f k er  w R hQ hwn hf c36 c2 c37 Y HC h (u) hS1 (hu)
set_option maxHeartbeats 16000000 in
theorem tk7_11 (sb wb wo wn wc f : Nat) (k : Sv) (er : Int)  {x1 x2 x3 x4 x5 x6 x7 x8 x9 x10 x11 x12 x13 x14 x15 x16 x17 x18 x22 x23 x24 x25 x31 x32 x33 x34 x35 x36 x37 x38 x39 x40 x41 x42 x43 x44 x45 x46 x47 x48 x49 x50 : Value} (w : World) (R : Exit → Act → World → Prop) (hQ : ∀ c a d v w, R (.panic c) (a.put d v) w → R (.panic c) a w) (hwn : 0 < wn) (hf : f = 30 ∨ f = 31 ∨ f = 32 ∨ f = 33 ∨ f = 34) (c36 : w.drew.cell? ⟨sb, 36, none⟩ = some (.slice (some ⟨wb, wo, none⟩) wn wc)) (c2 : w.drew.cell? ⟨wb, wo + 2, none⟩ = some (.func (.func f) #[] #[])) (c37 : w.drew.cell? ⟨sb, 37, none⟩ = some (.slice k.a k.n k.c)) (Y : World → Prop)
    (HC : ∀ u, u = w.drew → Calls Try.prog f #[.pointer (some ⟨sb, 0, none⟩), .slice k.a k.n k.c] u fun e v => e = .returned (.int .i64 er) ∧ Y v)
    (h : ∀ (u : World), Y u → R .normal (⟨#[.pointer (some ⟨sb, 0, none⟩), x1, x2, x3, .int .i64 er, x5, x6, x7, x8, x9, x10, x11, x12, x13, x14, x15, x16, x17, x18, .pointer (some ⟨sb, 0, none⟩), .pointer (some ⟨sb, 0, none⟩), .pointer (some ⟨sb, 36, none⟩), .slice (some ⟨wb, wo, none⟩) wn wc, .pointer (some ⟨wb, wo, none⟩), .pointer (some ⟨wb, wo + 2, none⟩), .func (.func f) #[] #[], .pointer (some ⟨sb, 0, none⟩), .pointer (some ⟨sb, 0, none⟩), .pointer (some ⟨sb, 0, none⟩), .pointer (some ⟨sb, 37, none⟩), .slice k.a k.n k.c, .int .i64 er, x32, x33, x34, x35, x36, x37, x38, x39, x40, x41, x42, x43, x44, x45, x46, x47, x48, x49, x50], []⟩ : Act) u) (u : World) (hS : (fun _ => True) u) (hu : u = w.drew) :
    wpAnyH Try.prog .any (RofN Try.f39 7) R (fun _ => True) 6 (#[true, true, true, false, false, false, false, true, true, true, true, true, false, false] : Array Bool) (⟨#[.pointer (some ⟨sb, 0, none⟩), x1, x2, x3, x4, x5, x6, x7, x8, x9, x10, x11, x12, x13, x14, x15, x16, x17, x18, .pointer (some ⟨sb, 0, none⟩), .pointer (some ⟨sb, 0, none⟩), .pointer (some ⟨sb, 36, none⟩), x22, x23, x24, x25, .pointer (some ⟨sb, 0, none⟩), .pointer (some ⟨sb, 0, none⟩), .pointer (some ⟨sb, 0, none⟩), .pointer (some ⟨sb, 37, none⟩), .slice k.a k.n k.c, x31, x32, x33, x34, x35, x36, x37, x38, x39, x40, x41, x42, x43, x44, x45, x46, x47, x48, x49, x50], []⟩ : Act) u := by
  refine wpAnyH_one (i := 3) (by kernel_rfl) ?_
  have hc : (execOp (⟨#[.pointer (some ⟨sb, 0, none⟩), x1, x2, x3, x4, x5, x6, x7, x8, x9, x10, x11, x12, x13, x14, x15, x16, x17, x18, .pointer (some ⟨sb, 0, none⟩), .pointer (some ⟨sb, 0, none⟩), .pointer (some ⟨sb, 36, none⟩), x22, x23, x24, x25, .pointer (some ⟨sb, 0, none⟩), .pointer (some ⟨sb, 0, none⟩), .pointer (some ⟨sb, 0, none⟩), .pointer (some ⟨sb, 37, none⟩), .slice k.a k.n k.c, x31, x32, x33, x34, x35, x36, x37, x38, x39, x40, x41, x42, x43, x44, x45, x46, x47, x48, x49, x50], []⟩ : Act).eval (((RofN Try.f39 7)[3]?).getD default)).run Try.prog u = .ok (.value (.slice (some ⟨wb, wo, none⟩) wn wc)) (u) := (by rw [hu]; exact ld_t 61 (.tmp 21) sb 36 (by kernel_rfl) (by kernel_rfl) (ld61 (v := ⟨some ⟨wb, wo, none⟩, wn, wc⟩) c36))
  refine wpOp_val (some 22) (by kernel_rfl) (by kernel_rfl) (by kernel_rfl) hc ?_
  clear hc
  have hS1 : (fun _ => True) (u) := trivial
  refine ⟨hS1, ?_⟩
  have e1 : (⟨#[.pointer (some ⟨sb, 0, none⟩), x1, x2, x3, x4, x5, x6, x7, x8, x9, x10, x11, x12, x13, x14, x15, x16, x17, x18, .pointer (some ⟨sb, 0, none⟩), .pointer (some ⟨sb, 0, none⟩), .pointer (some ⟨sb, 36, none⟩), x22, x23, x24, x25, .pointer (some ⟨sb, 0, none⟩), .pointer (some ⟨sb, 0, none⟩), .pointer (some ⟨sb, 0, none⟩), .pointer (some ⟨sb, 37, none⟩), .slice k.a k.n k.c, x31, x32, x33, x34, x35, x36, x37, x38, x39, x40, x41, x42, x43, x44, x45, x46, x47, x48, x49, x50], []⟩ : Act).put (some 22) (.slice (some ⟨wb, wo, none⟩) wn wc) = (⟨#[.pointer (some ⟨sb, 0, none⟩), x1, x2, x3, x4, x5, x6, x7, x8, x9, x10, x11, x12, x13, x14, x15, x16, x17, x18, .pointer (some ⟨sb, 0, none⟩), .pointer (some ⟨sb, 0, none⟩), .pointer (some ⟨sb, 36, none⟩), .slice (some ⟨wb, wo, none⟩) wn wc, x23, x24, x25, .pointer (some ⟨sb, 0, none⟩), .pointer (some ⟨sb, 0, none⟩), .pointer (some ⟨sb, 0, none⟩), .pointer (some ⟨sb, 37, none⟩), .slice k.a k.n k.c, x31, x32, x33, x34, x35, x36, x37, x38, x39, x40, x41, x42, x43, x44, x45, x46, x47, x48, x49, x50], []⟩ : Act) := by kernel_rfl
  have l1 : (#[true, true, true, false, false, false, false, true, true, true, true, true, false, false] : Array Bool).setIfInBounds 3 true = (#[true, true, true, true, false, false, false, true, true, true, true, true, false, false] : Array Bool) := by kernel_rfl
  rw [e1, l1]
  clear e1 l1
  refine chn_take (by kernel_rfl) hQ hS1 3 (tk7g2z sb wb wo wn wc f k er ) _ _ (tk7g2 sb wb wo wn wc f k er  w hwn hf c36 c2 c37 Y HC) ?_
  have e0 : putL (RofN Try.f39 7) (tk7g2z sb wb wo wn wc f k er ) (⟨#[.pointer (some ⟨sb, 0, none⟩), x1, x2, x3, x4, x5, x6, x7, x8, x9, x10, x11, x12, x13, x14, x15, x16, x17, x18, .pointer (some ⟨sb, 0, none⟩), .pointer (some ⟨sb, 0, none⟩), .pointer (some ⟨sb, 36, none⟩), .slice (some ⟨wb, wo, none⟩) wn wc, x23, x24, x25, .pointer (some ⟨sb, 0, none⟩), .pointer (some ⟨sb, 0, none⟩), .pointer (some ⟨sb, 0, none⟩), .pointer (some ⟨sb, 37, none⟩), .slice k.a k.n k.c, x31, x32, x33, x34, x35, x36, x37, x38, x39, x40, x41, x42, x43, x44, x45, x46, x47, x48, x49, x50], []⟩ : Act) = (⟨#[.pointer (some ⟨sb, 0, none⟩), x1, x2, x3, x4, x5, x6, x7, x8, x9, x10, x11, x12, x13, x14, x15, x16, x17, x18, .pointer (some ⟨sb, 0, none⟩), .pointer (some ⟨sb, 0, none⟩), .pointer (some ⟨sb, 36, none⟩), .slice (some ⟨wb, wo, none⟩) wn wc, .pointer (some ⟨wb, wo, none⟩), .pointer (some ⟨wb, wo + 2, none⟩), x25, .pointer (some ⟨sb, 0, none⟩), .pointer (some ⟨sb, 0, none⟩), .pointer (some ⟨sb, 0, none⟩), .pointer (some ⟨sb, 37, none⟩), .slice k.a k.n k.c, x31, x32, x33, x34, x35, x36, x37, x38, x39, x40, x41, x42, x43, x44, x45, x46, x47, x48, x49, x50], []⟩ : Act) := by kernel_rfl
  have l0 : setL (tk7g2z sb wb wo wn wc f k er ) (#[true, true, true, true, false, false, false, true, true, true, true, true, false, false] : Array Bool) = (#[true, true, true, true, true, true, false, true, true, true, true, true, false, false] : Array Bool) := by kernel_rfl
  rw [e0, l0]
  clear e0 l0
  exact tk7_3_11 sb wb wo wn wc f k er  w R hQ hwn hf c36 c2 c37 Y HC h (u) hS1 (hu)
set_option maxHeartbeats 16000000 in
theorem tk7_3 (sb wb wo wn wc f : Nat) (k : Sv) (er : Int)  {x1 x2 x3 x4 x5 x6 x7 x8 x9 x10 x11 x12 x13 x14 x15 x16 x17 x18 x25 x30 x31 x32 x33 x34 x35 x36 x37 x38 x39 x40 x41 x42 x43 x44 x45 x46 x47 x48 x49 x50 : Value} (w : World) (R : Exit → Act → World → Prop) (hQ : ∀ c a d v w, R (.panic c) (a.put d v) w → R (.panic c) a w) (hwn : 0 < wn) (hf : f = 30 ∨ f = 31 ∨ f = 32 ∨ f = 33 ∨ f = 34) (c36 : w.drew.cell? ⟨sb, 36, none⟩ = some (.slice (some ⟨wb, wo, none⟩) wn wc)) (c2 : w.drew.cell? ⟨wb, wo + 2, none⟩ = some (.func (.func f) #[] #[])) (c37 : w.drew.cell? ⟨sb, 37, none⟩ = some (.slice k.a k.n k.c)) (Y : World → Prop)
    (HC : ∀ u, u = w.drew → Calls Try.prog f #[.pointer (some ⟨sb, 0, none⟩), .slice k.a k.n k.c] u fun e v => e = .returned (.int .i64 er) ∧ Y v)
    (h : ∀ (u : World), Y u → R .normal (⟨#[.pointer (some ⟨sb, 0, none⟩), x1, x2, x3, .int .i64 er, x5, x6, x7, x8, x9, x10, x11, x12, x13, x14, x15, x16, x17, x18, .pointer (some ⟨sb, 0, none⟩), .pointer (some ⟨sb, 0, none⟩), .pointer (some ⟨sb, 36, none⟩), .slice (some ⟨wb, wo, none⟩) wn wc, .pointer (some ⟨wb, wo, none⟩), .pointer (some ⟨wb, wo + 2, none⟩), .func (.func f) #[] #[], .pointer (some ⟨sb, 0, none⟩), .pointer (some ⟨sb, 0, none⟩), .pointer (some ⟨sb, 0, none⟩), .pointer (some ⟨sb, 37, none⟩), .slice k.a k.n k.c, .int .i64 er, x32, x33, x34, x35, x36, x37, x38, x39, x40, x41, x42, x43, x44, x45, x46, x47, x48, x49, x50], []⟩ : Act) u) (u : World) (hS : (fun _ => True) u) (hu : u = w.drew) :
    wpAnyH Try.prog .any (RofN Try.f39 7) R (fun _ => True) 4 (#[true, true, true, true, true, true, false, true, true, true, true, false, false, false] : Array Bool) (⟨#[.pointer (some ⟨sb, 0, none⟩), x1, x2, x3, x4, x5, x6, x7, x8, x9, x10, x11, x12, x13, x14, x15, x16, x17, x18, .pointer (some ⟨sb, 0, none⟩), .pointer (some ⟨sb, 0, none⟩), .pointer (some ⟨sb, 36, none⟩), .slice (some ⟨wb, wo, none⟩) wn wc, .pointer (some ⟨wb, wo, none⟩), .pointer (some ⟨wb, wo + 2, none⟩), x25, .pointer (some ⟨sb, 0, none⟩), .pointer (some ⟨sb, 0, none⟩), .pointer (some ⟨sb, 0, none⟩), .pointer (some ⟨sb, 37, none⟩), x30, x31, x32, x33, x34, x35, x36, x37, x38, x39, x40, x41, x42, x43, x44, x45, x46, x47, x48, x49, x50], []⟩ : Act) u := by
  refine wpAnyH_l2 (i := 6) (j := 11) (by kernel_rfl) ?_ ?_
  · have hc : (execOp (⟨#[.pointer (some ⟨sb, 0, none⟩), x1, x2, x3, x4, x5, x6, x7, x8, x9, x10, x11, x12, x13, x14, x15, x16, x17, x18, .pointer (some ⟨sb, 0, none⟩), .pointer (some ⟨sb, 0, none⟩), .pointer (some ⟨sb, 36, none⟩), .slice (some ⟨wb, wo, none⟩) wn wc, .pointer (some ⟨wb, wo, none⟩), .pointer (some ⟨wb, wo + 2, none⟩), x25, .pointer (some ⟨sb, 0, none⟩), .pointer (some ⟨sb, 0, none⟩), .pointer (some ⟨sb, 0, none⟩), .pointer (some ⟨sb, 37, none⟩), x30, x31, x32, x33, x34, x35, x36, x37, x38, x39, x40, x41, x42, x43, x44, x45, x46, x47, x48, x49, x50], []⟩ : Act).eval (((RofN Try.f39 7)[6]?).getD default)).run Try.prog u = .ok (.value (.func (.func f) #[] #[])) (u) := (by rw [hu]; exact ld_t 69 (.tmp 24) wb (wo + 2) (by kernel_rfl) (by kernel_rfl) (ld69 c2))
    refine wpOp_val (some 25) (by kernel_rfl) (by kernel_rfl) (by kernel_rfl) hc ?_
    clear hc
    have hS1 : (fun _ => True) (u) := trivial
    refine ⟨hS1, ?_⟩
    have e1 : (⟨#[.pointer (some ⟨sb, 0, none⟩), x1, x2, x3, x4, x5, x6, x7, x8, x9, x10, x11, x12, x13, x14, x15, x16, x17, x18, .pointer (some ⟨sb, 0, none⟩), .pointer (some ⟨sb, 0, none⟩), .pointer (some ⟨sb, 36, none⟩), .slice (some ⟨wb, wo, none⟩) wn wc, .pointer (some ⟨wb, wo, none⟩), .pointer (some ⟨wb, wo + 2, none⟩), x25, .pointer (some ⟨sb, 0, none⟩), .pointer (some ⟨sb, 0, none⟩), .pointer (some ⟨sb, 0, none⟩), .pointer (some ⟨sb, 37, none⟩), x30, x31, x32, x33, x34, x35, x36, x37, x38, x39, x40, x41, x42, x43, x44, x45, x46, x47, x48, x49, x50], []⟩ : Act).put (some 25) (.func (.func f) #[] #[]) = (⟨#[.pointer (some ⟨sb, 0, none⟩), x1, x2, x3, x4, x5, x6, x7, x8, x9, x10, x11, x12, x13, x14, x15, x16, x17, x18, .pointer (some ⟨sb, 0, none⟩), .pointer (some ⟨sb, 0, none⟩), .pointer (some ⟨sb, 36, none⟩), .slice (some ⟨wb, wo, none⟩) wn wc, .pointer (some ⟨wb, wo, none⟩), .pointer (some ⟨wb, wo + 2, none⟩), .func (.func f) #[] #[], .pointer (some ⟨sb, 0, none⟩), .pointer (some ⟨sb, 0, none⟩), .pointer (some ⟨sb, 0, none⟩), .pointer (some ⟨sb, 37, none⟩), x30, x31, x32, x33, x34, x35, x36, x37, x38, x39, x40, x41, x42, x43, x44, x45, x46, x47, x48, x49, x50], []⟩ : Act) := by kernel_rfl
    have l1 : (#[true, true, true, true, true, true, false, true, true, true, true, false, false, false] : Array Bool).setIfInBounds 6 true = (#[true, true, true, true, true, true, true, true, true, true, true, false, false, false] : Array Bool) := by kernel_rfl
    rw [e1, l1]
    clear e1 l1
    exact tk7_3_6 sb wb wo wn wc f k er  w R hQ hwn hf c36 c2 c37 Y HC h (u) hS1 (hu)
  · have hc : (execOp (⟨#[.pointer (some ⟨sb, 0, none⟩), x1, x2, x3, x4, x5, x6, x7, x8, x9, x10, x11, x12, x13, x14, x15, x16, x17, x18, .pointer (some ⟨sb, 0, none⟩), .pointer (some ⟨sb, 0, none⟩), .pointer (some ⟨sb, 36, none⟩), .slice (some ⟨wb, wo, none⟩) wn wc, .pointer (some ⟨wb, wo, none⟩), .pointer (some ⟨wb, wo + 2, none⟩), x25, .pointer (some ⟨sb, 0, none⟩), .pointer (some ⟨sb, 0, none⟩), .pointer (some ⟨sb, 0, none⟩), .pointer (some ⟨sb, 37, none⟩), x30, x31, x32, x33, x34, x35, x36, x37, x38, x39, x40, x41, x42, x43, x44, x45, x46, x47, x48, x49, x50], []⟩ : Act).eval (((RofN Try.f39 7)[11]?).getD default)).run Try.prog u = .ok (.value (.slice k.a k.n k.c)) (u) := (by rw [hu]; exact ld_t 24 (.tmp 29) sb 37 (by kernel_rfl) (by kernel_rfl) (ld24' c37))
    refine wpOp_val (some 30) (by kernel_rfl) (by kernel_rfl) (by kernel_rfl) hc ?_
    clear hc
    have hS1 : (fun _ => True) (u) := trivial
    refine ⟨hS1, ?_⟩
    have e1 : (⟨#[.pointer (some ⟨sb, 0, none⟩), x1, x2, x3, x4, x5, x6, x7, x8, x9, x10, x11, x12, x13, x14, x15, x16, x17, x18, .pointer (some ⟨sb, 0, none⟩), .pointer (some ⟨sb, 0, none⟩), .pointer (some ⟨sb, 36, none⟩), .slice (some ⟨wb, wo, none⟩) wn wc, .pointer (some ⟨wb, wo, none⟩), .pointer (some ⟨wb, wo + 2, none⟩), x25, .pointer (some ⟨sb, 0, none⟩), .pointer (some ⟨sb, 0, none⟩), .pointer (some ⟨sb, 0, none⟩), .pointer (some ⟨sb, 37, none⟩), x30, x31, x32, x33, x34, x35, x36, x37, x38, x39, x40, x41, x42, x43, x44, x45, x46, x47, x48, x49, x50], []⟩ : Act).put (some 30) (.slice k.a k.n k.c) = (⟨#[.pointer (some ⟨sb, 0, none⟩), x1, x2, x3, x4, x5, x6, x7, x8, x9, x10, x11, x12, x13, x14, x15, x16, x17, x18, .pointer (some ⟨sb, 0, none⟩), .pointer (some ⟨sb, 0, none⟩), .pointer (some ⟨sb, 36, none⟩), .slice (some ⟨wb, wo, none⟩) wn wc, .pointer (some ⟨wb, wo, none⟩), .pointer (some ⟨wb, wo + 2, none⟩), x25, .pointer (some ⟨sb, 0, none⟩), .pointer (some ⟨sb, 0, none⟩), .pointer (some ⟨sb, 0, none⟩), .pointer (some ⟨sb, 37, none⟩), .slice k.a k.n k.c, x31, x32, x33, x34, x35, x36, x37, x38, x39, x40, x41, x42, x43, x44, x45, x46, x47, x48, x49, x50], []⟩ : Act) := by kernel_rfl
    have l1 : (#[true, true, true, true, true, true, false, true, true, true, true, false, false, false] : Array Bool).setIfInBounds 11 true = (#[true, true, true, true, true, true, false, true, true, true, true, true, false, false] : Array Bool) := by kernel_rfl
    rw [e1, l1]
    clear e1 l1
    exact tk7_3_11 sb wb wo wn wc f k er  w R hQ hwn hf c36 c2 c37 Y HC h (u) hS1 (hu)
set_option maxHeartbeats 16000000 in
theorem tk7_o (sb wb wo wn wc f : Nat) (k : Sv) (er : Int)  {x1 x2 x3 x4 x5 x6 x7 x8 x9 x10 x11 x12 x13 x14 x15 x16 x17 x18 x22 x23 x24 x25 x30 x31 x32 x33 x34 x35 x36 x37 x38 x39 x40 x41 x42 x43 x44 x45 x46 x47 x48 x49 x50 : Value} (w : World) (R : Exit → Act → World → Prop) (hQ : ∀ c a d v w, R (.panic c) (a.put d v) w → R (.panic c) a w) (hwn : 0 < wn) (hf : f = 30 ∨ f = 31 ∨ f = 32 ∨ f = 33 ∨ f = 34) (c36 : w.drew.cell? ⟨sb, 36, none⟩ = some (.slice (some ⟨wb, wo, none⟩) wn wc)) (c2 : w.drew.cell? ⟨wb, wo + 2, none⟩ = some (.func (.func f) #[] #[])) (c37 : w.drew.cell? ⟨sb, 37, none⟩ = some (.slice k.a k.n k.c)) (Y : World → Prop)
    (HC : ∀ u, u = w.drew → Calls Try.prog f #[.pointer (some ⟨sb, 0, none⟩), .slice k.a k.n k.c] u fun e v => e = .returned (.int .i64 er) ∧ Y v)
    (h : ∀ (u : World), Y u → R .normal (⟨#[.pointer (some ⟨sb, 0, none⟩), x1, x2, x3, .int .i64 er, x5, x6, x7, x8, x9, x10, x11, x12, x13, x14, x15, x16, x17, x18, .pointer (some ⟨sb, 0, none⟩), .pointer (some ⟨sb, 0, none⟩), .pointer (some ⟨sb, 36, none⟩), .slice (some ⟨wb, wo, none⟩) wn wc, .pointer (some ⟨wb, wo, none⟩), .pointer (some ⟨wb, wo + 2, none⟩), .func (.func f) #[] #[], .pointer (some ⟨sb, 0, none⟩), .pointer (some ⟨sb, 0, none⟩), .pointer (some ⟨sb, 0, none⟩), .pointer (some ⟨sb, 37, none⟩), .slice k.a k.n k.c, .int .i64 er, x32, x33, x34, x35, x36, x37, x38, x39, x40, x41, x42, x43, x44, x45, x46, x47, x48, x49, x50], []⟩ : Act) u) (u : World) (hS : (fun _ => True) u) (hu : u = w.drew) :
    wpAnyH Try.prog .any (RofN Try.f39 7) R (fun _ => True) 7 (#[true, true, true, false, false, false, false, true, true, true, true, false, false, false] : Array Bool) (⟨#[.pointer (some ⟨sb, 0, none⟩), x1, x2, x3, x4, x5, x6, x7, x8, x9, x10, x11, x12, x13, x14, x15, x16, x17, x18, .pointer (some ⟨sb, 0, none⟩), .pointer (some ⟨sb, 0, none⟩), .pointer (some ⟨sb, 36, none⟩), x22, x23, x24, x25, .pointer (some ⟨sb, 0, none⟩), .pointer (some ⟨sb, 0, none⟩), .pointer (some ⟨sb, 0, none⟩), .pointer (some ⟨sb, 37, none⟩), x30, x31, x32, x33, x34, x35, x36, x37, x38, x39, x40, x41, x42, x43, x44, x45, x46, x47, x48, x49, x50], []⟩ : Act) u := by
  refine wpAnyH_l2 (i := 3) (j := 11) (by kernel_rfl) ?_ ?_
  · have hc : (execOp (⟨#[.pointer (some ⟨sb, 0, none⟩), x1, x2, x3, x4, x5, x6, x7, x8, x9, x10, x11, x12, x13, x14, x15, x16, x17, x18, .pointer (some ⟨sb, 0, none⟩), .pointer (some ⟨sb, 0, none⟩), .pointer (some ⟨sb, 36, none⟩), x22, x23, x24, x25, .pointer (some ⟨sb, 0, none⟩), .pointer (some ⟨sb, 0, none⟩), .pointer (some ⟨sb, 0, none⟩), .pointer (some ⟨sb, 37, none⟩), x30, x31, x32, x33, x34, x35, x36, x37, x38, x39, x40, x41, x42, x43, x44, x45, x46, x47, x48, x49, x50], []⟩ : Act).eval (((RofN Try.f39 7)[3]?).getD default)).run Try.prog u = .ok (.value (.slice (some ⟨wb, wo, none⟩) wn wc)) (u) := (by rw [hu]; exact ld_t 61 (.tmp 21) sb 36 (by kernel_rfl) (by kernel_rfl) (ld61 (v := ⟨some ⟨wb, wo, none⟩, wn, wc⟩) c36))
    refine wpOp_val (some 22) (by kernel_rfl) (by kernel_rfl) (by kernel_rfl) hc ?_
    clear hc
    have hS1 : (fun _ => True) (u) := trivial
    refine ⟨hS1, ?_⟩
    have e1 : (⟨#[.pointer (some ⟨sb, 0, none⟩), x1, x2, x3, x4, x5, x6, x7, x8, x9, x10, x11, x12, x13, x14, x15, x16, x17, x18, .pointer (some ⟨sb, 0, none⟩), .pointer (some ⟨sb, 0, none⟩), .pointer (some ⟨sb, 36, none⟩), x22, x23, x24, x25, .pointer (some ⟨sb, 0, none⟩), .pointer (some ⟨sb, 0, none⟩), .pointer (some ⟨sb, 0, none⟩), .pointer (some ⟨sb, 37, none⟩), x30, x31, x32, x33, x34, x35, x36, x37, x38, x39, x40, x41, x42, x43, x44, x45, x46, x47, x48, x49, x50], []⟩ : Act).put (some 22) (.slice (some ⟨wb, wo, none⟩) wn wc) = (⟨#[.pointer (some ⟨sb, 0, none⟩), x1, x2, x3, x4, x5, x6, x7, x8, x9, x10, x11, x12, x13, x14, x15, x16, x17, x18, .pointer (some ⟨sb, 0, none⟩), .pointer (some ⟨sb, 0, none⟩), .pointer (some ⟨sb, 36, none⟩), .slice (some ⟨wb, wo, none⟩) wn wc, x23, x24, x25, .pointer (some ⟨sb, 0, none⟩), .pointer (some ⟨sb, 0, none⟩), .pointer (some ⟨sb, 0, none⟩), .pointer (some ⟨sb, 37, none⟩), x30, x31, x32, x33, x34, x35, x36, x37, x38, x39, x40, x41, x42, x43, x44, x45, x46, x47, x48, x49, x50], []⟩ : Act) := by kernel_rfl
    have l1 : (#[true, true, true, false, false, false, false, true, true, true, true, false, false, false] : Array Bool).setIfInBounds 3 true = (#[true, true, true, true, false, false, false, true, true, true, true, false, false, false] : Array Bool) := by kernel_rfl
    rw [e1, l1]
    clear e1 l1
    refine chn_take (by kernel_rfl) hQ hS1 4 (tk7g1z sb wb wo wn wc f k er ) _ _ (tk7g1 sb wb wo wn wc f k er  w hwn hf c36 c2 c37 Y HC) ?_
    have e0 : putL (RofN Try.f39 7) (tk7g1z sb wb wo wn wc f k er ) (⟨#[.pointer (some ⟨sb, 0, none⟩), x1, x2, x3, x4, x5, x6, x7, x8, x9, x10, x11, x12, x13, x14, x15, x16, x17, x18, .pointer (some ⟨sb, 0, none⟩), .pointer (some ⟨sb, 0, none⟩), .pointer (some ⟨sb, 36, none⟩), .slice (some ⟨wb, wo, none⟩) wn wc, x23, x24, x25, .pointer (some ⟨sb, 0, none⟩), .pointer (some ⟨sb, 0, none⟩), .pointer (some ⟨sb, 0, none⟩), .pointer (some ⟨sb, 37, none⟩), x30, x31, x32, x33, x34, x35, x36, x37, x38, x39, x40, x41, x42, x43, x44, x45, x46, x47, x48, x49, x50], []⟩ : Act) = (⟨#[.pointer (some ⟨sb, 0, none⟩), x1, x2, x3, x4, x5, x6, x7, x8, x9, x10, x11, x12, x13, x14, x15, x16, x17, x18, .pointer (some ⟨sb, 0, none⟩), .pointer (some ⟨sb, 0, none⟩), .pointer (some ⟨sb, 36, none⟩), .slice (some ⟨wb, wo, none⟩) wn wc, .pointer (some ⟨wb, wo, none⟩), .pointer (some ⟨wb, wo + 2, none⟩), x25, .pointer (some ⟨sb, 0, none⟩), .pointer (some ⟨sb, 0, none⟩), .pointer (some ⟨sb, 0, none⟩), .pointer (some ⟨sb, 37, none⟩), x30, x31, x32, x33, x34, x35, x36, x37, x38, x39, x40, x41, x42, x43, x44, x45, x46, x47, x48, x49, x50], []⟩ : Act) := by kernel_rfl
    have l0 : setL (tk7g1z sb wb wo wn wc f k er ) (#[true, true, true, true, false, false, false, true, true, true, true, false, false, false] : Array Bool) = (#[true, true, true, true, true, true, false, true, true, true, true, false, false, false] : Array Bool) := by kernel_rfl
    rw [e0, l0]
    clear e0 l0
    exact tk7_3 sb wb wo wn wc f k er  w R hQ hwn hf c36 c2 c37 Y HC h (u) hS1 (hu)
  · have hc : (execOp (⟨#[.pointer (some ⟨sb, 0, none⟩), x1, x2, x3, x4, x5, x6, x7, x8, x9, x10, x11, x12, x13, x14, x15, x16, x17, x18, .pointer (some ⟨sb, 0, none⟩), .pointer (some ⟨sb, 0, none⟩), .pointer (some ⟨sb, 36, none⟩), x22, x23, x24, x25, .pointer (some ⟨sb, 0, none⟩), .pointer (some ⟨sb, 0, none⟩), .pointer (some ⟨sb, 0, none⟩), .pointer (some ⟨sb, 37, none⟩), x30, x31, x32, x33, x34, x35, x36, x37, x38, x39, x40, x41, x42, x43, x44, x45, x46, x47, x48, x49, x50], []⟩ : Act).eval (((RofN Try.f39 7)[11]?).getD default)).run Try.prog u = .ok (.value (.slice k.a k.n k.c)) (u) := (by rw [hu]; exact ld_t 24 (.tmp 29) sb 37 (by kernel_rfl) (by kernel_rfl) (ld24' c37))
    refine wpOp_val (some 30) (by kernel_rfl) (by kernel_rfl) (by kernel_rfl) hc ?_
    clear hc
    have hS1 : (fun _ => True) (u) := trivial
    refine ⟨hS1, ?_⟩
    have e1 : (⟨#[.pointer (some ⟨sb, 0, none⟩), x1, x2, x3, x4, x5, x6, x7, x8, x9, x10, x11, x12, x13, x14, x15, x16, x17, x18, .pointer (some ⟨sb, 0, none⟩), .pointer (some ⟨sb, 0, none⟩), .pointer (some ⟨sb, 36, none⟩), x22, x23, x24, x25, .pointer (some ⟨sb, 0, none⟩), .pointer (some ⟨sb, 0, none⟩), .pointer (some ⟨sb, 0, none⟩), .pointer (some ⟨sb, 37, none⟩), x30, x31, x32, x33, x34, x35, x36, x37, x38, x39, x40, x41, x42, x43, x44, x45, x46, x47, x48, x49, x50], []⟩ : Act).put (some 30) (.slice k.a k.n k.c) = (⟨#[.pointer (some ⟨sb, 0, none⟩), x1, x2, x3, x4, x5, x6, x7, x8, x9, x10, x11, x12, x13, x14, x15, x16, x17, x18, .pointer (some ⟨sb, 0, none⟩), .pointer (some ⟨sb, 0, none⟩), .pointer (some ⟨sb, 36, none⟩), x22, x23, x24, x25, .pointer (some ⟨sb, 0, none⟩), .pointer (some ⟨sb, 0, none⟩), .pointer (some ⟨sb, 0, none⟩), .pointer (some ⟨sb, 37, none⟩), .slice k.a k.n k.c, x31, x32, x33, x34, x35, x36, x37, x38, x39, x40, x41, x42, x43, x44, x45, x46, x47, x48, x49, x50], []⟩ : Act) := by kernel_rfl
    have l1 : (#[true, true, true, false, false, false, false, true, true, true, true, false, false, false] : Array Bool).setIfInBounds 11 true = (#[true, true, true, false, false, false, false, true, true, true, true, true, false, false] : Array Bool) := by kernel_rfl
    rw [e1, l1]
    clear e1 l1
    exact tk7_11 sb wb wo wn wc f k er  w R hQ hwn hf c36 c2 c37 Y HC h (u) hS1 (hu)
set_option maxHeartbeats 16000000 in
theorem tk7 (sb wb wo wn wc f : Nat) (k : Sv) (er : Int) {x1 x2 x3 x4 x5 x6 x7 x8 x9 x10 x11 x12 x13 x14 x15 x16 x17 x18 x19 x20 x21 x22 x23 x24 x25 x26 x27 x28 x29 x30 x31 x32 x33 x34 x35 x36 x37 x38 x39 x40 x41 x42 x43 x44 x45 x46 x47 x48 x49 x50 : Value} (w : World) (R : Exit → Act → World → Prop) (hQ : ∀ c a d v w, R (.panic c) (a.put d v) w → R (.panic c) a w) (hwn : 0 < wn) (hf : f = 30 ∨ f = 31 ∨ f = 32 ∨ f = 33 ∨ f = 34) (c36 : w.drew.cell? ⟨sb, 36, none⟩ = some (.slice (some ⟨wb, wo, none⟩) wn wc)) (c2 : w.drew.cell? ⟨wb, wo + 2, none⟩ = some (.func (.func f) #[] #[])) (c37 : w.drew.cell? ⟨sb, 37, none⟩ = some (.slice k.a k.n k.c)) (Y : World → Prop)
    (HC : ∀ u, u = w.drew → Calls Try.prog f #[.pointer (some ⟨sb, 0, none⟩), .slice k.a k.n k.c] u fun e v => e = .returned (.int .i64 er) ∧ Y v) (hS : (fun _ => True) w)
    (h : ∀ (u : World), Y u → R .normal (⟨#[.pointer (some ⟨sb, 0, none⟩), x1, x2, x3, .int .i64 er, x5, x6, x7, x8, x9, x10, x11, x12, x13, x14, x15, x16, x17, x18, .pointer (some ⟨sb, 0, none⟩), .pointer (some ⟨sb, 0, none⟩), .pointer (some ⟨sb, 36, none⟩), .slice (some ⟨wb, wo, none⟩) wn wc, .pointer (some ⟨wb, wo, none⟩), .pointer (some ⟨wb, wo + 2, none⟩), .func (.func f) #[] #[], .pointer (some ⟨sb, 0, none⟩), .pointer (some ⟨sb, 0, none⟩), .pointer (some ⟨sb, 0, none⟩), .pointer (some ⟨sb, 37, none⟩), .slice k.a k.n k.c, .int .i64 er, x32, x33, x34, x35, x36, x37, x38, x39, x40, x41, x42, x43, x44, x45, x46, x47, x48, x49, x50], []⟩ : Act) u) :
    (Code.region 7 (RofN Try.f39 7) true).wp Try.prog R (⟨#[.pointer (some ⟨sb, 0, none⟩), x1, x2, x3, x4, x5, x6, x7, x8, x9, x10, x11, x12, x13, x14, x15, x16, x17, x18, x19, x20, x21, x22, x23, x24, x25, x26, x27, x28, x29, x30, x31, x32, x33, x34, x35, x36, x37, x38, x39, x40, x41, x42, x43, x44, x45, x46, x47, x48, x49, x50], []⟩ : Act) w := by
  refine wp_region_held (S := (fun _ => True)) (by kernel_rfl) ?_
  have hsz : (RofN Try.f39 7).size = 14 := by kernel_rfl
  rw [hsz]
  have hS0 : (fun _ => True) w.drew := tc11_q hS (show KU w w.drew from trivial)
  refine chn_take (by kernel_rfl) hQ hS0 7 (tk7g0z sb wb wo wn wc f k er ) _ _ (tk7g0 sb wb wo wn wc f k er  w hwn hf c36 c2 c37 Y HC) ?_
  have e0 : putL (RofN Try.f39 7) (tk7g0z sb wb wo wn wc f k er ) (⟨#[.pointer (some ⟨sb, 0, none⟩), x1, x2, x3, x4, x5, x6, x7, x8, x9, x10, x11, x12, x13, x14, x15, x16, x17, x18, x19, x20, x21, x22, x23, x24, x25, x26, x27, x28, x29, x30, x31, x32, x33, x34, x35, x36, x37, x38, x39, x40, x41, x42, x43, x44, x45, x46, x47, x48, x49, x50], []⟩ : Act) = (⟨#[.pointer (some ⟨sb, 0, none⟩), x1, x2, x3, x4, x5, x6, x7, x8, x9, x10, x11, x12, x13, x14, x15, x16, x17, x18, .pointer (some ⟨sb, 0, none⟩), .pointer (some ⟨sb, 0, none⟩), .pointer (some ⟨sb, 36, none⟩), x22, x23, x24, x25, .pointer (some ⟨sb, 0, none⟩), .pointer (some ⟨sb, 0, none⟩), .pointer (some ⟨sb, 0, none⟩), .pointer (some ⟨sb, 37, none⟩), x30, x31, x32, x33, x34, x35, x36, x37, x38, x39, x40, x41, x42, x43, x44, x45, x46, x47, x48, x49, x50], []⟩ : Act) := by kernel_rfl
  have l0 : setL (tk7g0z sb wb wo wn wc f k er ) (Array.replicate 14 false) = (#[true, true, true, false, false, false, false, true, true, true, true, false, false, false] : Array Bool) := by kernel_rfl
  rw [e0, l0]
  clear e0 l0
  exact tk7_o sb wb wo wn wc f k er w R hQ hwn hf c36 c2 c37 Y HC h _ hS0 (rfl)
end Go.Proofs.Ytekpepnonhbkcaa
namespace Go.Proofs.Ytekpepnonhbkcaa
open Go.RowKit
set_option linter.unusedVariables false
set_option maxRecDepth 20000

/-- What a call leaves of a side, whose kept bytes may have turned. -/
structure Bft (w : World) (B sb : Nat) (S : Sh) (Fs : List Fl) (A' : Ab) (w' : World) (S' : Sh) (Fs' : List Fl) : Prop where
  f : Fu w' B sb S' Fs' A'
  k : Keep (Mut sb S Fs) w w'
  m : ∀ b, Mut sb S' Fs' b → Mut sb S Fs b ∨ w.heap.size ≤ b
theorem Aft.b {w w' : World} {B sb : Nat} {S S' : Sh} {Fs Fs' : List Fl} {A' : Ab} (h : Aft w B sb S Fs A' w' S' Fs') : Bft w B sb S Fs A' w' S' Fs' := ⟨h.f, h.k, h.m⟩
theorem Bft.trans {w w1 w2 : World} {B sb : Nat} {S S1 S2 : Sh} {Fs Gs Hs : List Fl} {A1 A2 : Ab} (h : Bft w B sb S Fs A1 w1 S1 Gs) (k : Bft w1 B sb S1 Gs A2 w2 S2 Hs) : Bft w B sb S Fs A2 w2 S2 Hs := by
  refine ⟨k.f, h.k.trans' k.k (fun i hi m => ?_), fun b m => ?_⟩
  · rcases h.m i m with m | m
    · exact m
    · omega
  · rcases k.m b m with m | m
    · exact h.m b m
    · exact .inr (Nat.le_trans h.k.size m)
/-- Cells of a side have turned: what was said and what was kept are left, or let go. -/
theorem Fu.drop {w w' : World} {B sb : Nat} {S S' : Sh} {Fs : List Fl} {A A' : Ab} (h : Fu w B sb S Fs A) (ha : ShAt w' sb S') (k : Keep (fun b => b = sb) w w') (e1 : S'.said = S.said ∧ A'.sd = A.sd ∨ S'.said = nilS ∧ A'.sd = []) (e2 : S'.out = S.out) (e3 : S'.kept = S.kept ∧ A'.kp = A.kp ∨ S'.kept = nilS ∧ A'.kp = []) (a2 : A'.out = A.out)
    (hr : ∀ M', (∀ b, M' b → Mut sb S Fs b) → Rest w' M' S' A') : Bft w B sb S Fs A' w' S' Fs := by
  have hsd : Sd w' B sb S' A'.sd Fs := by
    rcases e1 with ⟨e1, a1⟩ | ⟨e1, a1⟩
    · rw [a1]; exact h.sd.cells ha k e1 e2
    · refine ⟨ha, h.sd.hB, ?_, ?_, ?_, ?_, ?_, ?_, h.sd.pd⟩
      · rw [e1, a1]; exact sub_nil _ _ _
      · rw [e2]; exact Sub.keep h.sd.fr k (fun b e => (h.sd.bo b e).2.1)
      · exact fun F hF => Sub.keep (h.sd.dr F hF) k (fun b e => (h.sd.bd F hF b e).2.1)
      · rw [e1]; intro b e; cases e
      · rw [e1, e2]; exact fun b e => ⟨(h.sd.bo b e).1, (h.sd.bo b e).2.1, by intro e'; cases e'⟩
      · rw [e1, e2]; exact fun F hF b e => ⟨(h.sd.bd F hF b e).1, (h.sd.bd F hF b e).2.1, (by intro e'; cases e'), (h.sd.bd F hF b e).2.2.2⟩
  have hmi : ∀ b, Mine sb S' Fs b → Mine sb S Fs b := by
    intro b m
    rcases m with m | m | m | m
    · exact .inl m
    · rcases e1 with ⟨e1, _⟩ | ⟨e1, _⟩
      · rw [e1] at m; exact .inr (.inl m)
      · rw [e1] at m; cases m
    · rw [e2] at m; exact .inr (.inr (.inl m))
    · exact .inr (.inr (.inr m))
  have hmu : ∀ b, Mut sb S' Fs b → Mut sb S Fs b := by
    intro b m
    rcases m with m | m
    · exact .inl (hmi b m)
    · rcases e3 with ⟨e3, _⟩ | ⟨e3, _⟩
      · rw [e3] at m; exact .inr m
      · rw [e3] at m; cases m
  refine ⟨⟨hsd, by rw [a2]; exact h.fl, ?_, ?_, hr _ hmu⟩, k.mono (fun i _ e => mut_sb i e), fun b m => .inl (hmu b m)⟩
  · rcases e3 with ⟨e3, a3⟩ | ⟨e3, a3⟩
    · rw [e3, a3]; exact Sub.keep h.kr k (fun b e f => (h.kb b e).2 (.inl f))
    · rw [e3, a3]; exact sub_nil _ _ _
  · rcases e3 with ⟨e3, _⟩ | ⟨e3, _⟩
    · rw [e3]; exact fun b e => ⟨(h.kb b e).1, fun m => (h.kb b e).2 (hmi b m)⟩
    · rw [e3]; intro b e; cases e
/-- What is waited for first. -/
theorem Wt.head {w : World} {M : Nat → Prop} {v : Sv} {sv : Bool} {kd lv : Int} {f : Nat} {rest : List (Int × Int × Nat)} (h : Wt w M v sv ((kd, lv, f) :: rest)) :
    ∃ wb wo, v.a = some ⟨wb, wo, none⟩ ∧ w.cell? ⟨wb, wo, none⟩ = some (.int .u8 kd) ∧ w.cell? ⟨wb, wo + 1, none⟩ = some (.int .i64 lv) ∧ w.cell? ⟨wb, wo + 2, none⟩ = some (.func (.func f) #[] #[]) ∧ (f = 30 ∨ f = 31 ∨ f = 32 ∨ f = 33 ∨ f = 34) ∧ v.n = rest.length + 1 := by
  obtain ⟨wb, j, e, hb, hm, ha⟩ := h.r
  refine ⟨wb, 3 * j, ha (by simp), ?_⟩
  have hn := h.n
  have hl : j < 3 := by
    rcases Nat.lt_or_ge j 3 with hh | hh
    · exact hh
    · rw [List.drop_of_length_le (by cases sv <;> simp [waitsL] <;> omega)] at e; cases e
  have hc : ∀ i x, (waitsC (waitsL sv))[i]? = some x → w.cell? ⟨wb, i, none⟩ = some x := fun i x hx => by rw [cell_of_row _ _ _ _ 72 (0, 0) hb, List.getElem?_toArray]; exact hx
  cases sv <;> (rcases (show j = 0 ∨ j = 1 ∨ j = 2 by omega) with rfl | rfl | rfl) <;> simp only [waitsL, List.drop, List.cons.injEq, Prod.mk.injEq, reduceCtorEq] at e <;> (try exact e.elim) <;> (obtain ⟨⟨rfl, rfl, rfl⟩, rfl⟩ := e) <;> exact ⟨hc _ _ rfl, hc _ _ rfl, hc _ _ rfl, by decide, by rw [← hn]; rfl⟩
/-- .. and what is waited for behind it. -/
theorem Wt.tail {w : World} {M : Nat → Prop} {v : Sv} {sv : Bool} {x : Int × Int × Nat} {rest : List (Int × Int × Nat)} (h : Wt w M v sv (x :: rest)) :
    Wt w M ⟨if v.c = 1 then v.a else v.a.map (·.add 3), v.n - 1, v.c - 1⟩ sv rest := by
  obtain ⟨wb, j, e, hb, hm, ha⟩ := h.r
  have hn := h.n
  have hc := h.c
  rw [List.length_cons] at hn
  refine ⟨by show rest.length = v.n - 1; omega, by show v.n - 1 ≤ v.c - 1; omega, wb, j + 1, ?_, hb, hm, fun hne => ?_⟩
  · rw [← List.drop_drop, ← e]; rfl
  · have h1 : rest.length ≠ 0 := fun e => hne (List.length_eq_zero_iff.1 e)
    show (if v.c = 1 then v.a else v.a.map (·.add 3)) = _
    rw [if_neg (by omega), ha (by simp), Option.map_some, addr_add]
    congr 2
def tkF (f : Nat) (A : Ab) : Int × Ab := if f = 30 then tkCH A else if f = 31 then tkCF A else if f = 32 then tkSH A else if f = 33 then tkCo A else tkSF A
theorem tkF_any (f : Nat) (hf : f = 30 ∨ f = 31 ∨ f = 32 ∨ f = 33 ∨ f = 34) (B sb : Nat) (S : Sh) (Fs : List Fl) (A : Ab) (w : World) (h : Fu w B sb S Fs A) (ok : Ok A) (h4 : 4 ≤ A.kp.length) :
    Calls Try.prog f #[.pointer (some ⟨sb, 0, none⟩), .slice S.kept.a S.kept.n S.kept.c] w fun e w' => e = .returned (.int .i64 (tkF f A).1) ∧ ∃ S' Fs', Aft w B sb S Fs (tkF f A).2 w' S' Fs' := by
  rcases hf with rfl | rfl | rfl | rfl | rfl
  · exact takeCH_any B sb S Fs A w h ok h4
  · exact takeCF_any B sb S Fs A w h ok h4
  · exact takeSH_any B sb S Fs A w h ok h4
  · exact takeCo_any B sb S Fs A w h ok h4
  · exact takeSF_any B sb S Fs A w h ok h4
theorem coA_wt (A : Ab) : (coA A).wt = A.wt ∧ (coA A).sv = A.sv ∧ (coA A).fd = A.fd := ⟨rfl, rfl, rfl⟩
theorem agA_wt (A : Ab) (p : Int) : (agA A p).wt = A.wt ∧ (agA A p).sv = A.sv ∧ (agA A p).fd = A.fd := ⟨rfl, rfl, rfl⟩
theorem sayA_wt (A : Ab) (l : Int) (m : List Int) : (sayA A l m).wt = A.wt ∧ (sayA A l m).sv = A.sv ∧ (sayA A l m).fd = A.fd := ⟨rfl, rfl, rfl⟩
theorem hearA_wt (A : Ab) (m : List Int) : (hearA A m).wt = A.wt ∧ (hearA A m).sv = A.sv ∧ (hearA A m).fd = A.fd := ⟨rfl, rfl, rfl⟩
theorem ch1_wt (A : Ab) : (ch1 A).wt = A.wt ∧ (ch1 A).sv = A.sv ∧ (ch1 A).fd = A.fd := ⟨rfl, rfl, rfl⟩
theorem and3 {α β γ : Type} {a a' a'' : α} {b b' b'' : β} {c c' c'' : γ} (h : a = a' ∧ b = b' ∧ c = c') (k : a' = a'' ∧ b' = b'' ∧ c' = c'') : a = a'' ∧ b = b'' ∧ c = c'' := ⟨h.1.trans k.1, h.2.1.trans k.2.1, h.2.2.trans k.2.2⟩
theorem ch5_wt (A : Ab) : (ch5 A).wt = A.wt ∧ (ch5 A).sv = A.sv ∧ (ch5 A).fd = A.fd :=
  and3 (sayA_wt _ _ _) (and3 (sayA_wt _ _ _) (and3 (agA_wt _ _) (and3 (sayA_wt _ _ _) (and3 (hearA_wt _ _) (ch1_wt A)))))
theorem tkF_wt (f : Nat) (A : Ab) : (tkF f A).2.wt = A.wt ∧ (tkF f A).2.sv = A.sv ∧ (tkF f A).2.fd = A.fd := by
  unfold tkF
  split
  · unfold tkCH
    split
    · split
      · exact and3 (coA_wt _) (ch5_wt A)
      · exact ⟨rfl, rfl, rfl⟩
    · exact ⟨rfl, rfl, rfl⟩
  split
  · exact ⟨rfl, rfl, rfl⟩
  split
  · unfold tkSH
    split
    · exact and3 (agA_wt _ _) (hearA_wt _ _)
    · exact ⟨rfl, rfl, rfl⟩
  split
  · unfold tkCo
    split
    · split
      · exact and3 (hearA_wt _ _) ⟨rfl, rfl, rfl⟩
      · exact ⟨rfl, rfl, rfl⟩
    · exact ⟨rfl, rfl, rfl⟩
  · unfold tkSF
    split
    · exact and3 (sayA_wt _ _ _) (and3 (coA_wt _) (hearA_wt _ _))
    · exact ⟨rfl, rfl, rfl⟩
def shutA (A A' : Ab) : Ab := { A' with wt := A.wt.tail, kp := [], sd := if A.wt.tail = [] then [] else A'.sd }
def kdA (A : Ab) : Int := (A.wt.headD (0, 0, 0)).1
def fnA (A : Ab) : Nat := (A.wt.headD (0, 0, 0)).2.2
def tkK (A : Ab) : Int × Ab := if A.kp.length = 4 ∧ headE A.kp (kdA A) ≠ 0 then (headE A.kp (kdA A), A) else if 0 < lack A.kp then (0, A) else if (tkF (fnA A) A).1 ≠ 0 then tkF (fnA A) A else (0, shutA A (tkF (fnA A) A).2)
theorem slice_from3 (a : Option Addr) (n c : Nat) (h1 : 1 ≤ n) (u : World) :
    (Instr.slice 61 (.slice a n c) (some (.int .i64 1)) none none).run Try.prog u = .ok (.slice (if c = 1 then a else a.map (·.add 3)) (n - 1) (c - 1)) u := by
  have h := run_slice_l (P := Try.prog) u 61 a n c Try.underlying61 .i64 1 (by omega) (by omega)
  rw [h]
  obtain ⟨i0, hi, hz1⟩ := Option.map_eq_some_iff.1 (show (Try.prog.info? 72).map (·.size) = some 3 from by kernel_rfl)
  have e : Try.prog.elem 61 = 72 := by kernel_rfl
  simp [sizeOf, typeInfo, e, hi, hz1, sliced, Result.andThen]
theorem lack_ge {zs : List Int} (h : ¬ 0 < lack zs) : 4 ≤ zs.length := by
  unfold lack at h
  split at h
  · omega
  · omega
set_option maxHeartbeats 16000000 in
theorem takeKept_any (B sb : Nat) (S : Sh) (Fs : List Fl) (A : Ab) (w : World) (h : Fu w B sb S Fs A) (ok : Ok A) (kd lv : Int) (f : Nat) (rest : List (Int × Int × Nat)) (hwt : A.wt = (kd, lv, f) :: rest) :
    Calls Try.prog 39 #[.pointer (some ⟨sb, 0, none⟩)] w fun e w' => e = .returned (.int .i64 (tkK A).1) ∧ ∃ S' Fs', Bft w B sb S Fs (tkK A).2 w' S' Fs' := by
  have HF := hid h
  have HO := hid ok
  have hkl : A.kp.length = S.kept.n := Row.len h.kr
  have HKL := hid hkl
  have hnk := ok.nkp
  have hw0 := h.re.wt
  rw [hwt] at hw0
  obtain ⟨wb, wo, ha, c0, c1, c2, hf, hn⟩ := hw0.head
  have hcap := hw0.c
  clear hw0 c1
  have HWA := hid ha
  have HWN := hid hn
  have C0 := hid c0
  have C2 := hid c2
  have HFN := hid hf
  have CKH := hid (fun (h4 : 4 ≤ A.kp.length) => checkHead_any sb S A.kp wb wo kd w HF.out.sd.at_ HKL.out h4 (by omega) HO.out.kp (Row.seg HF.out.kr) HWA.out (by have := HWN.out; omega) C0.out)
  have MIS := hid (fun (u : World) (q : Q w u) => missing_any sb S A.kp u (HF.out.q q).sd.at_ HKL.out (by omega) HO.out.kp (Row.seg (HF.out.q q).kr))
  have c37 := h.sd.at_.kept
  have c36 := h.sd.at_.waits
  have C37 := hid c37
  have C36 := hid c36
  have HT := hid (show tkK A = if A.kp.length = 4 ∧ headE A.kp kd ≠ 0 then (headE A.kp kd, A) else if 0 < lack A.kp then (0, A) else if (tkF f A).1 ≠ 0 then tkF f A else (0, shutA A (tkF f A).2) from by unfold tkK kdA fnA; rw [hwt]; rfl)
  have HWT := hid hwt
  clear h ok ha hn c0 c2 hf hwt c36
  by_cases hA : A.kp.length = 4 ∧ headE A.kp kd ≠ 0
  · rw [if_pos hA] at HT
    have hn4 : S.kept.n = 4 := by omega
    have hkn : ((S.kept.n : Int) == 4) = true := by rw [hn4]; rfl
    have CK := hid (CKH.out (by omega))
    generalize headE A.kp kd = er at *
    have her : (er != 0) = true := by simpa using hA.2
    clear hA CKH
    generalize S.kept = kv at *
    obtain ⟨ka, kn, kc⟩ := kv
    dsimp only at *
    go_enter Try.func39, Try.ntmps39
    go_wp2_with (go_at_call 59; refine CK.out.mono ?_; rintro e w1 ⟨rfl, k1, rfl⟩)
    go_ret
    refine ⟨by rw [HT.out]; rfl, S, Fs, ?_⟩
    rw [HT.out]
    exact (Aft.q HF.out ((Q.refl w).drewN k1)).b
  · rw [if_neg hA] at HT
    have h36 : w.cell? ⟨sb, 36, none⟩ = some (.slice (some ⟨wb, wo, none⟩) S.waits.n S.waits.c) := by rw [← HWA.out]; exact C36.out
    have H36 := hid h36
    clear h36
    have HA := hid hA
    clear hA
    by_cases hlk : 0 < lack A.kp
    · rw [if_pos hlk] at HT
      generalize lack A.kp = lk at *
      by_cases hn4 : A.kp.length = 4
      · have hkn : ((S.kept.n : Int) == 4) = true := by rw [← HKL.out, hn4]; rfl
        have CK := hid (CKH.out (by omega))
        rw [show headE A.kp kd = 0 from Classical.byContradiction fun e => HA.out ⟨hn4, e⟩] at CK
        clear CKH HA hn4
        go_enter Try.func39, Try.ntmps39
        go_wp2_with (first
          | (go_at_call 59; refine CK.out.mono ?_; rintro e w1 ⟨rfl, k1, rfl⟩)
          | (go_at_call 38; refine (MIS.out (w.drewN k1) ((Q.refl w).drewN k1)).mono ?_; rintro e w2 ⟨rfl, k2, rfl⟩))
        go_ret
        refine ⟨by rw [HT.out]; rfl, S, Fs, ?_⟩
        rw [HT.out]
        exact (Aft.q HF.out ((Q.refl w).drewN (k1 + k2))).b
      · have hkn : ((S.kept.n : Int) == 4) = false := by have := HKL.out; simp; omega
        clear CKH HA hn4
        go_enter Try.func39, Try.ntmps39
        go_wp2_with (first
          | (go_at_call 38; refine (MIS.out w (Q.refl w)).mono ?_; rintro e w2 ⟨rfl, k2, rfl⟩))
        go_ret
        refine ⟨by rw [HT.out]; rfl, S, Fs, ?_⟩
        rw [HT.out]
        exact (Aft.q HF.out ((Q.refl w).drewN k2)).b
    · rw [if_neg hlk] at HT
      have h4 := lack_ge hlk
      have TKF := hid (fun (u : World) (q : Q w u) => tkF_any f HFN.out B sb S Fs A u (HF.out.q q) HO.out h4)
      have HW8 := hid (tkF_wt f A)
      generalize hx : tkF f A = r at *
      clear hx
      obtain ⟨er, A8⟩ := r
      dsimp only at *
      generalize lack A.kp = lk at *
      by_cases her : er = 0
      · subst her
        rw [if_neg (by simp)] at HT
        by_cases hre : rest = []
        · by_cases hn4 : A.kp.length = 4
          · have hkn : ((S.kept.n : Int) == 4) = true := by rw [← HKL.out, hn4]; rfl
            have CK := hid (CKH.out (by omega))
            rw [show headE A.kp kd = 0 from Classical.byContradiction fun e => HA.out ⟨hn4, e⟩] at CK
            clear CKH HA hn4
            go_enter Try.func39, Try.ntmps39
            go_upto_region 7 with (first
              | (go_at_call 59; refine CK.out.mono ?_; rintro e w1 ⟨rfl, k1, rfl⟩)
              | (go_at_call 38; refine (MIS.out (w.drewN k1) ((Q.refl w).drewN k1)).mono ?_; rintro e w2 ⟨rfl, k2, rfl⟩))
            generalize hR : Code.region 7 _ true = CC
            have eR : CC = Code.region 7 (RofN Try.f39 7) true := hR.symm.trans (by kernel_rfl)
            clear hR
            subst eR
            refine wp_region_noPanic ?_
            refine tk7 sb wb wo S.waits.n S.waits.c f S.kept 0 _ _ (fun c a d v w h => h) (by have := HWN.out; omega) HFN.out H36.out C2.out C37.out (fun v => ∃ S' F', Aft w B sb S Fs A8 v S' F') (fun u hu => by
              subst hu
              exact (TKF.out _ (((Q.refl w).drewN (k1 + k2)).drew)).mono (fun e v ⟨he, S', F', a⟩ => ⟨he, S', F', (Aft.q HF.out (((Q.refl w).drewN (k1 + k2)).drew)).trans a⟩)) trivial ?_
            rintro w8 ⟨S8, F8, a8⟩
            have A8F := hid a8
            clear a8 c37
            refine NoPanic.normal ?_
            refine ‹∀ a w, Code.wp Try.prog _ _ a w → _› _ _ ?_
            have hw8 := A8F.out.f.re.wt
            rw [HW8.out.1, HWT.out] at hw8
            have hn8 := hw8.n
            have hc8 := hw8.c
            clear hw8
            rw [List.length_cons] at hn8
            have c36 := A8F.out.f.sd.at_.waits
            have f36 := A8F.out.f.sd.at_.free 36
            have c37 := A8F.out.f.sd.at_.kept
            have f37 := A8F.out.f.sd.at_.free 37
            have hsl := slice_from3 S8.waits.a S8.waits.n S8.waits.c (by omega)
            have H9 := hid ((A8F.out.f.sd.at_.setWaits ⟨if S8.waits.c = 1 then S8.waits.a else S8.waits.a.map (·.add 3), S8.waits.n - 1, S8.waits.c - 1⟩).setKept nilS)
            have K9 := hid (((Keep.refl (fun b => b = sb) w8).setCell sb 36 (.slice (if S8.waits.c = 1 then S8.waits.a else S8.waits.a.map (·.add 3)) (S8.waits.n - 1) (S8.waits.c - 1)) (.inl rfl)).setCell sb 37 (.slice none 0 0) (.inl rfl))
            have hdn : decide (S8.waits.n - 1 = 0) = true := by simp only [decide_eq_true_eq]; rw [hre] at hn8; simp at hn8; omega
            have RE := hid (fun (u : World) (k : Keep (fun b => b = sb) w8 u) (M' : Nat → Prop) (hM : ∀ b, M' b → Mut sb S8 F8 b) => A8F.out.f.re.keep k mut_sb (M' := M') (fun b m => .inl (hM b m)))
            dsimp only at H9
            generalize hav : (if S8.waits.c = 1 then S8.waits.a else S8.waits.a.map (·.add 3)) = av at *
            have HAV := hid hav
            clear hav
            go_wp2_with (go_at_call 11; refine (done_any sb _ _ H9.out).mono ?_; rintro e w10 ⟨rfl, rfl⟩; dsimp only; rw [hdn]; have c39 := H9.out.said; have f39 := H9.out.free 39; dsimp only at c39)
            go_ret
            refine ⟨by rw [HT.out]; rfl, { S8 with waits := ⟨av, S8.waits.n - 1, S8.waits.c - 1⟩, kept := nilS, said := nilS }, F8, ?_⟩
            rw [HT.out]
            refine A8F.out.b.trans (Fu.drop A8F.out.f (H9.out.setSaid nilS) (K9.out.setCell sb 39 _ (.inl rfl)) (.inr ⟨rfl, ?_⟩) rfl (.inr ⟨rfl, rfl⟩) rfl (fun M' hM => ?_))
            · show (if A.wt.tail = [] then [] else A8.sd) = []
              rw [HWT.out]
              exact if_pos hre
            · have r := RE.out _ (K9.out.setCell sb 39 (.slice none 0 0) (.inl rfl)) M' hM
              have rw' := r.wt
              rw [HW8.out.1, HWT.out] at rw'
              have rt := rw'.tail
              rw [HAV.out] at rt
              exact ⟨r.own, (by show Wt _ M' _ A8.sv A.wt.tail; rw [HWT.out]; exact rt), r.fd, r.rt, r.hc, r.hs, r.ac, r.as_, r.pr, r.pe⟩
          · have hkn : ((S.kept.n : Int) == 4) = false := by have := HKL.out; simp; omega
            clear CKH HA hn4
            go_enter Try.func39, Try.ntmps39
            go_upto_region 7 with (first
              | (go_at_call 38; refine (MIS.out w (Q.refl w)).mono ?_; rintro e w2 ⟨rfl, k2, rfl⟩))
            generalize hR : Code.region 7 _ true = CC
            have eR : CC = Code.region 7 (RofN Try.f39 7) true := hR.symm.trans (by kernel_rfl)
            clear hR
            subst eR
            refine wp_region_noPanic ?_
            refine tk7 sb wb wo S.waits.n S.waits.c f S.kept 0 _ _ (fun c a d v w h => h) (by have := HWN.out; omega) HFN.out H36.out C2.out C37.out (fun v => ∃ S' F', Aft w B sb S Fs A8 v S' F') (fun u hu => by
              subst hu
              exact (TKF.out _ (((Q.refl w).drewN k2).drew)).mono (fun e v ⟨he, S', F', a⟩ => ⟨he, S', F', (Aft.q HF.out (((Q.refl w).drewN k2).drew)).trans a⟩)) trivial ?_
            rintro w8 ⟨S8, F8, a8⟩
            have A8F := hid a8
            clear a8 c37
            refine NoPanic.normal ?_
            refine ‹∀ a w, Code.wp Try.prog _ _ a w → _› _ _ ?_
            have hw8 := A8F.out.f.re.wt
            rw [HW8.out.1, HWT.out] at hw8
            have hn8 := hw8.n
            have hc8 := hw8.c
            clear hw8
            rw [List.length_cons] at hn8
            have c36 := A8F.out.f.sd.at_.waits
            have f36 := A8F.out.f.sd.at_.free 36
            have c37 := A8F.out.f.sd.at_.kept
            have f37 := A8F.out.f.sd.at_.free 37
            have hsl := slice_from3 S8.waits.a S8.waits.n S8.waits.c (by omega)
            have H9 := hid ((A8F.out.f.sd.at_.setWaits ⟨if S8.waits.c = 1 then S8.waits.a else S8.waits.a.map (·.add 3), S8.waits.n - 1, S8.waits.c - 1⟩).setKept nilS)
            have K9 := hid (((Keep.refl (fun b => b = sb) w8).setCell sb 36 (.slice (if S8.waits.c = 1 then S8.waits.a else S8.waits.a.map (·.add 3)) (S8.waits.n - 1) (S8.waits.c - 1)) (.inl rfl)).setCell sb 37 (.slice none 0 0) (.inl rfl))
            have hdn : decide (S8.waits.n - 1 = 0) = true := by simp only [decide_eq_true_eq]; rw [hre] at hn8; simp at hn8; omega
            have RE := hid (fun (u : World) (k : Keep (fun b => b = sb) w8 u) (M' : Nat → Prop) (hM : ∀ b, M' b → Mut sb S8 F8 b) => A8F.out.f.re.keep k mut_sb (M' := M') (fun b m => .inl (hM b m)))
            dsimp only at H9
            generalize hav : (if S8.waits.c = 1 then S8.waits.a else S8.waits.a.map (·.add 3)) = av at *
            have HAV := hid hav
            clear hav
            go_wp2_with (go_at_call 11; refine (done_any sb _ _ H9.out).mono ?_; rintro e w10 ⟨rfl, rfl⟩; dsimp only; rw [hdn]; have c39 := H9.out.said; have f39 := H9.out.free 39; dsimp only at c39)
            go_ret
            refine ⟨by rw [HT.out]; rfl, { S8 with waits := ⟨av, S8.waits.n - 1, S8.waits.c - 1⟩, kept := nilS, said := nilS }, F8, ?_⟩
            rw [HT.out]
            refine A8F.out.b.trans (Fu.drop A8F.out.f (H9.out.setSaid nilS) (K9.out.setCell sb 39 _ (.inl rfl)) (.inr ⟨rfl, ?_⟩) rfl (.inr ⟨rfl, rfl⟩) rfl (fun M' hM => ?_))
            · show (if A.wt.tail = [] then [] else A8.sd) = []
              rw [HWT.out]
              exact if_pos hre
            · have r := RE.out _ (K9.out.setCell sb 39 (.slice none 0 0) (.inl rfl)) M' hM
              have rw' := r.wt
              rw [HW8.out.1, HWT.out] at rw'
              have rt := rw'.tail
              rw [HAV.out] at rt
              exact ⟨r.own, (by show Wt _ M' _ A8.sv A.wt.tail; rw [HWT.out]; exact rt), r.fd, r.rt, r.hc, r.hs, r.ac, r.as_, r.pr, r.pe⟩
        · by_cases hn4 : A.kp.length = 4
          · have hkn : ((S.kept.n : Int) == 4) = true := by rw [← HKL.out, hn4]; rfl
            have CK := hid (CKH.out (by omega))
            rw [show headE A.kp kd = 0 from Classical.byContradiction fun e => HA.out ⟨hn4, e⟩] at CK
            clear CKH HA hn4
            go_enter Try.func39, Try.ntmps39
            go_upto_region 7 with (first
              | (go_at_call 59; refine CK.out.mono ?_; rintro e w1 ⟨rfl, k1, rfl⟩)
              | (go_at_call 38; refine (MIS.out (w.drewN k1) ((Q.refl w).drewN k1)).mono ?_; rintro e w2 ⟨rfl, k2, rfl⟩))
            generalize hR : Code.region 7 _ true = CC
            have eR : CC = Code.region 7 (RofN Try.f39 7) true := hR.symm.trans (by kernel_rfl)
            clear hR
            subst eR
            refine wp_region_noPanic ?_
            refine tk7 sb wb wo S.waits.n S.waits.c f S.kept 0 _ _ (fun c a d v w h => h) (by have := HWN.out; omega) HFN.out H36.out C2.out C37.out (fun v => ∃ S' F', Aft w B sb S Fs A8 v S' F') (fun u hu => by
              subst hu
              exact (TKF.out _ (((Q.refl w).drewN (k1 + k2)).drew)).mono (fun e v ⟨he, S', F', a⟩ => ⟨he, S', F', (Aft.q HF.out (((Q.refl w).drewN (k1 + k2)).drew)).trans a⟩)) trivial ?_
            rintro w8 ⟨S8, F8, a8⟩
            have A8F := hid a8
            clear a8 c37
            refine NoPanic.normal ?_
            refine ‹∀ a w, Code.wp Try.prog _ _ a w → _› _ _ ?_
            have hw8 := A8F.out.f.re.wt
            rw [HW8.out.1, HWT.out] at hw8
            have hn8 := hw8.n
            have hc8 := hw8.c
            clear hw8
            rw [List.length_cons] at hn8
            have c36 := A8F.out.f.sd.at_.waits
            have f36 := A8F.out.f.sd.at_.free 36
            have c37 := A8F.out.f.sd.at_.kept
            have f37 := A8F.out.f.sd.at_.free 37
            have hsl := slice_from3 S8.waits.a S8.waits.n S8.waits.c (by omega)
            have H9 := hid ((A8F.out.f.sd.at_.setWaits ⟨if S8.waits.c = 1 then S8.waits.a else S8.waits.a.map (·.add 3), S8.waits.n - 1, S8.waits.c - 1⟩).setKept nilS)
            have K9 := hid (((Keep.refl (fun b => b = sb) w8).setCell sb 36 (.slice (if S8.waits.c = 1 then S8.waits.a else S8.waits.a.map (·.add 3)) (S8.waits.n - 1) (S8.waits.c - 1)) (.inl rfl)).setCell sb 37 (.slice none 0 0) (.inl rfl))
            have hdn : decide (S8.waits.n - 1 = 0) = false := by simp only [decide_eq_false_iff_not]; have : rest.length ≠ 0 := fun e => hre (List.length_eq_zero_iff.1 e); omega
            have RE := hid (fun (u : World) (k : Keep (fun b => b = sb) w8 u) (M' : Nat → Prop) (hM : ∀ b, M' b → Mut sb S8 F8 b) => A8F.out.f.re.keep k mut_sb (M' := M') (fun b m => .inl (hM b m)))
            dsimp only at H9
            generalize hav : (if S8.waits.c = 1 then S8.waits.a else S8.waits.a.map (·.add 3)) = av at *
            have HAV := hid hav
            clear hav
            go_wp2_with (go_at_call 11; refine (done_any sb _ _ H9.out).mono ?_; rintro e w10 ⟨rfl, rfl⟩; dsimp only; rw [hdn]; have c39 := H9.out.said; have f39 := H9.out.free 39; dsimp only at c39)
            go_ret
            refine ⟨by rw [HT.out]; rfl, { S8 with waits := ⟨av, S8.waits.n - 1, S8.waits.c - 1⟩, kept := nilS }, F8, ?_⟩
            rw [HT.out]
            refine A8F.out.b.trans (Fu.drop A8F.out.f H9.out K9.out (.inl ⟨rfl, ?_⟩) rfl (.inr ⟨rfl, rfl⟩) rfl (fun M' hM => ?_))
            · show (if A.wt.tail = [] then [] else A8.sd) = A8.sd
              rw [HWT.out]
              exact if_neg hre
            · have r := RE.out _ (K9.out) M' hM
              have rw' := r.wt
              rw [HW8.out.1, HWT.out] at rw'
              have rt := rw'.tail
              rw [HAV.out] at rt
              exact ⟨r.own, (by show Wt _ M' _ A8.sv A.wt.tail; rw [HWT.out]; exact rt), r.fd, r.rt, r.hc, r.hs, r.ac, r.as_, r.pr, r.pe⟩
          · have hkn : ((S.kept.n : Int) == 4) = false := by have := HKL.out; simp; omega
            clear CKH HA hn4
            go_enter Try.func39, Try.ntmps39
            go_upto_region 7 with (first
              | (go_at_call 38; refine (MIS.out w (Q.refl w)).mono ?_; rintro e w2 ⟨rfl, k2, rfl⟩))
            generalize hR : Code.region 7 _ true = CC
            have eR : CC = Code.region 7 (RofN Try.f39 7) true := hR.symm.trans (by kernel_rfl)
            clear hR
            subst eR
            refine wp_region_noPanic ?_
            refine tk7 sb wb wo S.waits.n S.waits.c f S.kept 0 _ _ (fun c a d v w h => h) (by have := HWN.out; omega) HFN.out H36.out C2.out C37.out (fun v => ∃ S' F', Aft w B sb S Fs A8 v S' F') (fun u hu => by
              subst hu
              exact (TKF.out _ (((Q.refl w).drewN k2).drew)).mono (fun e v ⟨he, S', F', a⟩ => ⟨he, S', F', (Aft.q HF.out (((Q.refl w).drewN k2).drew)).trans a⟩)) trivial ?_
            rintro w8 ⟨S8, F8, a8⟩
            have A8F := hid a8
            clear a8 c37
            refine NoPanic.normal ?_
            refine ‹∀ a w, Code.wp Try.prog _ _ a w → _› _ _ ?_
            have hw8 := A8F.out.f.re.wt
            rw [HW8.out.1, HWT.out] at hw8
            have hn8 := hw8.n
            have hc8 := hw8.c
            clear hw8
            rw [List.length_cons] at hn8
            have c36 := A8F.out.f.sd.at_.waits
            have f36 := A8F.out.f.sd.at_.free 36
            have c37 := A8F.out.f.sd.at_.kept
            have f37 := A8F.out.f.sd.at_.free 37
            have hsl := slice_from3 S8.waits.a S8.waits.n S8.waits.c (by omega)
            have H9 := hid ((A8F.out.f.sd.at_.setWaits ⟨if S8.waits.c = 1 then S8.waits.a else S8.waits.a.map (·.add 3), S8.waits.n - 1, S8.waits.c - 1⟩).setKept nilS)
            have K9 := hid (((Keep.refl (fun b => b = sb) w8).setCell sb 36 (.slice (if S8.waits.c = 1 then S8.waits.a else S8.waits.a.map (·.add 3)) (S8.waits.n - 1) (S8.waits.c - 1)) (.inl rfl)).setCell sb 37 (.slice none 0 0) (.inl rfl))
            have hdn : decide (S8.waits.n - 1 = 0) = false := by simp only [decide_eq_false_iff_not]; have : rest.length ≠ 0 := fun e => hre (List.length_eq_zero_iff.1 e); omega
            have RE := hid (fun (u : World) (k : Keep (fun b => b = sb) w8 u) (M' : Nat → Prop) (hM : ∀ b, M' b → Mut sb S8 F8 b) => A8F.out.f.re.keep k mut_sb (M' := M') (fun b m => .inl (hM b m)))
            dsimp only at H9
            generalize hav : (if S8.waits.c = 1 then S8.waits.a else S8.waits.a.map (·.add 3)) = av at *
            have HAV := hid hav
            clear hav
            go_wp2_with (go_at_call 11; refine (done_any sb _ _ H9.out).mono ?_; rintro e w10 ⟨rfl, rfl⟩; dsimp only; rw [hdn]; have c39 := H9.out.said; have f39 := H9.out.free 39; dsimp only at c39)
            go_ret
            refine ⟨by rw [HT.out]; rfl, { S8 with waits := ⟨av, S8.waits.n - 1, S8.waits.c - 1⟩, kept := nilS }, F8, ?_⟩
            rw [HT.out]
            refine A8F.out.b.trans (Fu.drop A8F.out.f H9.out K9.out (.inl ⟨rfl, ?_⟩) rfl (.inr ⟨rfl, rfl⟩) rfl (fun M' hM => ?_))
            · show (if A.wt.tail = [] then [] else A8.sd) = A8.sd
              rw [HWT.out]
              exact if_neg hre
            · have r := RE.out _ (K9.out) M' hM
              have rw' := r.wt
              rw [HW8.out.1, HWT.out] at rw'
              have rt := rw'.tail
              rw [HAV.out] at rt
              exact ⟨r.own, (by show Wt _ M' _ A8.sv A.wt.tail; rw [HWT.out]; exact rt), r.fd, r.rt, r.hc, r.hs, r.ac, r.as_, r.pr, r.pe⟩
      · rw [if_pos her] at HT
        have heb : (er != 0) = true := by simpa using her
        clear her
        by_cases hn4 : A.kp.length = 4
        · have hkn : ((S.kept.n : Int) == 4) = true := by rw [← HKL.out, hn4]; rfl
          have CK := hid (CKH.out (by omega))
          rw [show headE A.kp kd = 0 from Classical.byContradiction fun e => HA.out ⟨hn4, e⟩] at CK
          clear CKH HA hn4
          go_enter Try.func39, Try.ntmps39
          go_upto_region 7 with (first
            | (go_at_call 59; refine CK.out.mono ?_; rintro e w1 ⟨rfl, k1, rfl⟩)
            | (go_at_call 38; refine (MIS.out (w.drewN k1) ((Q.refl w).drewN k1)).mono ?_; rintro e w2 ⟨rfl, k2, rfl⟩))
          generalize hR : Code.region 7 _ true = CC
          have eR : CC = Code.region 7 (RofN Try.f39 7) true := hR.symm.trans (by kernel_rfl)
          clear hR
          subst eR
          refine wp_region_noPanic ?_
          refine tk7 sb wb wo S.waits.n S.waits.c f S.kept er _ _ (fun c a d v w h => h) (by have := HWN.out; omega) HFN.out H36.out C2.out C37.out (fun v => ∃ S' F', Aft w B sb S Fs A8 v S' F') (fun u hu => by
            subst hu
            exact (TKF.out _ (((Q.refl w).drewN (k1 + k2)).drew)).mono (fun e v ⟨he, S', F', a⟩ => ⟨he, S', F', (Aft.q HF.out (((Q.refl w).drewN (k1 + k2)).drew)).trans a⟩)) trivial ?_
          rintro w8 ⟨S8, F8, a8⟩
          have A8F := hid a8
          clear a8 c37
          refine NoPanic.normal ?_
          refine ‹∀ a w, Code.wp Try.prog _ _ a w → _› _ _ ?_
          go_wp2_with fail
          go_ret
          refine ⟨by rw [HT.out]; rfl, S8, F8, ?_⟩
          rw [HT.out]
          exact A8F.out.b
        · have hkn : ((S.kept.n : Int) == 4) = false := by have := HKL.out; simp; omega
          clear CKH HA hn4
          go_enter Try.func39, Try.ntmps39
          go_upto_region 7 with (first
            | (go_at_call 38; refine (MIS.out w (Q.refl w)).mono ?_; rintro e w2 ⟨rfl, k2, rfl⟩))
          generalize hR : Code.region 7 _ true = CC
          have eR : CC = Code.region 7 (RofN Try.f39 7) true := hR.symm.trans (by kernel_rfl)
          clear hR
          subst eR
          refine wp_region_noPanic ?_
          refine tk7 sb wb wo S.waits.n S.waits.c f S.kept er _ _ (fun c a d v w h => h) (by have := HWN.out; omega) HFN.out H36.out C2.out C37.out (fun v => ∃ S' F', Aft w B sb S Fs A8 v S' F') (fun u hu => by
            subst hu
            exact (TKF.out _ (((Q.refl w).drewN k2).drew)).mono (fun e v ⟨he, S', F', a⟩ => ⟨he, S', F', (Aft.q HF.out (((Q.refl w).drewN k2).drew)).trans a⟩)) trivial ?_
          rintro w8 ⟨S8, F8, a8⟩
          have A8F := hid a8
          clear a8 c37
          refine NoPanic.normal ?_
          refine ‹∀ a w, Code.wp Try.prog _ _ a w → _› _ _ ?_
          go_wp2_with fail
          go_ret
          refine ⟨by rw [HT.out]; rfl, S8, F8, ?_⟩
          rw [HT.out]
          exact A8F.out.b
end Go.Proofs.Ytekpepnonhbkcaa
