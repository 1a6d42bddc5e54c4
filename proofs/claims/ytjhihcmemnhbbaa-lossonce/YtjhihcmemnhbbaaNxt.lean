/-
  What next and Timer answer: contracts that the statements' walks use.
-/
import Derived.Test.YtjhihcmemnhbbaaPrb
import Derived.Deep.RegionWith
import Derived.Deep.Cut
import Derived.Deep.CutRange
namespace Go.Proofs.Ytjhihcmemnhbbaa
open Go.RowKit
set_option linter.unusedVariables false
set_option maxRecDepth 20000

def upto (f : Nat → Int) (j i : Nat) : Int := if i < j then f i else 0
abbrev arr3 (f : Nat → Int) : Array Value := #[.int .i64 (f 0), .int .i64 (f 1), .int .i64 (f 2)]
def Ar (w : World) (b : Nat) (f : Nat → Int) : Prop := w.heap[b]? = some (.cells (arr3 f) 55 (0, 0))
theorem Ar.q {w w' : World} {b : Nat} {f : Nat → Int} (h : Ar w b f) (q : Q w w') : Ar w' b f := (Below.block q b (lt_of_block h)).trans h
theorem Ar.cell {w : World} {b : Nat} {f : Nat → Int} (h : Ar w b f) {j : Nat} (hj : j < 3) : w.cell? ⟨b, j, none⟩ = some (.int .i64 (f j)) := by
  rw [cell_of_row w b j _ 55 (0, 0) h]
  rcases (show j = 0 ∨ j = 1 ∨ j = 2 by omega) with rfl | rfl | rfl <;> rfl
theorem Ar.free {w : World} {b : Nat} {f : Nat → Int} (h : Ar w b f) (j : Nat) : w.frozen? ⟨b, j, none⟩ = false := frozen_of_row w b j _ 55 h
theorem Ar.set {w : World} {b : Nat} {f : Nat → Int} {j : Nat} (h : Ar w b (upto f j)) (hj : j < 3) : Ar (w.setCell ⟨b, j, none⟩ (.int .i64 (f j))) b (upto f (j + 1)) := by
  have := heap_setCell_same w b j _ 55 (.int .i64 (f j)) h
  unfold Ar
  rw [this]
  rcases (show j = 0 ∨ j = 1 ∨ j = 2 by omega) with rfl | rfl | rfl <;> rfl
theorem Ar.other {w : World} {b c j : Nat} {f : Nat → Int} {v : Value} (h : Ar w b f) (hb : b ≠ c) : Ar (w.setCell ⟨c, j, none⟩ v) b f := by
  unfold Ar; rw [heap_setCell_other _ _ _ _ hb]; exact h
theorem Ar.val {w : World} {b : Nat} {f : Nat → Int} (h : Ar w b f) : True := trivial

/-- The time that comes next: its place (-1: none), the time, whether it is for a probe. -/
def ltA (S : Lo) (k : Nat) : Int := (S.sp k).lt
def nxP (S : Lo) : Int := if soon (ltA S 0) (ltA S 1) (ltA S 2) ≠ -1 then soon (ltA S 0) (ltA S 1) (ltA S 2) else soon (prbT S 0) (prbT S 1) (prbT S 2)
def nxB (S : Lo) : Bool := if soon (ltA S 0) (ltA S 1) (ltA S 2) ≠ -1 then false else decide (soon (prbT S 0) (prbT S 1) (prbT S 2) ≠ -1)
def nxA (S : Lo) : Int := if soon (ltA S 0) (ltA S 1) (ltA S 2) ≠ -1 then ltA S (nxP S).toNat else if nxP S ≠ -1 then prbT S (nxP S).toNat else 0

theorem soonI_range {i x p y : Int} (hi : 0 ≤ i ∧ i ≤ 2) (hp : -1 ≤ p ∧ p ≤ 2) : -1 ≤ soonI i x p y ∧ soonI i x p y ≤ 2 := by
  unfold soonI; split <;> omega
theorem soon_range (a b c : Int) : -1 ≤ soon a b c ∧ soon a b c ≤ 2 := by
  unfold soon
  simp only
  exact soonI_range (by omega) (soonI_range (by omega) (soonI_range (by omega) (by omega)))

theorem nx_step {w wr w1 : World} {S : Lo} {j : Nat} (hq : Q w wr) (q1 : Q wr w1) (ha : Ar wr w.heap.size (upto (ltA S) j)) (hb : Ar wr (w.heap.size + 1) (upto (prbT S) j)) (hlt : j < 3) :
    Q w ((w1.setCell ⟨w.heap.size, j, none⟩ (Value.int IntKind.i64 (S.sp j).lt)).setCell ⟨w.heap.size + 1, j, none⟩ (Value.int IntKind.i64 (prbT S j))) ∧ w.heap.size + 1 < ((w1.setCell ⟨w.heap.size, j, none⟩ (Value.int IntKind.i64 (S.sp j).lt)).setCell ⟨w.heap.size + 1, j, none⟩ (Value.int IntKind.i64 (prbT S j))).heap.size ∧ Ar ((w1.setCell ⟨w.heap.size, j, none⟩ (Value.int IntKind.i64 (S.sp j).lt)).setCell ⟨w.heap.size + 1, j, none⟩ (Value.int IntKind.i64 (prbT S j))) w.heap.size (upto (ltA S) (j + 1)) ∧ Ar ((w1.setCell ⟨w.heap.size, j, none⟩ (Value.int IntKind.i64 (S.sp j).lt)).setCell ⟨w.heap.size + 1, j, none⟩ (Value.int IntKind.i64 (prbT S j))) (w.heap.size + 1) (upto (prbT S) (j + 1)) := by
  have h1 : Ar ((w1.setCell ⟨w.heap.size, j, none⟩ (Value.int IntKind.i64 (S.sp j).lt)).setCell ⟨w.heap.size + 1, j, none⟩ (Value.int IntKind.i64 (prbT S j))) w.heap.size (upto (ltA S) (j + 1)) := ((ha.q q1).set hlt).other (by omega)
  have h2 : Ar ((w1.setCell ⟨w.heap.size, j, none⟩ (Value.int IntKind.i64 (S.sp j).lt)).setCell ⟨w.heap.size + 1, j, none⟩ (Value.int IntKind.i64 (prbT S j))) (w.heap.size + 1) (upto (prbT S) (j + 1)) := ((hb.q q1).other (by omega)).set hlt
  refine ⟨?_, lt_of_block h2, h1, h2⟩
  exact (((Keep.ofQ (F := fun b => w.heap.size ≤ b) (hq.trans q1)).setCell _ j _ (.inl (Nat.le_refl _))).setCell _ j _ (.inl (by omega))).toQ (fun i hi e => by omega)

set_option maxHeartbeats 4000000 in
theorem next_any {N : Nat} {w : World} {rb : Nat} {r : Nat → Sv} {S : Lo} (h : La w rb r S) (hO : Ok N S) : Calls Try.prog 20 #[.pointer (some ⟨rb, 0, none⟩)] w fun e w' => e = .returned (.tuple #[.int .i64 (nxP S), .int .i64 (nxA S), .bool (nxB S)]) ∧ Q w w' := by
  have P := hid (fun (w1 : World) (q : Q w w1) (k : Nat) (hk : k < 3) => probeTime_any (h.q q) hO hk)
  have H := hid h
  clear h hO
  go_enter Try.func20, Try.ntmps20
  go_wp2
  go_loopw [8] (fun i wr => ∃ j : Nat, j ≤ 3 ∧ i = .int .i64 j ∧ Q w wr ∧ w.heap.size + 1 < wr.heap.size ∧ Ar wr w.heap.size (upto (ltA S) j) ∧ Ar wr (w.heap.size + 1) (upto (prbT S) j)) (fun i _ => 3 - (intOf i).toNat)
  case atStart =>
    have q0 : Q w (w.alloc (Obj.cells #[Value.int IntKind.i64 0, Value.int IntKind.i64 0, Value.int IntKind.i64 0] 55)) := (Q.refl w).alloc _
    have h0 : Ar (w.alloc (Obj.cells #[Value.int IntKind.i64 0, Value.int IntKind.i64 0, Value.int IntKind.i64 0] 55)) w.heap.size (upto (ltA S) 0) := heap_alloc_new w _
    have e1 : (w.alloc (Obj.cells #[Value.int IntKind.i64 0, Value.int IntKind.i64 0, Value.int IntKind.i64 0] 55)).heap.size = w.heap.size + 1 := by simp
    have h1 : Ar ((w.alloc (Obj.cells #[Value.int IntKind.i64 0, Value.int IntKind.i64 0, Value.int IntKind.i64 0] 55)).alloc (Obj.cells #[Value.int IntKind.i64 0, Value.int IntKind.i64 0, Value.int IntKind.i64 0] 55)) (w.heap.size + 1) (upto (prbT S) 0) := by
      have := heap_alloc_new (w.alloc (Obj.cells #[Value.int IntKind.i64 0, Value.int IntKind.i64 0, Value.int IntKind.i64 0] 55)) (Obj.cells #[Value.int IntKind.i64 0, Value.int IntKind.i64 0, Value.int IntKind.i64 0] 55)
      rw [e1] at this
      exact this
    exact ⟨0, Nat.zero_le _, rfl, q0.alloc _, lt_of_block h1, h0.q ((Q.refl _).alloc _), h1⟩
  case round =>
    obtain ⟨j, hj, rfl, hq, hsz, ha, hb⟩ := hrel
    by_cases hlt : j < 3
    · have hlt' : (j : Int) < 3 := by omega
      have hwi : IntKind.i64.wrap ((j : Int) + 1) = ((j + 1 : Nat) : Int) := by rw [IntKind.wrap_i64]; omega
      have c0 := (H.out.q hq).hd.lt_ hlt
      have HQ := hid hq
      have HA := hid ha
      have HB := hid hb
      have HSZ := hid hsz
      clear hq ha hb hsz
      go_wp2
      go_region_with (go_at_call 37; refine (P.out _ (HQ.out.drew) j hlt).mono ?_; rintro e w1 ⟨rfl, q0⟩; have q1 := ((Q.refl wr).drew).trans q0; have c0' := ((H.out.q HQ.out).q q1).hd.lt_ hlt; have a1 := (HA.out.q q1).cell hlt; have a2 := (HA.out.q q1).free j; have b1 := (HB.out.q q1).cell hlt; have b2 := (HB.out.q q1).free j; have b3 := ((HB.out.q q1).other (c := w.heap.size) (j := j) (v := .int .i64 (S.sp j).lt) (by omega)).cell hlt; have b4 := ((HB.out.q q1).other (c := w.heap.size) (j := j) (v := .int .i64 (S.sp j).lt) (by omega)).free j)
      all_goals
        have REL := hid (show Q w ((w1.setCell ⟨w.heap.size, j, none⟩ (Value.int IntKind.i64 (S.sp j).lt)).setCell ⟨w.heap.size + 1, j, none⟩ (Value.int IntKind.i64 (prbT S j))) ∧ w.heap.size + 1 < ((w1.setCell ⟨w.heap.size, j, none⟩ (Value.int IntKind.i64 (S.sp j).lt)).setCell ⟨w.heap.size + 1, j, none⟩ (Value.int IntKind.i64 (prbT S j))).heap.size ∧ Ar ((w1.setCell ⟨w.heap.size, j, none⟩ (Value.int IntKind.i64 (S.sp j).lt)).setCell ⟨w.heap.size + 1, j, none⟩ (Value.int IntKind.i64 (prbT S j))) w.heap.size (upto (ltA S) (j + 1)) ∧ Ar ((w1.setCell ⟨w.heap.size, j, none⟩ (Value.int IntKind.i64 (S.sp j).lt)).setCell ⟨w.heap.size + 1, j, none⟩ (Value.int IntKind.i64 (prbT S j))) (w.heap.size + 1) (upto (prbT S) (j + 1)) from nx_step HQ.out q1 HA.out HB.out hlt)
        clear q0 q1 c0' a1 a2 b1 b2 b3 b4
        go_wp2
        go_roundw
        case rel => exact ⟨j + 1, by omega, by go_num, REL.out.1, REL.out.2.1, REL.out.2.2.1, REL.out.2.2.2⟩
        case measure => simp [intOf]; omega
    · obtain rfl : j = 3 := by omega
      have a0 := ha.cell (j := 0) (by omega)
      have a1 := ha.cell (j := 1) (by omega)
      have a2 := ha.cell (j := 2) (by omega)
      have b0 := hb.cell (j := 0) (by omega)
      have b1 := hb.cell (j := 1) (by omega)
      have b2 := hb.cell (j := 2) (by omega)
      rw [show upto (ltA S) 3 0 = ltA S 0 from rfl] at a0
      rw [show upto (ltA S) 3 1 = ltA S 1 from rfl] at a1
      rw [show upto (ltA S) 3 2 = ltA S 2 from rfl] at a2
      rw [show upto (prbT S) 3 0 = prbT S 0 from rfl] at b0
      rw [show upto (prbT S) 3 1 = prbT S 1 from rfl] at b1
      rw [show upto (prbT S) 3 2 = prbT S 2 from rfl] at b2
      have SA := hid (soonest_any (ltA S 0) (ltA S 1) (ltA S 2) wr)
      have SB := hid (fun w1 => soonest_any (prbT S 0) (prbT S 1) (prbT S 2) w1)
      have rA := soon_range (ltA S 0) (ltA S 1) (ltA S 2)
      have rB := soon_range (prbT S 0) (prbT S 1) (prbT S 2)
      have HQ := hid hq
      have HA := hid ha
      have HB := hid hb
      clear hq ha hb hsz
      by_cases hn : soon (ltA S 0) (ltA S 1) (ltA S 2) = -1
      · by_cases hm : soon (prbT S 0) (prbT S 1) (prbT S 2) = -1
        · have HP := hid (show nxP S = -1 ∧ nxA S = 0 ∧ nxB S = false by simp [nxP, nxA, nxB, hn, hm])
          rw [hn] at SA
          rw [hm] at SB
          clear hn hm rA rB
          go_wp2_with fail
          refine SA.out.mono ?_
          rintro e w1 ⟨rfl, q1⟩
          have b0' := (HB.out.q q1).cell (j := 0) (by omega)
          have b1' := (HB.out.q q1).cell (j := 1) (by omega)
          have b2' := (HB.out.q q1).cell (j := 2) (by omega)
          rw [show upto (prbT S) 3 0 = prbT S 0 from rfl] at b0'
          rw [show upto (prbT S) 3 1 = prbT S 1 from rfl] at b1'
          rw [show upto (prbT S) 3 2 = prbT S 2 from rfl] at b2'
          have Q1 := hid (HQ.out.trans q1); clear q1
          go_wp2_with fail
          refine (SB.out _).mono ?_
          rintro e w2 ⟨rfl, q2⟩
          have Q2 := hid (Q1.out.trans q2); clear q2
          go_wp2
          go_ret3
          exact ⟨by rw [HP.out.1, HP.out.2.1, HP.out.2.2]; rfl, Q2.out⟩
        · obtain ⟨m, hm2⟩ : ∃ m : Nat, soon (prbT S 0) (prbT S 1) (prbT S 2) = (m : Int) := ⟨(soon (prbT S 0) (prbT S 1) (prbT S 2)).toNat, by omega⟩
          have hm3 : m < 3 := by omega
          have HP := hid (show nxP S = (m : Int) ∧ nxA S = prbT S m ∧ nxB S = true by
            have e1 : nxP S = (m : Int) := by simp [nxP, hn, hm2]
            refine ⟨e1, ?_, by simp [nxB, hn, hm]⟩
            unfold nxA
            rw [if_neg (by simp [hn]), e1, if_pos (by omega)]; simp)
          rw [hn] at SA
          rw [hm2] at SB
          clear hn hm rA rB hm2
          have hmi : (m : Int) < 3 := by omega
          have hmb : ((m : Int) != -1) = true := by simp
          go_wp2_with fail
          refine SA.out.mono ?_
          rintro e w1 ⟨rfl, q1⟩
          have b0' := (HB.out.q q1).cell (j := 0) (by omega)
          have b1' := (HB.out.q q1).cell (j := 1) (by omega)
          have b2' := (HB.out.q q1).cell (j := 2) (by omega)
          rw [show upto (prbT S) 3 0 = prbT S 0 from rfl] at b0'
          rw [show upto (prbT S) 3 1 = prbT S 1 from rfl] at b1'
          rw [show upto (prbT S) 3 2 = prbT S 2 from rfl] at b2'
          have Q1 := hid (HQ.out.trans q1)
          have HB1 := hid (HB.out.q q1)
          clear q1
          go_wp2_with fail
          refine (SB.out _).mono ?_
          rintro e w2 ⟨rfl, q2⟩
          have Q2 := hid (Q1.out.trans q2)
          have bm := (HB1.out.q q2).cell (j := m) hm3
          rw [show upto (prbT S) 3 m = prbT S m from if_pos hm3] at bm
          clear q2 b0 b1 b2 a0 a1 a2 b0' b1' b2'
          go_wp2
          go_quiet (fail)
          go_wp2
          go_ret3
          exact ⟨by rw [HP.out.1, HP.out.2.1, HP.out.2.2]; rfl, Q2.out.drewN _⟩
      · obtain ⟨m, hm2⟩ : ∃ m : Nat, soon (ltA S 0) (ltA S 1) (ltA S 2) = (m : Int) := ⟨(soon (ltA S 0) (ltA S 1) (ltA S 2)).toNat, by omega⟩
        have hm3 : m < 3 := by omega
        have HP := hid (show nxP S = (m : Int) ∧ nxA S = ltA S m ∧ nxB S = false by
          have hn' := hn
          have e1 : nxP S = (m : Int) := by unfold nxP; rw [if_pos hn', hm2]
          refine ⟨e1, ?_, by unfold nxB; rw [if_pos hn']⟩
          unfold nxA
          rw [if_pos hn', e1]; simp)
        rw [hm2] at SA
        clear hn rA rB hm2 SB
        have hmi : (m : Int) < 3 := by omega
        have hmb : ((m : Int) != -1) = true := by simp
        go_wp2_with fail
        refine SA.out.mono ?_
        rintro e w1 ⟨rfl, q1⟩
        have Q1 := hid (HQ.out.trans q1)
        have am := (HA.out.q q1).cell (j := m) hm3
        rw [show upto (ltA S) 3 m = ltA S m from if_pos hm3] at am
        clear q1 b0 b1 b2 a0 a1 a2
        go_wp2
        go_quiet (fail)
        go_wp2
        go_ret3
        exact ⟨by rw [HP.out.1, HP.out.2.1, HP.out.2.2]; rfl, Q1.out.drewN _⟩

theorem timer_any {N : Nat} {w : World} {rb : Nat} {r : Nat → Sv} {S : Lo} (h : La w rb r S) (hO : Ok N S) : Calls Try.prog 10 #[.pointer (some ⟨rb, 0, none⟩)] w fun e w' => e = .returned (.tuple #[.int .i64 (nxA S), .bool (nxP S != -1)]) ∧ Q w w' := by
  have A := hid (next_any h hO)
  clear h hO
  go_enter Try.func10, Try.ntmps10
  go_wp2_with fail
  refine A.out.mono ?_
  rintro e w1 ⟨rfl, q1⟩
  have Q1 := hid q1; clear q1
  go_wp2
  go_ret2
  exact ⟨rfl, Q1.out⟩
end Go.Proofs.Ytjhihcmemnhbbaa
