/-
  What the program's bytes.IndexByte answers at a row of marks, and the inner lostRun and freshRun: contracts that the walk of Next uses.
-/
import Derived.Test.YtppemfdoogmeeaaBuf
import Derived.Lib.BytesEntry
import Derived.Lib.Walk
namespace Go.Proofs.Ytppemfdoogmeeaa
open Go.RowKit
set_option linter.unusedVariables false

/-- The first lost one, or -1. -/
def ix (ks : List Int) : Int := if fs 2 ks < ks.length then (fs 2 ks : Int) else -1
theorem index_fs (ks : List Int) (h : ∀ i, i < ks.length → 0 ≤ at_ ks i ∧ at_ ks i ≤ 3) : Lib.indexByte (Lib.bytesOf ks) ((2 : Int).toNat.toUInt8) = ix ks := by
  induction ks with
  | nil => rfl
  | cons x r ih =>
    have h0 := h 0 (by simp)
    rw [at_zero] at h0
    have ih' := ih (fun i hi => by have := h (i + 1) (by simpa using hi); rwa [at_succ] at this)
    have e : Lib.bytesOf (x :: r) = UInt8.ofNat x.toNat :: Lib.bytesOf r := rfl
    have hx : x = 0 ∨ x = 1 ∨ x = 2 ∨ x = 3 := by omega
    have e2 : Lib.indexByte (Lib.bytesOf (x :: r)) ((2 : Int).toNat.toUInt8) = if x = 2 then 0 else if ix r = -1 then -1 else ix r + 1 := by
      rw [e, Lib.indexByte, ih']
      rcases hx with rfl | rfl | rfl | rfl <;> simp
      all_goals decide
    have hfr := fs_le 2 r
    have hix : ix r = -1 ∧ ¬ fs 2 r < r.length ∨ ix r = fs 2 r ∧ fs 2 r < r.length := by
      unfold ix; split
      · exact .inr ⟨rfl, by assumption⟩
      · exact .inl ⟨rfl, by assumption⟩
    rw [e2]
    by_cases h2 : x = 2
    · rw [if_pos h2]
      unfold ix
      rw [show fs 2 (x :: r) = 0 from by rw [fs, if_pos h2], if_pos (by simp)]; rfl
    · have e3 : ix (x :: r) = if fs 2 r + 1 < r.length + 1 then ((fs 2 r + 1 : Nat) : Int) else -1 := by
        unfold ix; rw [show fs 2 (x :: r) = fs 2 r + 1 from by rw [fs, if_neg h2]]; rfl
      rw [if_neg h2, e3]
      rcases hix with ⟨h3, h4⟩ | ⟨h3, h4⟩
      · rw [if_pos h3, if_neg (by omega)]
      · rw [if_neg (by omega), if_pos (by omega)]; omega

theorem row_cells {w : World} {d : Sv} {zs : List Int} (h : Row w d zs) (hn : 0 < d.n) : ∃ g o, d.a = some ⟨g, o, none⟩ ∧ (∀ j, w.frozen? ⟨g, j, none⟩ = false) ∧ ∀ i, i < d.n → w.cell? ⟨g, o + i, none⟩ = some (.int .u8 (at_ zs i)) := by
  have hl := h.len
  obtain ⟨g, o, ha, hf, hc⟩ := h.some_ hn
  refine ⟨g, o, ha, hf, fun i hi => hc i _ ?_⟩
  rw [List.getElem?_map, at_get (by omega)]; rfl

set_option maxHeartbeats 1000000 in
set_option maxRecDepth 100000 in
theorem index_any (m : Sv) (ks : List Int) (w : World) (h : Row w m ks) (hr : ∀ i, i < ks.length → 0 ≤ at_ ks i ∧ at_ ks i ≤ 3) :
    Calls Try.prog 38 #[.slice m.a m.n m.c, .int .u8 2] w fun e w' => e = .returned (.int .i64 (ix ks)) ∧ w = w' := by
  have HI := hid (index_fs ks hr)
  have hl := h.len
  obtain ⟨ma, mn, mc⟩ := m
  have key : (Extern.BytealgIndexByte.indexByte #[.slice ma mn mc, .int .u8 2]).run Try.prog w = .ok (.int .i64 (ix ks)) w := by
    by_cases hn : 0 < mn
    · obtain ⟨g, o, ha, _, hc⟩ := row_cells h hn
      simp only at ha hc hl
      subst ha
      rw [Lib.run_indexByteSlice w g o mn mc ks hl hc 2, HI.out]
    · rcases h.2 with ⟨h1, h2, h3⟩ | ⟨g, o, cur, h1, _⟩
      · simp only at h1 h2 h3 hl
        subst h1; subst h2; subst h3
        obtain rfl : ks = [] := List.eq_nil_of_length_eq_zero hl
        rw [Lib.run_indexByteNil w 0 0 2]; rfl
      · simp only at h1 hl hn
        subst h1
        rw [Lib.run_indexByteSlice w g o mn mc ks hl (fun i hi => by omega) 2, HI.out]
  clear h hr HI hl
  go_enter Try.func38, Try.ntmps38
  go_wp2
  rw [run_callFunc_extern Try.func40 (by kernel_rfl) (by kernel_rfl) (by kernel_rfl) (e := Extern.BytealgIndexByte.indexByte) (by kernel_rfl), key]
  simp only [Result.andThen]
  rw [Oper.upon_value]
  go_wp2
  go_ret
  exact ⟨rfl, rfl⟩

/-- How far the run of lost ones goes from the first on. -/
def lrN (ks : List Int) (most : Int) : Nat := min (ld 2 (ks.drop (fs 2 ks))) most.toNat

set_option maxHeartbeats 1000000 in
/-- No byte is lost. -/
theorem lost_none (rb : Nat) (d m : Sv) (room : Int) (s : S) (most : Int) (w : World) (hB : Bf w rb d m room s) (hO : Ok room s) (hf : ¬ fs 2 s.ms < s.ms.length) :
    Calls Try.prog 24 #[.pointer (some ⟨rb, 0, none⟩), .int .i64 most] w fun e w' => e = .returned (.tuple #[.int .i64 0, .int .i64 0]) ∧ w = w' := by
  have hb := bas_le s
  have hK : ∀ i, i < (s.ms.drop (bas s)).length → 0 ≤ at_ (s.ms.drop (bas s)) i ∧ at_ (s.ms.drop (bas s)) i ≤ 3 := fun i hi => by
    rw [List.length_drop] at hi; rw [at_drop]; exact hO.mr _ (by omega)
  have hx : ix (s.ms.drop (bas s)) = -1 := by
    unfold ix
    have := fs_drop (v := 2) (b := bas s) hb (fun i hi => by have := ld_at 3 s.ms i hi; omega)
    rw [if_neg (by rw [List.length_drop]; omega)]
  have c4 := hB.hd.c4
  have HR := hid hB.rs.sm
  have HK := hid hK
  clear hB hO hf hK hb
  go_enter Try.func24, Try.ntmps24
  go_wp2_with fail
  refine (index_any m _ w HR.out HK.out).mono ?_
  rw [hx]
  rintro e w1 ⟨rfl, rfl⟩
  go_wp2
  go_ret2
  exact ⟨rfl, rfl⟩

set_option maxHeartbeats 4000000 in
/-- Some are. -/
theorem lost_some (rb : Nat) (d m : Sv) (room : Int) (s : S) (most : Int) (w : World) (hB : Bf w rb d m room s) (hO : Ok room s) (hL : s.ms.length ≤ 4611686018427387904) (hf : fs 2 s.ms < s.ms.length) :
    Calls Try.prog 24 #[.pointer (some ⟨rb, 0, none⟩), .int .i64 most] w fun e w' => e = .returned (.tuple #[.int .i64 (fs 2 s.ms), .int .i64 (fs 2 s.ms + lrN s.ms most : Nat)]) ∧ ∃ k, w' = w.drewN k := by
  have hb := bas_le s
  have hK : ∀ i, i < (s.ms.drop (bas s)).length → 0 ≤ at_ (s.ms.drop (bas s)) i ∧ at_ (s.ms.drop (bas s)) i ≤ 3 := fun i hi => by
    rw [List.length_drop] at hi; rw [at_drop]; exact hO.mr _ (by omega)
  have hd := fs_drop (v := 2) (b := bas s) hb (fun i hi => by have := ld_at 3 s.ms i hi; omega)
  have hx : ix (s.ms.drop (bas s)) = (fs 2 (s.ms.drop (bas s)) : Int) := by
    unfold ix
    rw [if_pos (by rw [List.length_drop]; omega)]
  have hlr : lrN s.ms most = min (ld 2 ((s.ms.drop (bas s)).drop (fs 2 (s.ms.drop (bas s))))) most.toNat := by
    unfold lrN; rw [hd, List.drop_drop]
  have hr := hB.rs.sm
  have hn := hr.len
  have hld := ld_le 2 ((s.ms.drop (bas s)).drop (fs 2 (s.ms.drop (bas s))))
  have hat := ld_at 2 ((s.ms.drop (bas s)).drop (fs 2 (s.ms.drop (bas s))))
  have hen := ld_end 2 ((s.ms.drop (bas s)).drop (fs 2 (s.ms.drop (bas s))))
  have hlen : (s.ms.drop (bas s)).length = s.ms.length - bas s := List.length_drop
  rw [List.length_drop] at hld hen
  generalize hks : s.ms.drop (bas s) = ks at *
  generalize hff : fs 2 ks = f at *
  generalize hll : ld 2 (ks.drop f) = l at *
  have c4 := hB.hd.c4
  have c1 := hB.hd.c1
  have HR := hid hr
  have HK := hid hK
  have HAT := hid (show ∀ i, i < l → at_ ks (f + i) = 2 from fun i hi => by have := hat i hi; rwa [at_drop] at this)
  have HEN := hid (show f + l < ks.length → at_ ks (f + l) ≠ 2 from fun h => by have := hen (by omega); rwa [at_drop] at this)
  have hfn : f < m.n := by omega
  have hfl : f + l ≤ m.n := by omega
  have hmn : m.n ≤ 4611686018427387904 := by omega
  have hbf : bas s + m.n ≤ 4611686018427387904 := by omega
  have HD := hid hd
  have HN := hid hn
  have HLR := hid hlr
  have hneg : decide ((f : Int) < 0) = false := by simp
  clear hB hO hf hK hb hr hn hld hat hen hlen hks hff hll hL hd hlr
  go_enter Try.func24, Try.ntmps24
  go_wp2_with fail
  refine (index_any m _ w HR.out HK.out).mono ?_
  rw [hx]
  rintro e w1 ⟨rfl, rfl⟩
  go_wp2
  go_loopw [7] (fun i wr => ∃ j : Nat, j ≤ l ∧ (j : Int) ≤ max 0 most ∧ i = .int .i64 ((f + j : Nat) : Int) ∧ wr = w) (fun i _ => m.n - (intOf i).toNat)
  case atStart => exact ⟨0, Nat.zero_le _, by omega, rfl, rfl⟩
  case round =>
    obtain ⟨j, hj, hjm, rfl, rfl⟩ := hrel
    have hw1 : IntKind.i64.wrap (((f + j : Nat) : Int) - (f : Int)) = j := by rw [IntKind.wrap_i64]; omega
    have hw2 : IntKind.i64.wrap (((f + j : Nat) : Int) + 1) = ((f + j + 1 : Nat) : Int) := by rw [IntKind.wrap_i64]; omega
    have hw3 : IntKind.i64.wrap ((bas s : Int) + (f : Int)) = (bas s : Int) + f := by rw [IntKind.wrap_i64]; omega
    have hw4 : IntKind.i64.wrap ((bas s : Int) + ((f + j : Nat) : Int)) = (bas s : Int) + f + j := by rw [IntKind.wrap_i64]; omega
    have hw5 : IntKind.i64.wrap ((bas s : Int) + ((f : Int) + (j : Int))) = (bas s : Int) + ((f : Int) + (j : Int)) := by rw [IntKind.wrap_i64]; omega
    by_cases h1 : f + j < m.n
    · have b1 : decide (((f + j : Nat) : Int) < (m.n : Int)) = true := by simp; omega
      have h1' : ((f + j : Nat) : Int) < (m.n : Int) := by omega
      obtain ⟨g, o, ha, hfz, hc⟩ := row_cells HR.out (show 0 < m.n by omega)
      have hcj := hc (f + j) h1
      rw [ha] at c4
      by_cases h2 : (j : Int) < most
      · have b2 : decide ((j : Int) < most) = true := by simp; omega
        by_cases h3 : at_ ks (f + j) = 2
        · rw [h3] at hcj
          have hjl : j < l := by
            rcases Nat.lt_or_ge j l with hh | hh
            · exact hh
            · obtain rfl : j = l := by omega
              exact absurd h3 (HEN.out (by rw [HN.out]; exact h1))
          clear h3 hfz hc hj ha
          go_wp2
          go_roundw
          case rel => exact ⟨j + 1, by omega, by omega, by first | rfl | (rw [Nat.add_assoc]) | go_num, by first | rfl | trivial⟩
          case measure => simp [intOf]; omega
        · have b3 : (at_ ks (f + j) == 2) = false := by simp [h3]
          have hjl : j = l := by
            rcases Nat.lt_or_ge j l with hh | hh
            · exact absurd (HAT.out j hh) h3
            · omega
          have HE := hid (show min l most.toNat = j from by omega)
          generalize at_ ks (f + j) = y at *
          clear h3 hfz hc hj hjl ha
          go_wp2
          go_quiet (fail)
          go_wp2
          go_ret2
          exact ⟨by rw [HLR.out, HD.out, HE.out]; simp [Int.add_assoc]; try exact hw5, _, rfl⟩
      · have b2 : decide ((j : Int) < most) = false := by simp; omega
        have HE := hid (show min l most.toNat = j from by omega)
        clear hfz hc hj ha hcj
        go_wp2
        go_quiet (fail)
        go_wp2
        go_ret2
        exact ⟨by rw [HLR.out, HD.out, HE.out]; simp [Int.add_assoc]; try exact hw5, _, rfl⟩
    · have b1 : decide (((f + j : Nat) : Int) < (m.n : Int)) = false := by simp; omega
      have HE := hid (show min l most.toNat = j from by omega)
      clear hj
      go_wp2
      go_quiet (fail)
      go_wp2
      go_ret2
      exact ⟨by rw [HLR.out, HD.out, HE.out]; simp [Int.add_assoc]; try exact hw5, _, rfl⟩

/-- How many fresh ones may go. -/
def frN (s : S) (most limit : Int) : Nat := min most.toNat (min limit s.ms.length - s.sent).toNat

set_option maxHeartbeats 4000000 in
theorem fresh_any (rb : Nat) (d m : Sv) (room : Int) (s : S) (most limit : Int) (w : World) (hB : Bf w rb d m room s) (hO : Ok room s) (hL : s.ms.length ≤ 4611686018427387904) :
    Calls Try.prog 25 #[.pointer (some ⟨rb, 0, none⟩), .int .i64 most, .int .i64 limit] w fun e w' => e = .returned (.tuple #[.int .i64 s.sent, .int .i64 (s.sent + frN s most limit : Nat)]) ∧ ∃ k, w' = w.drewN k := by
  have hs := hO.sent
  have c2 := hB.hd.c2
  have HW := hid (fun k => (written_any rb d m room s (w.drewN k) (hB.q ((Q.refl w).drewN k)) hO hL))
  have hw1 : IntKind.i64.wrap (max (s.sent : Int) (min limit (s.ms.length : Int)) - s.sent) = max (s.sent : Int) (min limit (s.ms.length : Int)) - s.sent := by rw [IntKind.wrap_i64]; omega
  have hf : (s.sent : Int) + min (max 0 most) (max (s.sent : Int) (min limit (s.ms.length : Int)) - s.sent) = (s.sent + frN s most limit : Nat) := by unfold frN; omega
  have hw2 : IntKind.i64.wrap ((s.sent : Int) + min (max 0 most) (max (s.sent : Int) (min limit (s.ms.length : Int)) - s.sent)) = (s.sent + frN s most limit : Nat) := by rw [IntKind.wrap_i64, hf]; unfold frN; omega
  generalize frN s most limit = r at *
  clear hB hO hs hf
  go_enter Try.func25, Try.ntmps25
  go_wp2
  go_quiet (first | (go_at_call 12; exact Calls.quiet_of (HW.out _)))
  go_wp2
  go_quiet (fail)
  go_wp2
  go_ret2
  exact ⟨rfl, _, World.drewN_drewN _ _ _⟩
end Go.Proofs.Ytppemfdoogmeeaa
