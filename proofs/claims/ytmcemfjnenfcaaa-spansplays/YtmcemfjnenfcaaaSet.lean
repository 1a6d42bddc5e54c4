/-
  What the calls of a set that only look do (New, High, List, Floor, Has, and the inner near, length, shared): contracts that the statements' walks use.
-/
import Derived.Test.YtmcemfjnenfcaaaDel
import Derived.BigQuiet
import Derived.Deep.QuietTactic
namespace Go.Proofs.Ytmcemfjnenfcaaa
open Go.RowKit
set_option linter.unusedVariables false

theorem ret_int {k : IntKind} {a b : Int} (h : a = b) : Ending.returned (.int k a) = .returned (.int k b) := by rw [h]
theorem ret_bool {a b : Bool} (h : a = b) : Ending.returned (.bool a) = .returned (.bool b) := by rw [h]

set_option maxHeartbeats 400000 in
theorem new_bad (most : Int) (w : World) (h : ¬ (1 ≤ most ∧ most ≤ 64)) :
    Calls Try.prog 8 #[.int .i64 most] w fun e w' => e = .returned (.tuple #[.pointer none, .int .i64 20]) ∧ w = w' := by
  by_cases h1 : most < 1
  · have hb : decide (most < 1) = true := by simp [h1]
    go_enter Try.func8, Try.ntmps8
    go_wp2
    go_ret2
    exact ⟨rfl, rfl⟩
  · have hb : decide (most < 1) = false := by simp [h1]
    have hc : (64 : Int) < most := by omega
    go_enter Try.func8, Try.ntmps8
    go_wp2
    go_ret2
    exact ⟨rfl, rfl⟩

set_option maxHeartbeats 400000 in
theorem new_good (most : Int) (w : World) (h0 : 1 ≤ most) (h1 : most ≤ 64) :
    Calls Try.prog 8 #[.int .i64 most] w fun e w' => e = .returned (.tuple #[.pointer (some ⟨w.heap.size, 0, none⟩), .int .i64 0]) ∧ Hd w' 54 w.heap.size most 0 none 0 0 ∧ Q w w' ∧ w.heap.size < w'.heap.size := by
  have hb : decide (most < 1) = false := by simp; omega
  have hc : ¬ (64 : Int) < most := by omega
  go_enter Try.func8, Try.ntmps8
  go_wp2
  go_ret2
  exact ⟨rfl, heap_alloc_new w _, (Q.refl w).alloc _, by simp⟩

set_option maxHeartbeats 400000 in
theorem floor_any (rb : Nat) (most floor : Int) (a : Option Addr) (n c : Nat) (w : World) (hr : Hd w 54 rb most floor a n c) :
    Calls Try.prog 13 #[.pointer (some ⟨rb, 0, none⟩)] w fun e w' => e = .returned (.int .i64 floor) ∧ w = w' := by
  have c := hr.c1
  clear hr
  go_enter Try.func13, Try.ntmps13
  go_wp2
  go_ret
  exact ⟨rfl, rfl⟩

set_option maxHeartbeats 400000 in
theorem high_none (rb : Nat) (most floor : Int) (a : Option Addr) (c : Nat) (w : World) (hr : Hd w 54 rb most floor a 0 c) :
    Calls Try.prog 11 #[.pointer (some ⟨rb, 0, none⟩)] w fun e w' => e = .returned (.tuple #[.int .i64 0, .bool false]) ∧ w = w' := by
  have c := hr.c2
  clear hr
  go_enter Try.func11, Try.ntmps11
  go_wp2
  go_ret2
  exact ⟨rfl, rfl⟩

theorem seg_last {w : World} {a : Option Addr} {xs : List Sp} {n k : Nat} (hs : Seg w a xs) (hl : xs.length = n) (hk : k < n) :
    ∃ b off, a = some ⟨b, off, none⟩ ∧ w.cell? ⟨b, off + k * 2, none⟩ = some (.int .i64 (xs.getD k (0, 0)).1) ∧ w.cell? ⟨b, off + (k * 2 + 1), none⟩ = some (.int .i64 (xs.getD k (0, 0)).2) ∧ w.cell? ⟨b, off + k * 2 + 1, none⟩ = some (.int .i64 (xs.getD k (0, 0)).2) := by
  obtain ⟨b, off, ha, hc⟩ := hs (by intro e; rw [e] at hl; simp at hl; omega)
  exact ⟨b, off, ha, (hc k (by omega)).1, (hc k (by omega)).2, by rw [Nat.add_assoc]; exact (hc k (by omega)).2⟩

set_option maxHeartbeats 400000 in
theorem high_some (rb : Nat) (most floor : Int) (a : Option Addr) (n c : Nat) (xs : List Sp) (w : World) (hr : Hd w 54 rb most floor a n c) (hs : Seg w a xs) (hl : xs.length = n) (hn : 0 < n) (hn' : n ≤ 100) :
    Calls Try.prog 11 #[.pointer (some ⟨rb, 0, none⟩)] w fun e w' => e = .returned (.tuple #[.int .i64 (xs.getD (n - 1) (0, 0)).2, .bool true]) ∧ ∃ k, w' = w.drewN k := by
  have c2 := hr.c2
  obtain ⟨b, off, rfl, hc0, hc1, hc2⟩ := seg_last (k := n - 1) hs hl (by omega)
  have hb : ((n : Int) == 0) = false := by simp; omega
  have e1 : ((n : Int) - 1).toNat = n - 1 := by omega
  have hq0 : (0 : Int) ≤ (n : Int) - 1 := by omega
  have hq2 : (1 : Int) ≤ (n : Int) := by omega
  have hq3 : 1 ≤ n := by omega
  have hq1 : (n : Int) - 1 < (n : Int) := by omega
  have hw : IntKind.i64.wrap ((n : Int) - 1) = (n : Int) - 1 := by rw [IntKind.wrap_i64]; omega
  clear hr hs
  go_enter Try.func11, Try.ntmps11
  go_wp2
  go_quiet (fail)
  go_wp2
  go_ret2
  exact ⟨rfl, _, rfl⟩

set_option maxHeartbeats 400000 in
theorem list_any (base rb : Nat) (most floor : Int) (a : Option Addr) (n c : Nat) (xs : List Sp) (w : World) (hr : Hd w 54 rb most floor a n c) (ho : Own w base a n c xs) (hn : n ≤ 100) :
    Calls Try.prog 12 #[.pointer (some ⟨rb, 0, none⟩)] w fun e w' => ∃ g a' cap, e = .returned (.slice a' n cap) ∧ Own w' w.heap.size a' n cap xs ∧ Q w w' ∧ (0 < n → a' = some ⟨g, 0, none⟩) := by
  have c2 := hr.c2
  have HC := hid (clone_any base a n c xs w ho hn)
  clear hr ho
  go_enter Try.func12, Try.ntmps12
  go_wp2_with fail
  refine HC.out.mono ?_
  rintro e w' ⟨g, a', cap, rfl, h1, h2, h3⟩
  have H1 := hid h1
  have H3 := hid h3
  clear h1 h3
  go_wp2
  go_ret
  exact ⟨g, a', cap, rfl, H1.out, h2, H3.out⟩

set_option maxHeartbeats 400000 in
theorem length_any (x : Sp) (w : World) (h0 : 0 ≤ x.1) (h1 : x.1 ≤ 4611686018427387904) (h2 : -4611686018427387904 ≤ x.2) (h3 : x.2 ≤ 4611686018427387904) :
    Calls Try.prog 24 #[.agg #[.int .i64 x.1, .int .i64 x.2]] w fun e w' => e = .returned (.int .i64 (x.2 - x.1 + 1)) ∧ Q w w' := by
  have hw1 : IntKind.i64.wrap (x.2 - x.1) = x.2 - x.1 := by rw [IntKind.wrap_i64]; omega
  have hw2 : IntKind.i64.wrap (x.2 - x.1 + 1) = x.2 - x.1 + 1 := by rw [IntKind.wrap_i64]; omega
  go_enter Try.func24, Try.ntmps24
  go_wp2
  go_ret
  exact ⟨rfl, (Q.refl w).alloc _⟩


/-- Is the number in a span? -/
def inB (xs : List Sp) (n : Int) : Bool := xs.any fun x => decide (x.1 ≤ n ∧ n ≤ x.2)
theorem inB_iff (xs : List Sp) (n : Int) : inB xs n = true ↔ inL xs n := by simp [inB, inL]
theorem inB_step (xs : List Sp) (n : Int) (k : Nat) (hk : k < xs.length) : inB (xs.drop k) n = (decide ((xs.getD k (0, 0)).1 ≤ n ∧ n ≤ (xs.getD k (0, 0)).2) || inB (xs.drop (k + 1)) n) := by
  rw [drop_cons hk]; rfl

set_option maxHeartbeats 1000000 in
theorem has_low (rb : Nat) (most floor : Int) (a : Option Addr) (n c : Nat) (w : World) (x : Int) (hr : Hd w 54 rb most floor a n c) (hx : x < floor) :
    Calls Try.prog 14 #[.pointer (some ⟨rb, 0, none⟩), .int .i64 x] w fun e w' => e = .returned (.bool (decide (0 ≤ x))) ∧ Q w w' := by
  have c1 := hr.c1
  clear hr
  go_enter Try.func14, Try.ntmps14
  go_wp2
  go_ret
  exact ⟨rfl, Q.refl w⟩

set_option maxHeartbeats 4000000 in
theorem has_high (rb : Nat) (most floor : Int) (a : Option Addr) (n c : Nat) (xs : List Sp) (w : World) (x : Int) (hr : Hd w 54 rb most floor a n c) (hs : Seg w a xs) (hl : xs.length = n) (hn : n ≤ 100) (hx : floor ≤ x) :
    Calls Try.prog 14 #[.pointer (some ⟨rb, 0, none⟩), .int .i64 x] w fun e w' => e = .returned (.bool (inB xs x)) ∧ Q w w' := by
  have c1 := hr.c1
  have c2 := hr.c2
  have hx' : ¬ x < floor := by omega
  have HS := hid hs
  have HL := hid hl
  clear hr hs hl
  go_enter Try.func14, Try.ntmps14
  go_wp2
  go_loopw [20] (fun i wr => ∃ k : Nat, k ≤ n ∧ i = .int .i64 k ∧ Q w wr ∧ inB xs x = inB (xs.drop k) x) (fun i _ => n - (intOf i).toNat)
  case atStart => exact ⟨0, Nat.zero_le _, rfl, Q.refl _, rfl⟩
  case round =>
    obtain ⟨k, hk, rfl, hq, hin⟩ := hrel
    have HQ := hid hq
    have HI := hid hin
    clear hq hin
    by_cases hlt : k < n
    · obtain ⟨b, off, rfl, d0, d1, _⟩ := seg_last (HS.out.q HQ.out) HL.out hlt
      have hlt' : (k : Int) < (n : Int) := by omega
      have HE := hid (inB_step xs x k (by rw [HL.out]; exact hlt))
      generalize xs.getD k (0, 0) = y at *
      by_cases h1 : y.1 ≤ x
      · by_cases h2 : x ≤ y.2
        · go_wp2
          go_ret
          exact ⟨ret_bool (by rw [HI.out, HE.out]; simp [h1, h2]), HQ.out.trans ((Q.refl _).alloc _)⟩
        · go_wp2
          go_roundw
          case rel => exact ⟨k + 1, by omega, by go_num, HQ.out.trans ((Q.refl _).alloc _), by rw [HI.out, HE.out]; simp [h2]⟩
          case measure => simp [intOf]; omega
      · have h1' : decide (y.1 ≤ x) = false := by simp [h1]
        go_wp2
        go_roundw
        case rel => exact ⟨k + 1, by omega, by go_num, HQ.out.trans ((Q.refl _).alloc _), by rw [HI.out, HE.out]; simp [h1]⟩
        case measure => simp [intOf]; omega
    · obtain rfl : k = n := by omega
      go_wp2
      go_ret
      exact ⟨ret_bool (by rw [HI.out, List.drop_of_length_le (by rw [HL.out]; exact Nat.le_refl _)]; rfl), HQ.out⟩

/-- Has, in one. -/
def hadB (floor : Int) (xs : List Sp) (x : Int) : Bool := if x < floor then decide (0 ≤ x) else inB xs x
theorem has_any (rb : Nat) (most floor : Int) (a : Option Addr) (n c : Nat) (xs : List Sp) (w : World) (x : Int) (hr : Hd w 54 rb most floor a n c) (hs : Seg w a xs) (hl : xs.length = n) (hn : n ≤ 100) :
    Calls Try.prog 14 #[.pointer (some ⟨rb, 0, none⟩), .int .i64 x] w fun e w' => e = .returned (.bool (hadB floor xs x)) ∧ Q w w' := by
  unfold hadB
  by_cases h : x < floor
  · rw [if_pos h]; exact has_low rb most floor a n c w x hr h
  · rw [if_neg h]; exact has_high rb most floor a n c xs w x hr hs hl hn (by omega)

theorem hadB_iff {floor : Int} {xs : List Sp} (h : Ap floor xs) (f0 : 0 ≤ floor) (x : Int) : hadB floor xs x = true ↔ had floor xs x := by
  unfold hadB had
  by_cases hx : x < floor
  · rw [if_pos hx]
    simp only [decide_eq_true_eq]
    constructor
    · intro h0; exact .inl ⟨h0, hx⟩
    · rintro (h0 | ⟨y, hy, h1, h2⟩)
      · exact h0.1
      · have := h.mem y hy; omega
  · rw [if_neg hx, inB_iff]
    constructor
    · exact .inr
    · rintro (h0 | h0)
      · omega
      · exact h0

theorem nA_step {f : Int} {xs : List Sp} {k : Nat} (h : k ≤ nA f xs) : k < nA f xs ↔ k < xs.length ∧ (xs.getD k (0, 0)).2 < f - 1 :=
  (cnt_step (fun x => decide (x.2 < f - 1)) xs k h).trans (by simp only [decide_eq_true_eq])
theorem nM_step {f t : Int} {xs : List Sp} {k : Nat} (h : k ≤ nM f t xs) : k < nM f t xs ↔ nA f xs + k < xs.length ∧ (xs.getD (nA f xs + k) (0, 0)).1 ≤ t + 1 := by
  refine (cnt_step (fun x => decide (x.1 ≤ t + 1)) (xs.drop (nA f xs)) k h).trans ?_
  have e : (xs.drop (nA f xs)).getD k (0, 0) = xs.getD (nA f xs + k) (0, 0) := by
    rw [List.getD_eq_getElem?_getD, List.getD_eq_getElem?_getD, List.getElem?_drop]
  rw [e, List.length_drop]
  simp only [decide_eq_true_eq]
  constructor
  · rintro ⟨h1, h2⟩; exact ⟨by omega, h2⟩
  · rintro ⟨h1, h2⟩; exact ⟨by omega, h2⟩
theorem nG_step {fl : Int} {xs : List Sp} {k : Nat} (h : k ≤ nG fl xs) : k < nG fl xs ↔ k < xs.length ∧ (xs.getD k (0, 0)).2 < fl :=
  (cnt_step (fun x => decide (x.2 < fl)) xs k h).trans (by simp only [decide_eq_true_eq])

/-- The cells of a slice that has some. -/
def Cel (w : World) (b off : Nat) (xs : List Sp) : Prop := ∀ i, i < xs.length → w.cell? ⟨b, off + i * 2, none⟩ = some (.int .i64 (xs.getD i (0, 0)).1) ∧ w.cell? ⟨b, off + (i * 2 + 1), none⟩ = some (.int .i64 (xs.getD i (0, 0)).2)
theorem Cel.at_ {w : World} {b off : Nat} {xs : List Sp} {n k : Nat} (h : Cel w b off xs) (hl : xs.length = n) (hk : k < n) :
    w.cell? ⟨b, off + k * 2, none⟩ = some (.int .i64 (xs.getD k (0, 0)).1) ∧ w.cell? ⟨b, off + (k * 2 + 1), none⟩ = some (.int .i64 (xs.getD k (0, 0)).2) ∧ w.cell? ⟨b, off + k * 2 + 1, none⟩ = some (.int .i64 (xs.getD k (0, 0)).2) :=
  ⟨(h k (by omega)).1, (h k (by omega)).2, by rw [Nat.add_assoc]; exact (h k (by omega)).2⟩
theorem Seg.cel {w : World} {a : Option Addr} {xs : List Sp} {n : Nat} (h : Seg w a xs) (hl : xs.length = n) (hn : 0 < n) : ∃ b off, a = some ⟨b, off, none⟩ ∧ Cel w b off xs := by
  obtain ⟨b, off, ha, hc⟩ := h (by intro e; rw [e] at hl; simp at hl; omega)
  exact ⟨b, off, ha, hc⟩

set_option maxHeartbeats 400000 in
theorem near_none (rb : Nat) (most floor : Int) (a : Option Addr) (c : Nat) (w : World) (f t : Int) (hr : Hd w 54 rb most floor a 0 c) :
    Calls Try.prog 23 #[.pointer (some ⟨rb, 0, none⟩), .int .i64 f, .int .i64 t] w fun e w' => e = .returned (.tuple #[.int .i64 0, .int .i64 0]) ∧ w = w' := by
  have c2 := hr.c2
  clear hr
  go_enter Try.func23, Try.ntmps23
  go_wp2
  refine wp_loop_rounds 1 ?_
  rw [rounds_succ]
  go_wp2
  refine wp_loop_rounds 1 ?_
  rw [rounds_succ]
  go_wp2
  go_ret2
  exact ⟨rfl, rfl⟩

set_option maxHeartbeats 4000000 in
theorem near_some (rb : Nat) (most floor : Int) (b off n c : Nat) (xs : List Sp) (w : World) (f t : Int) (hr : Hd w 54 rb most floor (some ⟨b, off, none⟩) n c) (hs : Cel w b off xs) (hl : xs.length = n) (hn : n ≤ 100) (f0 : 0 ≤ f) (f1 : f ≤ 4611686018427387904) (t0 : 0 ≤ t) (t1 : t ≤ 4611686018427387904) :
    Calls Try.prog 23 #[.pointer (some ⟨rb, 0, none⟩), .int .i64 f, .int .i64 t] w fun e w' => e = .returned (.tuple #[.int .i64 (nA f xs : Nat), .int .i64 ((nA f xs : Int) + (nM f t xs : Int))]) ∧ w = w' := by
  have c2 := hr.c2
  have HS := hid hs
  have HL := hid hl
  have hwf : IntKind.i64.wrap (f - 1) = f - 1 := by rw [IntKind.wrap_i64]; omega
  have hwt : IntKind.i64.wrap (t + 1) = t + 1 := by rw [IntKind.wrap_i64]; omega
  clear hr hs hl
  go_enter Try.func23, Try.ntmps23
  go_wp2
  go_loopw [6] (fun i wr => ∃ k : Nat, k ≤ nA f xs ∧ i = .int .i64 k ∧ w = wr) (fun i _ => n - (intOf i).toNat)
  case atStart => exact ⟨0, Nat.zero_le _, rfl, rfl⟩
  case round =>
    obtain ⟨k, hk, rfl, rfl⟩ := hrel
    have HST := hid (nA_step hk)
    have hna := nA_le f xs
    rw [HL.out] at hna
    by_cases hkk : k < nA f xs
    · have hlt : k < n := by omega
      have hy := (HST.out.1 hkk).2
      obtain ⟨d0, d1, d2⟩ := HS.out.at_ HL.out hlt
      have hlt' : (k : Int) < (n : Int) := by omega
      generalize xs.getD k (0, 0) = y at *
      go_wp2
      go_roundw
      case rel => exact ⟨k + 1, by omega, by go_num, trivial⟩
      case measure => simp [intOf]; omega
    · have HK := hid (show nA f xs = k by omega)
      have HY := hid (show k < n → ¬ (xs.getD k (0, 0)).2 < f - 1 from fun h1 h2 => hkk (HST.out.2 ⟨by rw [HL.out]; exact h1, h2⟩))
      have hkn : k ≤ n := by omega
      clear hk hkk hna
      rcases Nat.lt_or_ge k n with hlt | hlt
      case' inl =>
        have hlt' : (k : Int) < (n : Int) := by omega
        have hy := HY.out hlt
        obtain ⟨d0, d1, d2⟩ := HS.out.at_ HL.out hlt
        generalize xs.getD k (0, 0) = y at *
        go_wp2
        clear d0 d1 d2 hy
      case' inr =>
        have hlt' : decide ((k : Int) < (n : Int)) = false := by simp; omega
        have HGE := hid hlt
        go_wp2
      case' inl => have HGE : Hid (n ≥ k) := hid hkn
      all_goals
        clear hlt hlt' HY HST
        go_loopw [7] (fun i wr => ∃ m : Nat, m ≤ nM f t xs ∧ i = .int .i64 ((k : Int) + (m : Int)) ∧ w = wr) (fun i _ => n - (intOf i).toNat)
        case atStart => exact ⟨0, Nat.zero_le _, by simp, rfl⟩
        case round =>
          obtain ⟨m, hm, rfl, rfl⟩ := hrel
          have hmk := nM_step hm
          have hnm := nM_le f t xs
          rw [HK.out, HL.out] at hmk hnm
          have HST := hid hmk
          clear hmk
          by_cases hkk : m < nM f t xs
          · have hy := (HST.out.1 hkk).2
            have hlt : k + m < n := by omega
            first
            | (exfalso; have := HGE.out; omega)
            | (obtain ⟨d0, d1, d2⟩ := HS.out.at_ HL.out hlt
               have hlt' : (k : Int) + (m : Int) < (n : Int) := by omega
               have h0' : (0 : Int) ≤ (k : Int) + (m : Int) := by omega
               have htn : ((k : Int) + (m : Int)).toNat = k + m := by omega
               generalize xs.getD (k + m) (0, 0) = y at *
               go_wp2
               go_roundw
               case rel => exact ⟨m + 1, by omega, by go_num, trivial⟩
               case measure => simp [intOf]; omega)
          · have HM := hid (show nM f t xs = m by omega)
            have HY := hid (show k + m < n → ¬ (xs.getD (k + m) (0, 0)).1 ≤ t + 1 from fun h1 h2 => hkk (HST.out.2 ⟨h1, h2⟩))
            clear hm hkk hnm
            rcases Nat.lt_or_ge (k + m) n with hlt | hlt
            · first
              | (exfalso; have := HGE.out; omega)
              | (have hlt' : (k : Int) + (m : Int) < (n : Int) := by omega
                 have h0' : (0 : Int) ≤ (k : Int) + (m : Int) := by omega
                 have htn : ((k : Int) + (m : Int)).toNat = k + m := by omega
                 have hy := HY.out hlt
                 obtain ⟨d0, d1, d2⟩ := HS.out.at_ HL.out hlt
                 generalize xs.getD (k + m) (0, 0) = y at *
                 go_wp2
                 go_ret2
                 rw [HM.out, HK.out]
                 exact ⟨rfl, rfl⟩)
            · have hlt' : decide ((k : Int) + (m : Int) < (n : Int)) = false := by simp; omega
              go_wp2
              go_ret2
              rw [HM.out, HK.out]
              exact ⟨rfl, rfl⟩

theorem near_any (rb : Nat) (most floor : Int) (a : Option Addr) (n c : Nat) (xs : List Sp) (w : World) (f t : Int) (hr : Hd w 54 rb most floor a n c) (hs : Seg w a xs) (hl : xs.length = n) (hn : n ≤ 100) (f0 : 0 ≤ f) (f1 : f ≤ 4611686018427387904) (t0 : 0 ≤ t) (t1 : t ≤ 4611686018427387904) :
    Calls Try.prog 23 #[.pointer (some ⟨rb, 0, none⟩), .int .i64 f, .int .i64 t] w fun e w' => e = .returned (.tuple #[.int .i64 (nA f xs : Nat), .int .i64 ((nA f xs + nM f t xs : Nat) : Int)]) ∧ w = w' := by
  rw [Int.natCast_add]
  by_cases h0 : n = 0
  · subst h0
    obtain rfl : xs = [] := List.eq_nil_of_length_eq_zero hl
    exact near_none rb most floor a c w f t hr
  · obtain ⟨b, off, rfl, hc⟩ := hs.cel hl (by omega)
    exact near_some rb most floor b off n c xs w f t hr hc hl hn f0 f1 t0 t1

end Go.Proofs.Ytmcemfjnenfcaaa
