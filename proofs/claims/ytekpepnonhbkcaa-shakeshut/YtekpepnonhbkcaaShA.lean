/-
  What the smallest functions of shake do: contracts that the statements' walks use.
-/
import Derived.Test.YtekpepnonhbkcaaReaderTwo
import Derived.Test.YtekpepnonhbkcaaExp
namespace Go.Proofs.Ytekpepnonhbkcaa
open Go.RowKit
set_option linter.unusedVariables false
set_option maxRecDepth 20000

/-- A proto's length, params' length, a public number: may they be? -/
def okT (n : Nat) : Bool := decide (1 ≤ n) && decide (n ≤ 32)
theorem rightProto_any (s : ByteArray) (w : World) : Calls Try.prog 29 #[.string s] w fun e w' => e = .returned (.bool (okT s.size)) ∧ w = w' := by
  by_cases h1 : 1 ≤ s.size
  · by_cases h2 : s.size ≤ 32
    · have hr : okT s.size = true := by unfold okT; simp [h1, h2]
      rw [hr]
      have b1 : decide ((s.size : Int) ≥ 1) = true := by simp; omega
      have b2 : decide ((s.size : Int) ≤ 32) = true := by simp; omega
      go_enter Try.func29, Try.ntmps29
      go_wp2
      go_ret
      exact ⟨rfl, rfl⟩
    · have hr : okT s.size = false := by unfold okT; simp [h2]
      rw [hr]
      have b1 : decide ((s.size : Int) ≥ 1) = true := by simp; omega
      have b2 : decide ((s.size : Int) ≤ 32) = false := by simp; omega
      go_enter Try.func29, Try.ntmps29
      go_wp2
      go_ret
      exact ⟨rfl, rfl⟩
  · have hr : okT s.size = false := by unfold okT; simp [h1]
    rw [hr]
    have b1 : decide ((s.size : Int) ≥ 1) = false := by simp; omega
    go_enter Try.func29, Try.ntmps29
    go_wp2
    go_ret
    exact ⟨rfl, rfl⟩
theorem rightParams_any (a : Option Addr) (n c : Nat) (w : World) : Calls Try.prog 21 #[.slice a n c] w fun e w' => e = .returned (.bool (decide (n ≤ 1024))) ∧ w = w' := by
  have b2 : decide ((n : Int) ≤ 1024) = decide (n ≤ 1024) := by
    by_cases h : n ≤ 1024
    · simp [h]; omega
    · simp [h]; omega
  generalize decide (n ≤ 1024) = b at *
  go_enter Try.func21, Try.ntmps21
  go_wp2
  go_ret
  exact ⟨rfl, rfl⟩
def okP (n : Int) : Bool := decide (1 ≤ n) && decide (n ≤ 2305843009213693950)
theorem rightPublic_any (n : Int) (w : World) : Calls Try.prog 65 #[.int .i64 n] w fun e w' => e = .returned (.bool (okP n)) ∧ w = w' := by
  by_cases h1 : 1 ≤ n
  · by_cases h2 : n ≤ 2305843009213693950
    · have hr : okP n = true := by unfold okP; simp [h1, h2]
      rw [hr]
      have b1 : decide (n ≥ 1) = true := by simpa using h1
      have b2 : decide (n ≤ 2305843009213693950) = true := by simpa using h2
      go_enter Try.func65, Try.ntmps65
      go_wp2
      go_ret
      exact ⟨rfl, rfl⟩
    · have hr : okP n = false := by unfold okP; simp [h2]
      rw [hr]
      have b1 : decide (n ≥ 1) = true := by simpa using h1
      have b2 : decide (n ≤ 2305843009213693950) = false := by simpa using h2
      go_enter Try.func65, Try.ntmps65
      go_wp2
      go_ret
      exact ⟨rfl, rfl⟩
  · have hr : okP n = false := by unfold okP; simp [h1]
    rw [hr]
    have b1 : decide (n ≥ 1) = false := by simpa using h1
    go_enter Try.func65, Try.ntmps65
    go_wp2
    go_ret
    exact ⟨rfl, rfl⟩
/-- A row of strings in memory. -/
def SegT (w : World) (a : Option Addr) (ss : List ByteArray) : Prop := ss ≠ [] → ∃ b off, a = some ⟨b, off, none⟩ ∧ ∀ i, i < ss.length → w.cell? ⟨b, off + i, none⟩ = some (.string (ss.getD i ByteArray.empty))
theorem SegT.q {w w' : World} {a : Option Addr} {ss : List ByteArray} (h : SegT w a ss) (q : Q w w') : SegT w' a ss := by
  intro hne
  obtain ⟨b, off, e, hc⟩ := h hne
  refine ⟨b, off, e, fun i hi => ?_⟩
  rw [q.cell (lt_of_cell (hc i hi))]
  exact hc i hi
def okTs (ss : List ByteArray) : Bool := decide (1 ≤ ss.length) && decide (ss.length ≤ 8) && ss.all (fun s => okT s.size)
set_option maxHeartbeats 4000000 in
theorem rightProtos_any (a : Option Addr) (n c : Nat) (ss : List ByteArray) (w : World) (hl : ss.length = n) (hs : SegT w a ss) :
    Calls Try.prog 20 #[.slice a n c] w fun e w' => e = .returned (.bool (okTs ss)) ∧ w = w' := by
  have HL := hid hl
  have HS := hid hs
  clear hl hs
  by_cases h1 : n < 1
  · have hr : okTs ss = false := by unfold okTs; have := HL.out; simp; intro h; omega
    rw [hr]
    have b1 : decide ((n : Int) < 1) = true := by simp; omega
    go_enter Try.func20, Try.ntmps20
    go_wp2
    go_ret
    exact ⟨rfl, rfl⟩
  by_cases h8 : 8 < n
  · have hr : okTs ss = false := by unfold okTs; have := HL.out; simp; intro _ h; omega
    rw [hr]
    have b1 : decide ((n : Int) < 1) = false := by simp; omega
    have b2 : decide ((n : Int) > 8) = true := by simp; omega
    go_enter Try.func20, Try.ntmps20
    go_wp2
    go_ret
    exact ⟨rfl, rfl⟩
  have b1 : decide ((n : Int) < 1) = false := by simp; omega
  have b2 : decide ((n : Int) > 8) = false := by simp; omega
  obtain ⟨b, off, ha, hc⟩ := HS.out (by intro e; have := HL.out; rw [e] at this; simp at this; omega)
  subst ha
  have HC := hid hc
  clear hc
  have HRT := hid rightProto_any
  go_enter Try.func20, Try.ntmps20
  go_wp2_with fail
  go_loopw [15] (fun i wr => ∃ k : Nat, i = .int .i64 (k : Int) ∧ k ≤ n ∧ w = wr ∧ ∀ j, j < k → okT (ss.getD j ByteArray.empty).size = true) (fun i _ => n - (intOf i).toNat)
  case atStart => exact ⟨0, rfl, Nat.zero_le _, rfl, fun j hj => by omega⟩
  case round =>
    obtain ⟨k, rfl, hk, rfl, hall⟩ := hrel
    have HA := hid hall
    clear hall
    by_cases hlt : k < n
    · have hki : (k : Int) < (n : Int) := by omega
      have h0 : (0 : Int) ≤ (k : Int) := by omega
      have hc := HC.out k (by rw [HL.out]; exact hlt)
      have HG := hid (show ss.getD k ByteArray.empty = ss.getD k ByteArray.empty from rfl)
      cases hb : okT (ss.getD k ByteArray.empty).size with
      | false =>
        have hr : okTs ss = false := by
          unfold okTs
          have hm : ss.getD k ByteArray.empty ∈ ss := by
            rw [List.getD_eq_getElem?_getD, List.getElem?_eq_getElem (by rw [HL.out]; exact hlt)]
            exact List.getElem_mem _
          have : ss.all (fun s => okT s.size) = false := by
            rw [List.all_eq_false]
            exact ⟨_, hm, by rw [hb]; simp⟩
          rw [this]; simp
        have HR := hid hr
        have HB := hid hb
        clear hr hb
        generalize ss.getD k ByteArray.empty = sk at *
        go_wp2_with (go_at_call 29; refine (HRT.out sk _).mono ?_; rintro e w2 ⟨rfl, rfl⟩; rw [HB.out])
        go_ret
        exact ⟨by rw [HR.out]; rfl, rfl⟩
      | true =>
        have HB := hid hb
        clear hb
        generalize hsk : ss.getD k ByteArray.empty = sk at *
        have HSK := hid hsk
        clear hsk
        go_wp2_with (go_at_call 29; refine (HRT.out sk _).mono ?_; rintro e w2 ⟨rfl, rfl⟩; rw [HB.out])
        exact ⟨⟨k + 1, by go_num, by omega, (by first | rfl | trivial), fun j hj => by
          rcases Nat.lt_succ_iff_lt_or_eq.1 hj with h | h
          · exact HA.out j h
          · rw [h, HSK.out]; exact HB.out⟩, by simp [intOf]; omega⟩
    · have hkn : k = n := by omega
      have hki : ¬ (k : Int) < (n : Int) := by omega
      have hr : okTs ss = true := by
        unfold okTs
        have hL := HL.out
        have : ss.all (fun s => okT s.size) = true := by
          rw [List.all_eq_true]
          intro s hs
          obtain ⟨j, hj, e⟩ := List.mem_iff_getElem.1 hs
          have h := HA.out j (by omega)
          rw [List.getD_eq_getElem?_getD, List.getElem?_eq_getElem hj, Option.getD_some, e] at h
          exact h
        rw [this]
        simp
        omega
      have HR := hid hr
      clear hr
      go_wp2
      go_ret
      exact ⟨by rw [HR.out]; rfl, rfl⟩
end Go.Proofs.Ytekpepnonhbkcaa
