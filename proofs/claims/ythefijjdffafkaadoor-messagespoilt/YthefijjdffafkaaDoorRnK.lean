/-
  isValue, HasPrefix, isPseudo, isHop, refuseIf: contracts that the statements' walks use.
-/
import Derived.Test.YthefijjdffafkaaDoorRnJ
namespace Go.Proofs.YthefijjdffafkaaDoor
open Go.RowKit
set_option linter.unusedVariables false
set_option maxRecDepth 20000

theorem neq_size {t s : ByteArray} (h : t.size < s.size) : (t.toList == s.toList) = false := by
  rw [beq_eqS]
  cases he : eqS t s with
  | false => rfl
  | true => have := (eqS_iff t s).1 he; subst this; omega
set_option maxHeartbeats 1000000 in
theorem value_any (s : ByteArray) (w : World) (hs : s.size ≤ 140737488355328) : Calls Tryd.prog 45 #[.string s] w fun e w' => e = .returned (.bool (vlS s)) ∧ Q w w' := by
  have H1 := hid (fun W => every_any 54 #[] insB s W eg62 flat_ins (fun U r hr q => (ins_any r U).mono (by rintro e v ⟨rfl, rfl⟩; exact ⟨rfl, Q.refl _⟩)))
  have H2 := hid (fun W => trim_any s W hs)
  have hd : vlS s = (allB insB s && (fsS s && lsS s)) := rfl
  rw [hd]
  clear hd
  generalize allB insB s = a at *
  cases hb : (fsS s && lsS s) with
  | true =>
    rw [hb] at H2
    clear hb hs
    go_enter Tryd.func45, Tryd.ntmps45
    cases a
    all_goals
      go_wp2_with (first
        | (go_at_call 48; refine (H1.out _).mono ?_; rintro e w1 ⟨rfl, q1⟩; have Q1 := hid q1; clear q1)
        | (go_at_call 55; refine (H2.out _).mono ?_; rintro e w2 ⟨t, rfl, q2, t1, t2⟩; have Q2 := hid q2; obtain rfl := t1 (by simp); clear q2 t1 t2))
      go_ret
      first | exact ⟨rfl, Q1.out.trans Q2.out⟩ | exact ⟨rfl, Q1.out⟩
  | false =>
    rw [hb] at H2
    clear hb hs
    go_enter Tryd.func45, Tryd.ntmps45
    cases a
    all_goals
      go_wp2_with (first
        | (go_at_call 48; refine (H1.out _).mono ?_; rintro e w1 ⟨rfl, q1⟩; have Q1 := hid q1; clear q1)
        | (go_at_call 55; refine (H2.out _).mono ?_; rintro e w2 ⟨t, rfl, q2, t1, t2⟩; have Q2 := hid q2; have hne := neq_size (t2 (by simp)); clear q2 t1 t2))
      go_ret
      first | exact ⟨rfl, Q1.out.trans Q2.out⟩ | exact ⟨rfl, Q1.out⟩
theorem fst_byte (s : ByteArray) (h : 1 ≤ s.size) (c : UInt8) : eqS (s.extract 0 1) ⟨#[c]⟩ = (match s.data.toList with | [] => false | b :: _ => decide (b.toNat = c.toNat)) := by
  unfold eqS
  rw [ByteArray.data_extract]
  simp only [Array.toList_extract, List.extract_eq_take_drop]
  cases hl : s.data.toList with
  | nil => have : s.data.toList.length = 0 := by rw [hl]; rfl
           have : s.size = 0 := by simpa using this
           omega
  | cons b r =>
    rw [Bool.eq_iff_iff]
    simp
    exact UInt8.toNat_inj.symm
theorem pre58_any (s : ByteArray) (c : UInt8) (w : World) : Calls Tryd.prog 50 #[.string s, .string ⟨#[c]⟩] w fun e w' => e = .returned (.bool (match s.data.toList with | [] => false | b :: _ => decide (b.toNat = c.toNat))) ∧ w' = w := by
  have hsz : ((⟨#[c]⟩ : ByteArray).size : Int) = 1 := rfl
  by_cases h : 1 ≤ s.size
  · have hf := fst_byte s h c
    generalize (match s.data.toList with | [] => false | b :: _ => decide (b.toNat = c.toNat)) = v at *
    have hs1 : (1 : Int) ≤ (s.size : Int) := by omega
    have hsl : ∀ W, (Instr.slice 9 (.string s) none (some (.int .i64 1)) none).run Tryd.prog W = .ok (.string (s.extract 0 1)) W := by
      intro W
      rw [run_slice_string_to_if W 9 s .i64 _ Tryd.underlying9, if_pos ⟨by omega, hs1⟩]
      rfl
    have hq := beq_eqS (s.extract 0 1) ⟨#[c]⟩
    rw [hf] at hq
    clear hf h
    generalize s.extract 0 1 = x at *
    generalize (⟨#[c]⟩ : ByteArray) = k at *
    go_enter Tryd.func50, Tryd.ntmps50
    go_wp2
    go_ret
    exact ⟨rfl, rfl⟩
  · have hs1 : ¬ (1 : Int) ≤ (s.size : Int) := by omega
    have hz : s.size = 0 := by omega
    have hn : s.data.toList = [] := List.eq_nil_of_length_eq_zero (by simpa using hz)
    rw [hn]
    clear h hn hz
    generalize (⟨#[c]⟩ : ByteArray) = k at *
    go_enter Tryd.func50, Tryd.ntmps50
    go_wp2
    go_ret
    exact ⟨rfl, rfl⟩
theorem pre_any (s : ByteArray) (c : UInt8) (w : World) : Calls Tryd.prog 41 #[.string s, .string ⟨#[c]⟩] w fun e w' => e = .returned (.bool (match s.data.toList with | [] => false | b :: _ => decide (b.toNat = c.toNat))) ∧ w' = w := by
  have H := hid (pre58_any s c w)
  generalize (match s.data.toList with | [] => false | b :: _ => decide (b.toNat = c.toNat)) = v at *
  go_enter Tryd.func41, Tryd.ntmps41
  go_wp2_with (go_at_call 50; refine H.out.mono ?_; rintro e w1 ⟨rfl, rfl⟩)
  go_ret
  exact ⟨rfl, rfl⟩
theorem pseudo_any (s : ByteArray) (w : World) : Calls Tryd.prog 34 #[.string s] w fun e w' => e = .returned (.bool (psS s)) ∧ w' = w := by
  have H := hid (pre_any s 58 w)
  have hd : (match s.data.toList with | [] => false | b :: _ => decide (b.toNat = (58 : UInt8).toNat)) = psS s := rfl
  rw [hd] at H
  clear hd
  generalize psS s = v at *
  generalize hk : (⟨#[58]⟩ : ByteArray) = k at *
  go_enter Tryd.func34, Tryd.ntmps34
  rw [hk]
  go_wp2_with (go_at_call 41; refine H.out.mono ?_; rintro e w1 ⟨rfl, rfl⟩)
  go_ret
  exact ⟨rfl, rfl⟩
/-- What the reading panics with. -/
def refP (x : Int) : PanicEntry := { v := .iface 50 (.int .i64 x), recovered := false }
theorem refuse_no (x : Int) (w : World) : Calls Tryd.prog 33 #[.bool false, .int .i64 x] w fun e w' => e = .returned (.tuple #[]) ∧ w' = w := by
  go_enter Tryd.func33, Tryd.ntmps33
  go_wp2
  go_end0
  exact ⟨rfl, rfl⟩
theorem refuse_yes (x : Int) (w : World) : Calls Tryd.prog 33 #[.bool true, .int .i64 x] w fun e w' => e = .panicked [refP x] ∧ w' = w := by
  go_enter Tryd.func33, Tryd.ntmps33
  go_wp2
  exact ⟨rfl, rfl, rfl⟩
end Go.Proofs.YthefijjdffafkaaDoor
