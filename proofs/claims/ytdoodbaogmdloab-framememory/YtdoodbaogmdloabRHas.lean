/-
  What the document's own num and has do: contracts that the statements' walks use.
-/
import Derived.Test.YtdoodbaogmdloabRItems
import Derived.Test.YtdoodbaogmdloabSpans
namespace Go.Proofs.Ytdoodbaogmdloab
open Go.RowKit
set_option linter.unusedVariables false
set_option maxRecDepth 20000

theorem rnum_any (k : Int) (w : World) : Calls Try.prog 42 #[.int .i64 k] w fun e w' => e = .returned (.bool (isN k)) ∧ w = w' := by
  by_cases h0 : 0 ≤ k
  · by_cases h1 : k ≤ 4611686018427387903
    · have HR := hid (show isN k = true from by unfold isN; simp; omega)
      go_enter Try.func42, Try.ntmps42
      go_wp2
      go_ret
      exact ⟨ret_bool (by rw [HR.out]), rfl⟩
    · have HR := hid (show isN k = false from by unfold isN; simp; omega)
      go_enter Try.func42, Try.ntmps42
      go_wp2
      go_ret
      exact ⟨ret_bool (by rw [HR.out]), rfl⟩
  · have HR := hid (show isN k = false from by unfold isN; simp; omega)
    go_enter Try.func42, Try.ntmps42
    go_wp2
    go_ret
    exact ⟨ret_bool (by rw [HR.out]), rfl⟩

def hasB (l : List UInt8) (m : UInt8) : Bool := l.contains m
theorem hasB_nil (m : UInt8) : hasB [] m = false := rfl
theorem hasB_cons (x : UInt8) (l : List UInt8) (m : UInt8) : hasB (x :: l) m = ((m == x) || hasB l m) := List.contains_cons

set_option maxHeartbeats 1600000 in
theorem rhas_any (l : List UInt8) (m : UInt8) (w : World) (hl : l.length ≤ 1000) : Calls Try.prog 41 #[.string ⟨l.toArray⟩, .int .u8 m.toNat] w fun e w' => e = .returned (.bool (hasB l m)) ∧ w = w' := by
  have hsz : (ByteArray.mk l.toArray).size = l.length := rfl
  go_enter Try.func41, Try.ntmps41
  go_wp2
  go_loopw [5] (fun i wr => wr = w ∧ ∃ j : Nat, j ≤ l.length ∧ i = .int .i64 j ∧ hasB l m = hasB (l.drop j) m) (fun i _ => ((l.length : Int) - intOf i).toNat)
  case atStart => exact ⟨rfl, 0, Nat.zero_le _, rfl, rfl⟩
  case round =>
    obtain ⟨rfl, j, hj, rfl, he⟩ := hrel
    have HE := hid he
    clear he
    by_cases hjl : j < l.length
    · have hji : (j : Int) < (l.length : Int) := by omega
      have HD := hid (show hasB (l.drop j) m = ((m == l[j]) || hasB (l.drop (j + 1)) m) from by rw [List.drop_eq_getElem_cons hjl, hasB_cons])
      by_cases hm : m = l[j]
      · have hb : (((ByteArray.mk l.toArray)[j].toNat : Int) == (m.toNat : Int)) = true := by
          rw [show (ByteArray.mk l.toArray)[j] = l[j] from rfl, ← hm]; simp
        have HF := hid (show hasB l m = true from by rw [HE.out, HD.out]; simp [← hm])
        clear hm
        go_wp2
        go_ret
        exact ⟨ret_bool HF.out.symm, rfl⟩
      · have hb : (((ByteArray.mk l.toArray)[j].toNat : Int) == (m.toNat : Int)) = false := by
          rw [show (ByteArray.mk l.toArray)[j] = l[j] from rfl]
          simp only [beq_eq_false_iff_ne, ne_eq]
          intro e
          exact hm (UInt8.toNat.inj (by omega)).symm
        have HF := hid (show hasB l m = hasB (l.drop (j + 1)) m from by rw [HE.out, HD.out]; simp [hm])
        clear hm
        go_wp2
        go_roundw
        case rel => exact ⟨trivial, j + 1, by omega, by go_num, HF.out⟩
        case measure => simp [intOf]; omega
    · have hji : ¬ (j : Int) < (l.length : Int) := by omega
      go_wp2
      go_ret
      exact ⟨ret_bool (HE.out.trans (by rw [List.drop_of_length_le (by omega), hasB_nil])).symm, rfl⟩
end Go.Proofs.Ytdoodbaogmdloab
