/-
  What the second form's bound on the arguments' bulk says of a script's length and of the bytes that its calls bring.
-/
import Derived.Test.YtppemfdoogmeeaaOpen
namespace Go.Proofs.Ytppemfdoogmeeaa
open Go.ChangeShapes Go.WideShapes Go.ChangeAt Go.RowKit Go.Deep
set_option linter.unusedVariables false

theorem bulk_one {H : Type} (d : DataW H) : 1 ≤ Rows.uptoBulk d := by
  cases d
  case lit l => cases l <;> simp [Rows.uptoBulk]
  all_goals simp [Rows.uptoBulk]

theorem bulk_all {H : Type} (l : List (DataW H)) : l.length ≤ Rows.uptoBulkAll l := by
  induction l with
  | nil => exact Nat.zero_le _
  | cons x r ih =>
    have := bulk_one x
    rw [Rows.uptoBulkAll, List.length_cons]
    omega

theorem bulk_mem {H : Type} {d : DataW H} {l : List (DataW H)} (h : d ∈ l) : Rows.uptoBulk d ≤ Rows.uptoBulkAll l := by
  induction l with
  | nil => cases h
  | cons x r ih =>
    rw [Rows.uptoBulkAll]
    rcases List.mem_cons.1 h with rfl | h
    · omega
    · have := ih h; omega

theorem bulk_len {H : Type} {l : List (DataW H)} {d : DataW H} {len : Nat} {z : Nat → Cl} (hk : Rows.uptoSmall H l = true) (hd : d ∈ l)
    (h : len = 0 ∨ ∃ elems spare, d = .slice elems spare ∧ len ≤ elems.length + spare.length ∧ ∀ i, i < len → ∃ d0 d1 d2 d3 d4, (DataW.agg [d0, d1, d2, d3, d4]) ∈ elems ∧ ((z i).dn = 0 ∨ ∃ e2 s2, d3 = .slice e2 s2 ∧ (z i).dn ≤ e2.length + s2.length)) :
    len ≤ 1048576 ∧ ∀ i, i < len → (z i).dn ≤ 1048576 := by
  have hb : Rows.uptoBulkAll l ≤ 1048576 := of_decide_eq_true hk
  rcases h with rfl | ⟨elems, spare, rfl, h, hin⟩
  · exact ⟨by omega, fun i hi => by omega⟩
  · have h1 := bulk_mem hd
    have h2 := bulk_all elems
    have h3 := bulk_all spare
    rw [Rows.uptoBulk] at h1
    refine ⟨by omega, fun i hi => ?_⟩
    obtain ⟨d0, d1, d2, d3, d4, hm, h0 | ⟨e2, s2, rfl, hle⟩⟩ := hin i hi
    · omega
    · have k1 := bulk_mem hm
      have k2 := bulk_all e2
      have k3 := bulk_all s2
      have k4 : Rows.uptoBulk (DataW.slice e2 s2 : DataW H) ≤ Rows.uptoBulkAll [d0, d1, d2, DataW.slice e2 s2, d4] := bulk_mem (by simp)
      have e1 : Rows.uptoBulk (DataW.agg [d0, d1, d2, DataW.slice e2 s2, d4]) = Rows.uptoBulkAll [d0, d1, d2, DataW.slice e2 s2, d4] + 1 := by simp only [Rows.uptoBulk]
      have e2' : Rows.uptoBulk (DataW.slice e2 s2 : DataW H) = Rows.uptoBulkAll e2 + Rows.uptoBulkAll s2 + 1 := by simp only [Rows.uptoBulk]
      rw [e1] at k1
      rw [e2'] at k4
      omega
end Go.Proofs.Ytppemfdoogmeeaa
