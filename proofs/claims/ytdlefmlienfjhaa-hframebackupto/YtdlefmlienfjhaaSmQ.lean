/-
  The law on cuts, walked: two readings of one stream's bytes are held against one another.
-/
import Derived.Test.YtdlefmlienfjhaaHfL
import Derived.Test.YtdlefmlienfjhaaPuW
import Derived.BigQuiet
import Derived.Laws.StructEq
import Derived.Deep.QuietTactic
namespace Go.Proofs.Ytdlefmlienfjhaa
open Go.RowKit
set_option linter.unusedVariables false
set_option maxRecDepth 100000

set_option maxHeartbeats 400000 in
/-- Same on equal bytes: it only draws. -/
theorem same_dr (a1 a2 : Option Addr) (n1 c1 c2 : Nat) (xs : List Int) (w : World) (l1 : xs.length = n1) (b1 : n1 ≤ 9223372036854775807) (h1 : Seg w a1 xs) (h2 : Seg w a2 xs) :
    Calls Try.prog 26 #[.slice a1 n1 c1, .slice a2 n1 c2] w fun e w' => e = .returned (.bool true) ∧ ∃ m, w' = w.drewN m := by
  have L1 := hid l1
  clear l1
  have hne : ((n1 : Int) != n1) = false := by simp
  go_enter Try.func26, Try.ntmps26
  go_wp2
  go_loopw [5] (fun i wr => ∃ k : Nat, k ≤ n1 ∧ i = .int .i64 k ∧ ∃ m, wr = w.drewN m) (fun i _ => n1 - (intOf i).toNat)
  case atStart => exact ⟨0, Nat.zero_le _, rfl, 0, rfl⟩
  case round =>
    obtain ⟨k, hk, rfl, m, hw⟩ := hrel
    have HW := hid hw
    by_cases hlt : k < n1
    · obtain ⟨p1, o1, rfl, g1⟩ := h1 (by intro h; have := L1.out; simp [h] at this; omega)
      obtain ⟨p2, o2, rfl, g2⟩ := h2 (by intro h; have := L1.out; simp [h] at this; omega)
      have q1 : wr.cell? ⟨p1, o1 + k, none⟩ = some (.int .u8 (xs.getD k 0)) := by rw [hw]; exact g1 k (by have := L1.out; omega)
      have q2 : wr.cell? ⟨p2, o2 + k, none⟩ = some (.int .u8 (xs.getD k 0)) := by rw [hw]; exact g2 k (by have := L1.out; omega)
      clear g1 g2 h1 h2 hw
      have hlt' : (k : Int) < (n1 : Int) := by omega
      generalize xs.getD k 0 = x at *
      have hd : (x != x) = false := by simp
      go_wp2
      go_quiet (fail)
      go_wp2
      go_roundw
      case rel => exact ⟨k + 1, by omega, by go_num, _, by rw [HW.out]; exact World.drewN_drewN _ _ _⟩
      case measure => simp [intOf]; omega
    · go_wp2
      go_ret
      first | exact ⟨rfl, m, HW.out⟩ | exact ⟨rfl, m, rfl⟩

theorem ld39 (g o : Nat) (a b c : Value) (w : World) (h0 : w.cell? ⟨g, o, none⟩ = some a) (h1 : w.cell? ⟨g, o + 1, none⟩ = some b) (h2 : w.cell? ⟨g, o + 2, none⟩ = some c) :
    (loadVar 39 ⟨g, o, none⟩).run Try.prog w = .ok (.agg #[a, b, c]) w := by
  have hl : (loadCells ⟨g, o, none⟩ 3).run Try.prog w = .ok #[a, b, c] w :=
    run_loadCells_list (P := Try.prog) w ⟨g, o, none⟩ [a, b, c] (fun j v hv => by
      have hadd : (⟨g, o, none⟩ : Addr).add j = ⟨g, o + j, none⟩ := addr_add g o j
      rw [hadd]
      match j, hv with
      | 0, hv => cases hv; exact h0
      | 1, hv => cases hv; exact h1
      | 2, hv => cases hv; exact h2)
  have hu : Try.prog.underlying 39 = some (.struct _) := Try.underlying39
  have hagg : (isAgg 39).run Try.prog w = .ok true w := by
    unfold isAgg
    rw [Sem.run_bind, run_underlying hu w]
    rfl
  obtain ⟨i, hi, hz⟩ : ∃ i, Try.prog.info? 39 = some i ∧ i.size = 3 := ⟨_, rfl, rfl⟩
  simp [loadVar, Sem.run_bind, hagg, sizeOf, typeInfo, hi, hz, hl]
theorem ne39 (a b c : Int) (w : World) : (binOp BinOp.neq 39 (.agg #[.int .i64 a, .int .i64 b, .int .i64 c]) (.agg #[.int .i64 a, .int .i64 b, .int .i64 c])).run Try.prog w = .ok (.bool false) w := by
  have hi : ∀ (x : Int) (u : World), (Op.equalIn 9999 3 (.int .i64 x) (.int .i64 x)).run Try.prog u = .ok true u := fun x u => by rw [run_equalIn_int u 9998 3 .i64 .i64 x x Try.underlying3, beq_self_eq_true]
  rw [run_neq_struct, run_equalIn_agg w 9999 39 _ _ (by kernel_rfl) (by kernel_rfl)]
  have hf : (Try.prog.fieldsOf 39).toList = (Try.prog.fieldsOf 39).toList := rfl
  have p0 : ∀ u, (part 3 #[.int .i64 a, .int .i64 b, .int .i64 c] 0).run Try.prog u = .ok (.int .i64 a) u := fun u => by kernel_rfl
  have p1 : ∀ u, (part 3 #[.int .i64 a, .int .i64 b, .int .i64 c] 1).run Try.prog u = .ok (.int .i64 b) u := fun u => by kernel_rfl
  have p2 : ∀ u, (part 3 #[.int .i64 a, .int .i64 b, .int .i64 c] 2).run Try.prog u = .ok (.int .i64 c) u := fun u => by kernel_rfl
  obtain ⟨f0, f1, f2, hf, ⟨n0, t0, o0⟩, ⟨n1, t1, o1⟩, n2, t2, o2⟩ : ∃ f0 f1 f2, (Try.prog.fieldsOf 39).toList = [f0, f1, f2] ∧ (f0.name ≠ "_" ∧ f0.type = 3 ∧ f0.offset = 0) ∧ (f1.name ≠ "_" ∧ f1.type = 3 ∧ f1.offset = 1) ∧ (f2.name ≠ "_" ∧ f2.type = 3 ∧ f2.offset = 2) := ⟨_, _, _, rfl, ⟨by decide, rfl, rfl⟩, ⟨by decide, rfl, rfl⟩, by decide, rfl, rfl⟩
  rw [hf]
  simp only [Op.eqFields, if_pos n0, if_pos n1, if_pos n2, t0, t1, t2, o0, o1, o2, Sem.run_bind, p0, p1, p2, hi, Result.andThen_ok, Bool.not_true, Bool.false_eq_true, if_false, Sem.run_pure]
/-- What one event of a row holds, cell by cell. -/
theorem ev_cells {w : World} {x : Sv} {L : List (Ev × Sv)} (h : RowE w x L) {i : Nat} (hi : i < x.n) : ∃ g off p, x.a = some ⟨g, off, none⟩ ∧ L[i]? = some p ∧
    w.cell? ⟨g, off + i * 6, none⟩ = some (.int .i64 p.1.k) ∧ w.cell? ⟨g, off + i * 6 + 1, none⟩ = some (.slice p.2.a p.2.n p.2.c) ∧ w.cell? ⟨g, off + i * 6 + 2, none⟩ = some (.int .i64 p.1.s0) ∧
    w.cell? ⟨g, off + i * 6 + 3, none⟩ = some (.int .i64 p.1.s1) ∧ w.cell? ⟨g, off + i * 6 + 4, none⟩ = some (.int .i64 p.1.s2) ∧ w.cell? ⟨g, off + i * 6 + 5, none⟩ = some (.int .i64 p.1.i) := by
  have hl := RowE.len h
  obtain ⟨g, off, ha, _, hc⟩ := Sub.some_ h (by omega)
  have hp : L[i]? = some (L[i]'(by omega)) := List.getElem?_eq_getElem (by omega)
  obtain ⟨A, B, hAB, hA⟩ : ∃ A B, L = A ++ L[i]'(by omega) :: B ∧ A.length = i := ⟨L.take i, L.drop (i + 1), by rw [List.getElem_cons_drop, List.take_append_drop], by rw [List.length_take]; omega⟩
  generalize L[i]'(by omega) = p at *
  have hv : ∀ j, j < 6 → (evV L)[i * 6 + j]? = (eC p.1 p.2).toList[j]? := by
    intro j hj
    rw [hAB, evV_app, List.getElem?_append_right (by rw [evV_len]; omega), evV_len, hA, show i * 6 + j - i * 6 = j by omega, show p :: B = [p] ++ B from rfl, evV_app, evV_one, List.getElem?_append_left (by show j < 6; exact hj)]
  have hcc : ∀ j v, j < 6 → (eC p.1 p.2).toList[j]? = some v → w.cell? ⟨g, off + i * 6 + j, none⟩ = some v := by
    intro j v hj hv2
    rw [show off + i * 6 + j = off + (i * 6 + j) by omega]
    exact hc _ _ (by rw [hv j hj]; exact hv2)
  exact ⟨g, off, p, ha, hp, hcc 0 _ (by omega) rfl, hcc 1 _ (by omega) rfl, hcc 2 _ (by omega) rfl, hcc 3 _ (by omega) rfl, hcc 4 _ (by omega) rfl, hcc 5 _ (by omega) rfl⟩
theorem run_data : ∀ (k : Nat) (H : Hf), Hok H → ∀ e ∈ (run k H).1.1, e.d.length ≤ H.held.length
  | 0, H, _, e, he => by simp [run] at he
  | k + 1, H, hk, e, he => by
    rw [run] at he
    by_cases hs : (stp H).1 = true
    · rw [if_pos hs] at he
      obtain ⟨a, b⟩ := stp_less hk hs
      have ih := run_data k _ a
      cases hx : (stp H).2.1 with
      | none =>
        rw [hx] at he
        have := ih e he
        omega
      | some x =>
        rw [hx] at he
        have hd := stp_data_len hk hx
        by_cases h2 : x.k = 2
        · simp [consE, h2] at he
          have := ih e he
          omega
        · simp [consE, h2] at he
          rcases he with rfl | he
          · omega
          · have := ih e he
            omega
    · rw [if_neg hs] at he
      cases he
theorem run_data_all {st : Int} (hs : st = 1 ∨ st = 2) {bs : List Int} (hz : ∀ y ∈ bs, 0 ≤ y ∧ y < 256) : ∀ e ∈ (allW st bs).1.1, e.d.length ≤ bs.length := run_data _ _ (allW_ok hs hz)
end Go.Proofs.Ytdlefmlienfjhaa
