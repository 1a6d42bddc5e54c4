/-
  How a request is framed; a head without fields: contracts that the statements' walks use.
-/
import Derived.Test.YtclapheglgiokaaDoorWrA
import Derived.Test.YtclapheglgiokaaDoorRnL
import Derived.Test.YtclapheglgiokaaDoorRnV
import Derived.Deep.Cut
namespace Go.Proofs.YtclapheglgiokaaDoor
open Go.RowKit
set_option linter.unusedVariables false
set_option maxRecDepth 20000

def kPOST : ByteArray := ⟨#[80, 79, 83, 84]⟩
def kPUT : ByteArray := ⟨#[80, 85, 84]⟩
def kPATCH : ByteArray := ⟨#[80, 65, 84, 67, 72]⟩
/-- The framing's number. -/
def frm (m : ByteArray) (n : Int) (b : Bool) : Int := if 0 ≤ n then 1 else if b then 2 else if eqS m kPOST || eqS m kPUT || eqS m kPATCH then 1 else 0
theorem info24 (m s a p : ByteArray) (x : Sv) (n : Int) : (Tryd.prog.info? 24).map (·.size) = some (rqC m s a p x n).size := by kernel_rfl
theorem haslen_any (m s a p : ByteArray) (x : Sv) (n : Int) (w : World) : Calls Tryd.prog 46 #[.agg (rqC m s a p x n)] w fun e w' => e = .returned (.bool (decide (0 ≤ n))) ∧ Q w w' := by
  have HQ := hid ((Q.refl w).alloc (.cells (rqC m s a p x n) 24))
  by_cases hn : 0 ≤ n
  · rw [decide_eq_true hn]
    go_enter Tryd.func46, Tryd.ntmps46
    go_wp2
    go_ret
    exact ⟨rfl, HQ.out⟩
  · rw [decide_eq_false hn]
    go_enter Tryd.func46, Tryd.ntmps46
    go_wp2
    go_ret
    exact ⟨rfl, HQ.out⟩
set_option maxHeartbeats 4000000 in
theorem framing_any (m s a p : ByteArray) (x : Sv) (n : Int) (b : Bool) (w : World) : Calls Tryd.prog 15 #[.agg (rqC m s a p x n), .bool b] w fun e w' => e = .returned (.int .i64 (frm m n b)) ∧ Q w w' := by
  have HQ := hid ((Q.refl w).alloc (.cells (rqC m s a p x n) 24))
  have HB := hid (blk_new w (rqC m s a p x n) 24)
  have HL := hid (haslen_any m s a p x n)
  have HO := hid (show (rqC m s a p x n).all (·.oneCell') = true from by kernel_rfl)
  have e1 : (m.toList == [80, 79, 83, 84]) = eqS m kPOST := beq_lit m _
  have e2 : (m.toList == [80, 85, 84]) = eqS m kPUT := beq_lit m _
  have e3 : (m.toList == [80, 65, 84, 67, 72]) = eqS m kPATCH := beq_lit m _
  have hf : frm m n b = if 0 ≤ n then 1 else if b then 2 else if eqS m kPOST || eqS m kPUT || eqS m kPATCH then 1 else 0 := rfl
  generalize frm m n b = f at *
  generalize eqS m kPOST = b1 at *
  generalize eqS m kPUT = b2 at *
  generalize eqS m kPATCH = b3 at *
  have HF := hid hf
  clear hf
  go_enter Tryd.func15, Tryd.ntmps15
  go_upto_region 1 with fail
  generalize hW : World.alloc w _ = W0 at *
  clear hW
  generalize w.heap.size = b0 at *
  go_wp2_with (refine wpList_load_row rfl 24 _ rfl b0 rfl 24 _ (0, 0) _ HB.out Tryd.underlying24 rfl (info24 m s a p x n) ?_)
  refine (HL.out _).mono ?_
  rintro e w1 ⟨rfl, q1⟩
  have Q1 := hid (HQ.out.trans q1)
  have c0 : w1.cell? ⟨b0, 0, none⟩ = some (.string m) := (HB.out.q q1).cell 0
  clear q1 HB HQ HL
  by_cases hn : 0 ≤ n
  · rw [decide_eq_true hn]
    have HG := hid (HF.out.trans (if_pos hn))
    clear e1 e2 e3 HF
    go_wp2
    go_ret
    exact ⟨by rw [HG.out]; rfl, Q1.out⟩
  · rw [decide_eq_false hn]
    replace HF := hid (HF.out.trans (if_neg hn))
    cases b with
    | true =>
      clear e1 e2 e3
      go_wp2
      go_ret
      exact ⟨by rw [HF.out]; rfl, Q1.out⟩
    | false =>
      cases b1
      · cases b2
        · cases b3
          all_goals
            go_wp2
            go_ret
            exact ⟨by rw [HF.out]; rfl, Q1.out⟩
        · go_wp2
          go_ret
          exact ⟨by rw [HF.out]; rfl, Q1.out⟩
      · go_wp2
        go_ret
        exact ⟨by rw [HF.out]; rfl, Q1.out⟩
set_option maxHeartbeats 4000000 in
theorem wframing_none (bw : Nat) (m s a p : ByteArray) (x : Sv) (n : Int) (b : Bool) (w : World) (h0 : frm m n b = 0) : Calls Tryd.prog 36 #[.pointer (some ⟨bw, 0, none⟩), .agg (rqC m s a p x n), .bool b] w fun e w' => e = .returned (.tuple #[]) ∧ Q w w' := by
  have HQ := hid ((Q.refl w).alloc (.cells (rqC m s a p x n) 24))
  have HB := hid (blk_new w (rqC m s a p x n) 24)
  have HL := hid (framing_any m s a p x n b)
  rw [h0] at HL
  clear h0
  go_enter Tryd.func36, Tryd.ntmps36
  go_upto_region 1 with fail
  generalize hW : World.alloc w _ = W0 at *
  clear hW
  generalize w.heap.size = b0 at *
  go_wp2_with (first
    | (refine wpList_load_row rfl 24 _ rfl b0 rfl 24 _ (0, 0) _ HB.out Tryd.underlying24 rfl (info24 m s a p x n) ?_)
    | (go_at_call 15; refine (HL.out _).mono ?_; rintro e w1 ⟨rfl, q1⟩; have Q1 := hid (HQ.out.trans q1); clear q1))
  go_end0
  exact ⟨rfl, Q1.out⟩
theorem vals_nil (n : ByteArray) (w : World) : Calls Tryd.prog 60 #[.slice none 0 0, .string n] w fun e w' => e = .returned (.slice none 0 0) ∧ w' = w := by
  go_enter Tryd.func60, Tryd.ntmps60
  go_wp2_with fail
  go_loop [5, 10] (fun v i => v = .slice none 0 0 ∧ i = .int .i64 0) (fun _ _ => 0)
  case atStart => exact ⟨rfl, rfl⟩
  case round =>
    obtain ⟨rfl, rfl⟩ := hrel
    go_wp2
    go_ret
    exact ⟨rfl, rfl⟩
theorem reqf_nil (b : Nat) (w : World) : Calls Tryd.prog 35 #[.pointer (some ⟨b, 0, none⟩), .slice none 0 0] w fun e w' => e = .returned (.tuple #[]) ∧ w' = w := by
  have HV := hid vals_nil
  go_enter Tryd.func35, Tryd.ntmps35
  go_step3
  go_wp2_with fail
  refine (HV.out _ _).mono ?_
  rintro e w1 ⟨rfl, h1⟩
  replace h1 := h1.symm
  subst h1
  go_wp2_with fail
  go_step3
  go_wp2_with fail
  go_loop [12] (fun i => i = .int .i64 0) (fun _ => 0)
  case atStart => rfl
  case round =>
    subst hrel
    go_wp2
    go_end0
    exact ⟨rfl, rfl⟩
end Go.Proofs.YtclapheglgiokaaDoor
