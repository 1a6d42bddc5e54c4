/-
  isHop, checkTexts: contracts that the statements' walks use.
-/
import Derived.Test.YthefijjdffafkaaDoorRnK
namespace Go.Proofs.YthefijjdffafkaaDoor
open Go.RowKit
set_option linter.unusedVariables false
set_option maxRecDepth 20000

theorem beq_lit (a : ByteArray) (l : List UInt8) : (a.toList == l) = eqS a ⟨l.toArray⟩ := by
  rw [ByteArray.toList_eq]; rfl
set_option maxHeartbeats 2000000 in
theorem hop_any (a b : ByteArray) (w : World) : Calls Tryd.prog 37 #[.agg #[.string a, .string b]] w fun e w' => e = .returned (.bool (hopS (a, b))) ∧ Q w w' := by
  have hd : hopS (a, b) = (eqS a kCon || eqS a kKee || eqS a kPro || eqS a kTra || eqS a kUpg || (eqS a kTe && !eqS b kTrl)) := rfl
  rw [hd]
  clear hd
  have h0 : (a.toList == [99, 111, 110, 110, 101, 99, 116, 105, 111, 110]) = eqS a kCon := beq_lit a _
  have h1 : (a.toList == [107, 101, 101, 112, 45, 97, 108, 105, 118, 101]) = eqS a kKee := beq_lit a _
  have h2 : (a.toList == [112, 114, 111, 120, 121, 45, 99, 111, 110, 110, 101, 99, 116, 105, 111, 110]) = eqS a kPro := beq_lit a _
  have h3 : (a.toList == [116, 114, 97, 110, 115, 102, 101, 114, 45, 101, 110, 99, 111, 100, 105, 110, 103]) = eqS a kTra := beq_lit a _
  have h4 : (a.toList == [117, 112, 103, 114, 97, 100, 101]) = eqS a kUpg := beq_lit a _
  have h5 : (a.toList == [116, 101]) = eqS a kTe := beq_lit a _
  have h6 : (b.toList == [116, 114, 97, 105, 108, 101, 114, 115]) = eqS b kTrl := beq_lit b _
  generalize eqS a kCon = c0 at *
  generalize eqS a kKee = c1 at *
  generalize eqS a kPro = c2 at *
  generalize eqS a kTra = c3 at *
  generalize eqS a kUpg = c4 at *
  generalize eqS a kTe = c5 at *
  generalize eqS b kTrl = c6 at *
  have HQ := hid ((Q.refl w).alloc (.cells #[.string a, .string b] 37))
  go_enter Tryd.func37, Tryd.ntmps37
  cases c0 with
  | true => go_wp2; go_ret; exact ⟨rfl, HQ.out⟩
  | false =>
    cases c1 with
    | true => go_wp2; go_ret; exact ⟨rfl, HQ.out⟩
    | false =>
      cases c2 with
      | true => go_wp2; go_ret; exact ⟨rfl, HQ.out⟩
      | false =>
        cases c3 with
        | true => go_wp2; go_ret; exact ⟨rfl, HQ.out⟩
        | false =>
          cases c4 with
          | true => go_wp2; go_ret; exact ⟨rfl, HQ.out⟩
          | false =>
            cases c5 with
            | false => go_wp2; go_ret; exact ⟨rfl, HQ.out⟩
            | true =>
              cases c6 <;> (go_wp2; go_ret; exact ⟨rfl, HQ.out⟩)
set_option maxHeartbeats 2000000 in
theorem texts_ok (a b : ByteArray) (w : World) (hb : b.size ≤ 140737488355328) (h : txE (a, b) = 0) : Calls Tryd.prog 36 #[.agg #[.string a, .string b]] w fun e w' => e = .returned (.tuple #[]) ∧ Q w w' := by
  have H1 := hid (fun W => pseudo_any a W)
  have H2 := hid (fun W => name_any a W)
  have H3 := hid (fun W => value_any b W hb)
  have HR := hid (fun x W => refuse_no x W)
  have HY := hid (fun x W => refuse_yes x W)
  have hd : txE (a, b) = if !psS a && !nmS a then 180 else if !vlS b then 181 else 0 := rfl
  rw [hd] at h
  have HB := hid (heap_alloc_new w (.cells #[.string a, .string b] 37))
  have HQ := hid ((Q.refl w).alloc (.cells #[.string a, .string b] 37))
  clear hd hb
  generalize psS a = p at *
  generalize nmS a = n at *
  generalize vlS b = v at *
  go_enter Tryd.func36, Tryd.ntmps36
  go_wp2_with fail
  generalize hW : World.alloc w _ = W0 at *
  clear hW
  have c0 : W0.cell? ⟨w.heap.size, 0, none⟩ = some (.string a) := by rw [cell_of_row W0 _ 0 _ 37 (0, 0) HB.out]; rfl
  have c1 : W0.cell? ⟨w.heap.size, 1, none⟩ = some (.string b) := by rw [cell_of_row W0 _ 1 _ 37 (0, 0) HB.out]; rfl
  have HC := hid (fun W (q : Q W0 W) => show W.cell? ⟨w.heap.size, 1, none⟩ = some (.string b) from by rw [cell_of_row W _ 1 _ 37 (0, 0) ((Below.block q _ (lt_of_block HB.out)).trans HB.out)]; rfl)
  generalize w.heap.size = g at *
  cases p <;> cases n <;> cases v
  all_goals (first | exact absurd (show (180 : Int) = 0 from h) (by decide) | exact absurd (show (181 : Int) = 0 from h) (by decide) | skip)
  all_goals
    clear h
    go_wp2_with (first
      | (go_at_call 34; refine (H1.out _).mono ?_; rintro e w1 ⟨rfl, rfl⟩)
      | (go_at_call 44; refine (H2.out _).mono ?_; rintro e w2 ⟨rfl, q2⟩; have Q2 := hid q2; have d1 := HC.out _ q2; clear q2)
      | (go_at_call 45; refine (H3.out _).mono ?_; rintro e w3 ⟨rfl, q3⟩; have Q3 := hid q3; clear q3)
      | (go_at_call_of 33 (Value.bool false); refine (HR.out _ _).mono ?_; rintro e w4 ⟨rfl, rfl⟩)
      | (go_at_call_of 33 (Value.bool true); refine (HY.out _ _).mono ?_; rintro e w4 ⟨rfl, rfl⟩))
    go_end0
    first | exact ⟨rfl, (HQ.out.trans Q2.out).trans Q3.out⟩ | exact ⟨rfl, HQ.out.trans Q3.out⟩
set_option maxHeartbeats 2000000 in
theorem texts_180 (a b : ByteArray) (w : World) (hb : b.size ≤ 140737488355328) (h : (psS a || nmS a) = false) : Calls Tryd.prog 36 #[.agg #[.string a, .string b]] w fun e w' => e = .panicked [refP 180] ∧ Q w w' := by
  have H1 := hid (fun W => pseudo_any a W)
  have H2 := hid (fun W => name_any a W)
  have H3 := hid (fun W => value_any b W hb)
  have HR := hid (fun x W => refuse_no x W)
  have HY := hid (fun x W => refuse_yes x W)
  have hd : txE (a, b) = if !psS a && !nmS a then 180 else if !vlS b then 181 else 0 := rfl
  have HB := hid (heap_alloc_new w (.cells #[.string a, .string b] 37))
  have HQ := hid ((Q.refl w).alloc (.cells #[.string a, .string b] 37))
  clear hd hb
  generalize psS a = p at *
  generalize nmS a = n at *
  generalize vlS b = v at *
  go_enter Tryd.func36, Tryd.ntmps36
  go_wp2_with fail
  generalize hW : World.alloc w _ = W0 at *
  clear hW
  have c0 : W0.cell? ⟨w.heap.size, 0, none⟩ = some (.string a) := by rw [cell_of_row W0 _ 0 _ 37 (0, 0) HB.out]; rfl
  have c1 : W0.cell? ⟨w.heap.size, 1, none⟩ = some (.string b) := by rw [cell_of_row W0 _ 1 _ 37 (0, 0) HB.out]; rfl
  have HC := hid (fun W (q : Q W0 W) => show W.cell? ⟨w.heap.size, 1, none⟩ = some (.string b) from by rw [cell_of_row W _ 1 _ 37 (0, 0) ((Below.block q _ (lt_of_block HB.out)).trans HB.out)]; rfl)
  generalize w.heap.size = g at *
  cases p <;> cases n <;> cases v
  all_goals (first | (exact absurd h (by decide)) | skip)
  all_goals
    clear h
    go_wp2_with (first
      | (go_at_call 34; refine (H1.out _).mono ?_; rintro e w1 ⟨rfl, rfl⟩)
      | (go_at_call 44; refine (H2.out _).mono ?_; rintro e w2 ⟨rfl, q2⟩; have Q2 := hid q2; have d1 := HC.out _ q2; clear q2)
      | (go_at_call 45; refine (H3.out _).mono ?_; rintro e w3 ⟨rfl, q3⟩; have Q3 := hid q3; clear q3)
      | (go_at_call_of 33 (Value.bool false); refine (HR.out _ _).mono ?_; rintro e w4 ⟨rfl, rfl⟩)
      | (go_at_call_of 33 (Value.bool true); refine (HY.out _ _).mono ?_; rintro e w4 ⟨rfl, rfl⟩))
    first | exact ⟨rfl, rfl, (HQ.out.trans Q2.out).trans Q3.out⟩ | exact ⟨rfl, rfl, HQ.out.trans Q3.out⟩ | exact ⟨rfl, rfl, HQ.out.trans Q2.out⟩
set_option maxHeartbeats 2000000 in
theorem texts_181 (a b : ByteArray) (w : World) (hb : b.size ≤ 140737488355328) (h : (psS a || nmS a) = true) (hv : vlS b = false) : Calls Tryd.prog 36 #[.agg #[.string a, .string b]] w fun e w' => e = .panicked [refP 181] ∧ Q w w' := by
  have H1 := hid (fun W => pseudo_any a W)
  have H2 := hid (fun W => name_any a W)
  have H3 := hid (fun W => value_any b W hb)
  have HR := hid (fun x W => refuse_no x W)
  have HY := hid (fun x W => refuse_yes x W)
  have hd : txE (a, b) = if !psS a && !nmS a then 180 else if !vlS b then 181 else 0 := rfl
  have HB := hid (heap_alloc_new w (.cells #[.string a, .string b] 37))
  have HQ := hid ((Q.refl w).alloc (.cells #[.string a, .string b] 37))
  clear hd hb
  generalize psS a = p at *
  generalize nmS a = n at *
  generalize vlS b = v at *
  go_enter Tryd.func36, Tryd.ntmps36
  go_wp2_with fail
  generalize hW : World.alloc w _ = W0 at *
  clear hW
  have c0 : W0.cell? ⟨w.heap.size, 0, none⟩ = some (.string a) := by rw [cell_of_row W0 _ 0 _ 37 (0, 0) HB.out]; rfl
  have c1 : W0.cell? ⟨w.heap.size, 1, none⟩ = some (.string b) := by rw [cell_of_row W0 _ 1 _ 37 (0, 0) HB.out]; rfl
  have HC := hid (fun W (q : Q W0 W) => show W.cell? ⟨w.heap.size, 1, none⟩ = some (.string b) from by rw [cell_of_row W _ 1 _ 37 (0, 0) ((Below.block q _ (lt_of_block HB.out)).trans HB.out)]; rfl)
  generalize w.heap.size = g at *
  cases p <;> cases n <;> cases v
  all_goals (first | (exact absurd h (by decide)) | (exact absurd hv (by decide)) | skip)
  all_goals
    clear h hv
    go_wp2_with (first
      | (go_at_call 34; refine (H1.out _).mono ?_; rintro e w1 ⟨rfl, rfl⟩)
      | (go_at_call 44; refine (H2.out _).mono ?_; rintro e w2 ⟨rfl, q2⟩; have Q2 := hid q2; have d1 := HC.out _ q2; clear q2)
      | (go_at_call 45; refine (H3.out _).mono ?_; rintro e w3 ⟨rfl, q3⟩; have Q3 := hid q3; clear q3)
      | (go_at_call_of 33 (Value.bool false); refine (HR.out _ _).mono ?_; rintro e w4 ⟨rfl, rfl⟩)
      | (go_at_call_of 33 (Value.bool true); refine (HY.out _ _).mono ?_; rintro e w4 ⟨rfl, rfl⟩))
    first | exact ⟨rfl, rfl, (HQ.out.trans Q2.out).trans Q3.out⟩ | exact ⟨rfl, rfl, HQ.out.trans Q3.out⟩ | exact ⟨rfl, rfl, HQ.out.trans Q2.out⟩
theorem texts_bad (a b : ByteArray) (w : World) (hb : b.size ≤ 140737488355328) (y : Int) (h : txE (a, b) = y) (hy : y ≠ 0) : Calls Tryd.prog 36 #[.agg #[.string a, .string b]] w fun e w' => e = .panicked [refP y] ∧ Q w w' := by
  have hd : txE (a, b) = if !psS a && !nmS a then 180 else if !vlS b then 181 else 0 := rfl
  rw [hd] at h
  cases hp : (psS a || nmS a) with
  | false =>
    have : (!psS a && !nmS a) = true := by rw [← Bool.not_or, hp]; rfl
    rw [if_pos this] at h
    subst h
    exact texts_180 a b w hb hp
  | true =>
    have : ¬ (!psS a && !nmS a) = true := by rw [← Bool.not_or, hp]; decide
    rw [if_neg this] at h
    cases hv : vlS b with
    | false =>
      rw [hv, if_pos (by decide)] at h
      subst h
      exact texts_181 a b w hb hp hv
    | true =>
      rw [hv, if_neg (by decide)] at h
      exact absurd h.symm hy
end Go.Proofs.YthefijjdffafkaaDoor
