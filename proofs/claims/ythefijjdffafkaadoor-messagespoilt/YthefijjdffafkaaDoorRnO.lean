/-
  checkPlace: contracts that the statements' walks use.
-/
import Derived.Test.YthefijjdffafkaaDoorRnN
namespace Go.Proofs.YthefijjdffafkaaDoor
open Go.RowKit
set_option linter.unusedVariables false
set_option maxRecDepth 20000

/-- There is no field ahead, or the last one is a pseudo field. -/
def laS (pre : List Fd) : Bool := match pre.getLast? with | none => true | some f => psS f.1
def plP (pre : List Fd) (n : ByteArray) : Int := if laS pre then (if knS n then (if (fnd pre n).isSome then 182 else 0) else 182) else 182
/-- If the last one is a pseudo field, all are. -/
def psOrd (pre : List Fd) : Prop := laS pre = true → ∀ g ∈ pre, psS g.1 = true
theorem fnd_isSome (pre : List Fd) (n : ByteArray) : (fnd pre n).isSome = pre.any fun g => eqS g.1 n := by
  unfold fnd
  rw [Option.isSome_map]
  induction pre with
  | nil => rfl
  | cons f r ih =>
    rw [List.find?_cons, List.any_cons]
    cases h : eqS f.1 n with
    | true => rfl
    | false => rw [Bool.false_or]; exact ih
theorem any_or (pre : List Fd) (n : ByteArray) (h : ∀ g ∈ pre, psS g.1 = true) : (pre.any fun g => !psS g.1 || eqS g.1 n) = pre.any fun g => eqS g.1 n := by
  induction pre with
  | nil => rfl
  | cons f r ih => rw [List.any_cons, List.any_cons, ih (fun g hg => h g (by simp [hg])), h f (by simp)]; rfl
theorem plE_P (pre : List Fd) (n : ByteArray) (h : psOrd pre) : plE pre n = plP pre n := by
  unfold plE plP
  cases hl : laS pre with
  | true =>
    rw [any_or pre n (h hl), ← fnd_isSome]
    cases knS n <;> cases (fnd pre n).isSome <;> rfl
  | false =>
    have : (pre.any fun g => !psS g.1 || eqS g.1 n) = true := by
      unfold laS at hl
      cases hg : pre.getLast? with
      | none => rw [hg] at hl; cases hl
      | some f =>
        rw [hg] at hl
        rw [List.any_eq_true]
        exact ⟨f, List.mem_of_getLast? hg, by simp [hl]⟩
    rw [this]
    cases knS n <;> rfl
theorem psOrd_nil : psOrd [] := fun _ g hg => by cases hg
theorem psOrd_snoc (pre : List Fd) (f : Fd) (h : oneE pre f = 0) : psOrd (pre ++ [f]) := by
  intro hl g hg
  have hf : psS f.1 = true := by
    unfold laS at hl
    rw [List.getLast?_append] at hl
    simpa using hl
  have h1 := (orE_zero h).1
  rw [hf, if_pos rfl] at h1
  unfold plE at h1
  split at h1
  · rename_i hc
    simp only [Bool.and_eq_true, Bool.not_eq_true', List.any_eq_false] at hc
    rw [List.mem_append] at hg
    rcases hg with hg | hg
    · have := hc.2 g hg
      simp at this
      exact this.1
    · simp at hg; subst hg; exact hf
  · cases h1

set_option maxHeartbeats 4000000 in
theorem pl_none_unk (x : Sv) (n : ByteArray) (pre : List Fd) (w : World) (hx : SegF w x.a pre) (hl : pre.length = x.n) (hb : pre.length ≤ 8796093022208) (hE : pre = []) (hk : knS n = false) : Calls Tryd.prog 35 #[.string n, .slice x.a x.n x.c] w fun e w' => e = .panicked [refP 182] ∧ Q w w' := by
  obtain ⟨xa, xn, xc⟩ := x
  dsimp only at *
  have HV := hid (fun W (q : Q w W) => valueOf_any ⟨xa, xn, xc⟩ n pre W (hx.q q) hl hb)
  have HP := hid (fun s W => pseudo_any s W)
  have HR := hid (fun x W => refuse_no x W)
  have HY := hid (fun x W => refuse_yes x W)
  have hn0 : xn = 0 := by rw [← hl, hE]; rfl
  subst hn0
  have h0 : (n.toList == [58, 109, 101, 116, 104, 111, 100]) = eqS n kMet := beq_lit n _
  have h1 : (n.toList == [58, 115, 99, 104, 101, 109, 101]) = eqS n kSch := beq_lit n _
  have h2 : (n.toList == [58, 97, 117, 116, 104, 111, 114, 105, 116, 121]) = eqS n kAut := beq_lit n _
  have h3 : (n.toList == [58, 112, 97, 116, 104]) = eqS n kPat := beq_lit n _
  unfold knS at hk
  generalize eqS n kMet = c0 at *
  generalize eqS n kSch = c1 at *
  generalize eqS n kAut = c2 at *
  generalize eqS n kPat = c3 at *
  clear hx hl hb hE
  go_enter Tryd.func35, Tryd.ntmps35
  simp only [Bool.or_eq_false_iff] at hk
  obtain ⟨⟨⟨rfl, rfl⟩, rfl⟩, rfl⟩ := hk
  all_goals
    go_wp2_with (first
      | (go_at_call 39; refine (HV.out _ (Q.refl _)).mono ?_; rintro e w2 ⟨rfl, q2⟩; have Q2 := hid q2; clear q2)
      | (go_at_call_of 33 (Value.bool false); refine (HR.out _ _).mono ?_; rintro e w4 ⟨rfl, rfl⟩)
      | (go_at_call_of 33 (Value.bool true); refine (HY.out _ _).mono ?_; rintro e w4 ⟨rfl, rfl⟩))
    exact ⟨rfl, rfl, Q.refl _⟩

set_option maxHeartbeats 4000000 in
theorem pl_none_two (x : Sv) (n : ByteArray) (pre : List Fd) (w : World) (hx : SegF w x.a pre) (hl : pre.length = x.n) (hb : pre.length ≤ 8796093022208) (hE : pre = []) (hk : knS n = true) (hs : (fnd pre n).isSome = true) : Calls Tryd.prog 35 #[.string n, .slice x.a x.n x.c] w fun e w' => e = .panicked [refP 182] ∧ Q w w' := by
  obtain ⟨xa, xn, xc⟩ := x
  dsimp only at *
  have HV := hid (fun W (q : Q w W) => valueOf_any ⟨xa, xn, xc⟩ n pre W (hx.q q) hl hb)
  have HP := hid (fun s W => pseudo_any s W)
  have HR := hid (fun x W => refuse_no x W)
  have HY := hid (fun x W => refuse_yes x W)
  have hn0 : xn = 0 := by rw [← hl, hE]; rfl
  subst hn0
  have h0 : (n.toList == [58, 109, 101, 116, 104, 111, 100]) = eqS n kMet := beq_lit n _
  have h1 : (n.toList == [58, 115, 99, 104, 101, 109, 101]) = eqS n kSch := beq_lit n _
  have h2 : (n.toList == [58, 97, 117, 116, 104, 111, 114, 105, 116, 121]) = eqS n kAut := beq_lit n _
  have h3 : (n.toList == [58, 112, 97, 116, 104]) = eqS n kPat := beq_lit n _
  unfold knS at hk
  generalize eqS n kMet = c0 at *
  generalize eqS n kSch = c1 at *
  generalize eqS n kAut = c2 at *
  generalize eqS n kPat = c3 at *
  obtain ⟨v, hv⟩ : ∃ v, vaA (fnd pre n) = .tuple #[.string v, .bool true] := ⟨_, by unfold vaA; rw [hs]⟩
  rw [hv] at HV
  clear hx hl hb hE
  go_enter Tryd.func35, Tryd.ntmps35
  clear hv hs
  cases c0 <;> cases c1 <;> cases c2 <;> cases c3
  all_goals (first | (exact absurd hk (by decide)) | (clear hk))
  all_goals
    go_wp2_with (first
      | (go_at_call 39; refine (HV.out _ (Q.refl _)).mono ?_; rintro e w2 ⟨rfl, q2⟩; have Q2 := hid q2; clear q2)
      | (go_at_call_of 33 (Value.bool false); refine (HR.out _ _).mono ?_; rintro e w4 ⟨rfl, rfl⟩)
      | (go_at_call_of 33 (Value.bool true); refine (HY.out _ _).mono ?_; rintro e w4 ⟨rfl, rfl⟩))
    exact ⟨rfl, rfl, Q2.out⟩

set_option maxHeartbeats 4000000 in
theorem pl_none_ok (x : Sv) (n : ByteArray) (pre : List Fd) (w : World) (hx : SegF w x.a pre) (hl : pre.length = x.n) (hb : pre.length ≤ 8796093022208) (hE : pre = []) (hk : knS n = true) (hs : (fnd pre n).isSome = false) : Calls Tryd.prog 35 #[.string n, .slice x.a x.n x.c] w fun e w' => e = .returned (.tuple #[]) ∧ Q w w' := by
  obtain ⟨xa, xn, xc⟩ := x
  dsimp only at *
  have HV := hid (fun W (q : Q w W) => valueOf_any ⟨xa, xn, xc⟩ n pre W (hx.q q) hl hb)
  have HP := hid (fun s W => pseudo_any s W)
  have HR := hid (fun x W => refuse_no x W)
  have HY := hid (fun x W => refuse_yes x W)
  have hn0 : xn = 0 := by rw [← hl, hE]; rfl
  subst hn0
  have h0 : (n.toList == [58, 109, 101, 116, 104, 111, 100]) = eqS n kMet := beq_lit n _
  have h1 : (n.toList == [58, 115, 99, 104, 101, 109, 101]) = eqS n kSch := beq_lit n _
  have h2 : (n.toList == [58, 97, 117, 116, 104, 111, 114, 105, 116, 121]) = eqS n kAut := beq_lit n _
  have h3 : (n.toList == [58, 112, 97, 116, 104]) = eqS n kPat := beq_lit n _
  unfold knS at hk
  generalize eqS n kMet = c0 at *
  generalize eqS n kSch = c1 at *
  generalize eqS n kAut = c2 at *
  generalize eqS n kPat = c3 at *
  obtain ⟨v, hv⟩ : ∃ v, vaA (fnd pre n) = .tuple #[.string v, .bool false] := ⟨_, by unfold vaA; rw [hs]⟩
  rw [hv] at HV
  clear hx hl hb hE
  go_enter Tryd.func35, Tryd.ntmps35
  clear hv hs
  cases c0 <;> cases c1 <;> cases c2 <;> cases c3
  all_goals (first | (exact absurd hk (by decide)) | (clear hk))
  all_goals
    go_wp2_with (first
      | (go_at_call 39; refine (HV.out _ (Q.refl _)).mono ?_; rintro e w2 ⟨rfl, q2⟩; have Q2 := hid q2; clear q2)
      | (go_at_call_of 33 (Value.bool false); refine (HR.out _ _).mono ?_; rintro e w4 ⟨rfl, rfl⟩)
      | (go_at_call_of 33 (Value.bool true); refine (HY.out _ _).mono ?_; rintro e w4 ⟨rfl, rfl⟩))
    go_end0
    exact ⟨rfl, Q2.out⟩

set_option maxHeartbeats 4000000 in
theorem pl_yes_unk (x : Sv) (n : ByteArray) (pre : List Fd) (w : World) (hx : SegF w x.a pre) (hl : pre.length = x.n) (hb : pre.length ≤ 8796093022208) (hE : pre ≠ []) (hla : laS pre = true) (hk : knS n = false) : Calls Tryd.prog 35 #[.string n, .slice x.a x.n x.c] w fun e w' => e = .panicked [refP 182] ∧ Q w w' := by
  obtain ⟨xa, xn, xc⟩ := x
  dsimp only at *
  have HV := hid (fun W (q : Q w W) => valueOf_any ⟨xa, xn, xc⟩ n pre W (hx.q q) hl hb)
  have HP := hid (fun s W => pseudo_any s W)
  have HR := hid (fun x W => refuse_no x W)
  have HY := hid (fun x W => refuse_yes x W)
  obtain ⟨m, hm⟩ : ∃ m, pre.length = m + 1 := ⟨pre.length - 1, by have : pre.length ≠ 0 := by intro e; exact hE (List.eq_nil_of_length_eq_zero e)
                                                                  omega⟩
  obtain ⟨g, off, ⟨p1, p2⟩, ha, hp, d0, d1⟩ := hx.at (k := m) (by omega)
  have hps : psS p1 = laS pre := by
    unfold laS
    rw [List.getLast?_eq_getElem?, hm, Nat.add_sub_cancel, hp]
  dsimp only at d0 d1
  subst ha
  have hHP := HP.out p1
  rw [hps, hla] at hHP
  have HPP := hid hHP
  have hmI : (xn : Int) - 1 = (m : Int) := by omega
  have hmx : (m : Int) < (xn : Int) := by omega
  have hm0 : (0 : Int) ≤ (m : Int) := by omega
  have hxb : (xn : Int) ≤ 8796093022208 := by omega
  have h0 : (n.toList == [58, 109, 101, 116, 104, 111, 100]) = eqS n kMet := beq_lit n _
  have h1 : (n.toList == [58, 115, 99, 104, 101, 109, 101]) = eqS n kSch := beq_lit n _
  have h2 : (n.toList == [58, 97, 117, 116, 104, 111, 114, 105, 116, 121]) = eqS n kAut := beq_lit n _
  have h3 : (n.toList == [58, 112, 97, 116, 104]) = eqS n kPat := beq_lit n _
  unfold knS at hk
  generalize eqS n kMet = c0 at *
  generalize eqS n kSch = c1 at *
  generalize eqS n kAut = c2 at *
  generalize eqS n kPat = c3 at *
  clear hx hl hb hE hm hp hps hla hHP HP d1
  go_enter Tryd.func35, Tryd.ntmps35
  simp only [Bool.or_eq_false_iff] at hk
  obtain ⟨⟨⟨rfl, rfl⟩, rfl⟩, rfl⟩ := hk
  all_goals
    go_wp2_with (first
      | (go_at_call 34; refine (HPP.out _).mono ?_; rintro e w1 ⟨rfl, rfl⟩)
      | (go_at_call 39; refine (HV.out _ (Q.refl _)).mono ?_; rintro e w2 ⟨rfl, q2⟩; have Q2 := hid q2; clear q2)
      | (go_at_call_of 33 (Value.bool false); refine (HR.out _ _).mono ?_; rintro e w4 ⟨rfl, rfl⟩)
      | (go_at_call_of 33 (Value.bool true); refine (HY.out _ _).mono ?_; rintro e w4 ⟨rfl, rfl⟩))
    exact ⟨rfl, rfl, Q.refl _⟩

set_option maxHeartbeats 4000000 in
theorem pl_yes_two (x : Sv) (n : ByteArray) (pre : List Fd) (w : World) (hx : SegF w x.a pre) (hl : pre.length = x.n) (hb : pre.length ≤ 8796093022208) (hE : pre ≠ []) (hla : laS pre = true) (hk : knS n = true) (hs : (fnd pre n).isSome = true) : Calls Tryd.prog 35 #[.string n, .slice x.a x.n x.c] w fun e w' => e = .panicked [refP 182] ∧ Q w w' := by
  obtain ⟨xa, xn, xc⟩ := x
  dsimp only at *
  have HV := hid (fun W (q : Q w W) => valueOf_any ⟨xa, xn, xc⟩ n pre W (hx.q q) hl hb)
  have HP := hid (fun s W => pseudo_any s W)
  have HR := hid (fun x W => refuse_no x W)
  have HY := hid (fun x W => refuse_yes x W)
  obtain ⟨m, hm⟩ : ∃ m, pre.length = m + 1 := ⟨pre.length - 1, by have : pre.length ≠ 0 := by intro e; exact hE (List.eq_nil_of_length_eq_zero e)
                                                                  omega⟩
  obtain ⟨g, off, ⟨p1, p2⟩, ha, hp, d0, d1⟩ := hx.at (k := m) (by omega)
  have hps : psS p1 = laS pre := by
    unfold laS
    rw [List.getLast?_eq_getElem?, hm, Nat.add_sub_cancel, hp]
  dsimp only at d0 d1
  subst ha
  have hHP := HP.out p1
  rw [hps, hla] at hHP
  have HPP := hid hHP
  have hmI : (xn : Int) - 1 = (m : Int) := by omega
  have hmx : (m : Int) < (xn : Int) := by omega
  have hm0 : (0 : Int) ≤ (m : Int) := by omega
  have hxb : (xn : Int) ≤ 8796093022208 := by omega
  have h0 : (n.toList == [58, 109, 101, 116, 104, 111, 100]) = eqS n kMet := beq_lit n _
  have h1 : (n.toList == [58, 115, 99, 104, 101, 109, 101]) = eqS n kSch := beq_lit n _
  have h2 : (n.toList == [58, 97, 117, 116, 104, 111, 114, 105, 116, 121]) = eqS n kAut := beq_lit n _
  have h3 : (n.toList == [58, 112, 97, 116, 104]) = eqS n kPat := beq_lit n _
  unfold knS at hk
  generalize eqS n kMet = c0 at *
  generalize eqS n kSch = c1 at *
  generalize eqS n kAut = c2 at *
  generalize eqS n kPat = c3 at *
  obtain ⟨v, hv⟩ : ∃ v, vaA (fnd pre n) = .tuple #[.string v, .bool true] := ⟨_, by unfold vaA; rw [hs]⟩
  rw [hv] at HV
  clear hx hl hb hE hm hp hps hla hHP HP d1
  go_enter Tryd.func35, Tryd.ntmps35
  clear hv hs
  cases c0 <;> cases c1 <;> cases c2 <;> cases c3
  all_goals (first | (exact absurd hk (by decide)) | (clear hk))
  all_goals
    go_wp2_with (first
      | (go_at_call 34; refine (HPP.out _).mono ?_; rintro e w1 ⟨rfl, rfl⟩)
      | (go_at_call 39; refine (HV.out _ (Q.refl _)).mono ?_; rintro e w2 ⟨rfl, q2⟩; have Q2 := hid q2; clear q2)
      | (go_at_call_of 33 (Value.bool false); refine (HR.out _ _).mono ?_; rintro e w4 ⟨rfl, rfl⟩)
      | (go_at_call_of 33 (Value.bool true); refine (HY.out _ _).mono ?_; rintro e w4 ⟨rfl, rfl⟩))
    exact ⟨rfl, rfl, Q2.out⟩

set_option maxHeartbeats 4000000 in
theorem pl_yes_ok (x : Sv) (n : ByteArray) (pre : List Fd) (w : World) (hx : SegF w x.a pre) (hl : pre.length = x.n) (hb : pre.length ≤ 8796093022208) (hE : pre ≠ []) (hla : laS pre = true) (hk : knS n = true) (hs : (fnd pre n).isSome = false) : Calls Tryd.prog 35 #[.string n, .slice x.a x.n x.c] w fun e w' => e = .returned (.tuple #[]) ∧ Q w w' := by
  obtain ⟨xa, xn, xc⟩ := x
  dsimp only at *
  have HV := hid (fun W (q : Q w W) => valueOf_any ⟨xa, xn, xc⟩ n pre W (hx.q q) hl hb)
  have HP := hid (fun s W => pseudo_any s W)
  have HR := hid (fun x W => refuse_no x W)
  have HY := hid (fun x W => refuse_yes x W)
  obtain ⟨m, hm⟩ : ∃ m, pre.length = m + 1 := ⟨pre.length - 1, by have : pre.length ≠ 0 := by intro e; exact hE (List.eq_nil_of_length_eq_zero e)
                                                                  omega⟩
  obtain ⟨g, off, ⟨p1, p2⟩, ha, hp, d0, d1⟩ := hx.at (k := m) (by omega)
  have hps : psS p1 = laS pre := by
    unfold laS
    rw [List.getLast?_eq_getElem?, hm, Nat.add_sub_cancel, hp]
  dsimp only at d0 d1
  subst ha
  have hHP := HP.out p1
  rw [hps, hla] at hHP
  have HPP := hid hHP
  have hmI : (xn : Int) - 1 = (m : Int) := by omega
  have hmx : (m : Int) < (xn : Int) := by omega
  have hm0 : (0 : Int) ≤ (m : Int) := by omega
  have hxb : (xn : Int) ≤ 8796093022208 := by omega
  have h0 : (n.toList == [58, 109, 101, 116, 104, 111, 100]) = eqS n kMet := beq_lit n _
  have h1 : (n.toList == [58, 115, 99, 104, 101, 109, 101]) = eqS n kSch := beq_lit n _
  have h2 : (n.toList == [58, 97, 117, 116, 104, 111, 114, 105, 116, 121]) = eqS n kAut := beq_lit n _
  have h3 : (n.toList == [58, 112, 97, 116, 104]) = eqS n kPat := beq_lit n _
  unfold knS at hk
  generalize eqS n kMet = c0 at *
  generalize eqS n kSch = c1 at *
  generalize eqS n kAut = c2 at *
  generalize eqS n kPat = c3 at *
  obtain ⟨v, hv⟩ : ∃ v, vaA (fnd pre n) = .tuple #[.string v, .bool false] := ⟨_, by unfold vaA; rw [hs]⟩
  rw [hv] at HV
  clear hx hl hb hE hm hp hps hla hHP HP d1
  go_enter Tryd.func35, Tryd.ntmps35
  clear hv hs
  cases c0 <;> cases c1 <;> cases c2 <;> cases c3
  all_goals (first | (exact absurd hk (by decide)) | (clear hk))
  all_goals
    go_wp2_with (first
      | (go_at_call 34; refine (HPP.out _).mono ?_; rintro e w1 ⟨rfl, rfl⟩)
      | (go_at_call 39; refine (HV.out _ (Q.refl _)).mono ?_; rintro e w2 ⟨rfl, q2⟩; have Q2 := hid q2; clear q2)
      | (go_at_call_of 33 (Value.bool false); refine (HR.out _ _).mono ?_; rintro e w4 ⟨rfl, rfl⟩)
      | (go_at_call_of 33 (Value.bool true); refine (HY.out _ _).mono ?_; rintro e w4 ⟨rfl, rfl⟩))
    go_end0
    exact ⟨rfl, Q2.out⟩

set_option maxHeartbeats 4000000 in
theorem pl_no (x : Sv) (n : ByteArray) (pre : List Fd) (w : World) (hx : SegF w x.a pre) (hl : pre.length = x.n) (hb : pre.length ≤ 8796093022208) (hE : pre ≠ []) (hla : laS pre = false) : Calls Tryd.prog 35 #[.string n, .slice x.a x.n x.c] w fun e w' => e = .panicked [refP 182] ∧ Q w w' := by
  obtain ⟨xa, xn, xc⟩ := x
  dsimp only at *
  have HV := hid (fun W (q : Q w W) => valueOf_any ⟨xa, xn, xc⟩ n pre W (hx.q q) hl hb)
  have HP := hid (fun s W => pseudo_any s W)
  have HR := hid (fun x W => refuse_no x W)
  have HY := hid (fun x W => refuse_yes x W)
  obtain ⟨m, hm⟩ : ∃ m, pre.length = m + 1 := ⟨pre.length - 1, by have : pre.length ≠ 0 := by intro e; exact hE (List.eq_nil_of_length_eq_zero e)
                                                                  omega⟩
  obtain ⟨g, off, ⟨p1, p2⟩, ha, hp, d0, d1⟩ := hx.at (k := m) (by omega)
  have hps : psS p1 = laS pre := by
    unfold laS
    rw [List.getLast?_eq_getElem?, hm, Nat.add_sub_cancel, hp]
  dsimp only at d0 d1
  subst ha
  have hHP := HP.out p1
  rw [hps, hla] at hHP
  have HPP := hid hHP
  have hmI : (xn : Int) - 1 = (m : Int) := by omega
  have hmx : (m : Int) < (xn : Int) := by omega
  have hm0 : (0 : Int) ≤ (m : Int) := by omega
  have hxb : (xn : Int) ≤ 8796093022208 := by omega
  clear hx hl hb hE hm hp hps hla hHP HP d1
  go_enter Tryd.func35, Tryd.ntmps35
  all_goals
    go_wp2_with (first
      | (go_at_call 34; refine (HPP.out _).mono ?_; rintro e w1 ⟨rfl, rfl⟩)
      | (go_at_call 39; refine (HV.out _ (Q.refl _)).mono ?_; rintro e w2 ⟨rfl, q2⟩; have Q2 := hid q2; clear q2)
      | (go_at_call_of 33 (Value.bool false); refine (HR.out _ _).mono ?_; rintro e w4 ⟨rfl, rfl⟩)
      | (go_at_call_of 33 (Value.bool true); refine (HY.out _ _).mono ?_; rintro e w4 ⟨rfl, rfl⟩))
    exact ⟨rfl, rfl, Q.refl _⟩

theorem place_ok (x : Sv) (n : ByteArray) (pre : List Fd) (w : World) (hx : SegF w x.a pre) (hl : pre.length = x.n) (hb : pre.length ≤ 8796093022208) (h : plP pre n = 0) : Calls Tryd.prog 35 #[.string n, .slice x.a x.n x.c] w fun e w' => e = .returned (.tuple #[]) ∧ Q w w' := by
  unfold plP at h
  cases hla : laS pre with
  | false => rw [hla, if_neg (by decide)] at h; cases h
  | true =>
    rw [hla, if_pos rfl] at h
    cases hk : knS n with
    | false => rw [hk, if_neg (by decide)] at h; cases h
    | true =>
      rw [hk, if_pos rfl] at h
      cases hs : (fnd pre n).isSome with
      | true => rw [hs, if_pos rfl] at h; cases h
      | false =>
        by_cases hE : pre = []
        · exact pl_none_ok x n pre w hx hl hb hE hk hs
        · exact pl_yes_ok x n pre w hx hl hb hE hla hk hs
theorem place_bad (x : Sv) (n : ByteArray) (pre : List Fd) (w : World) (hx : SegF w x.a pre) (hl : pre.length = x.n) (hb : pre.length ≤ 8796093022208) (h : plP pre n ≠ 0) : Calls Tryd.prog 35 #[.string n, .slice x.a x.n x.c] w fun e w' => e = .panicked [refP 182] ∧ Q w w' := by
  unfold plP at h
  cases hla : laS pre with
  | false =>
    have hE : pre ≠ [] := by intro e; subst e; cases hla
    exact pl_no x n pre w hx hl hb hE hla
  | true =>
    rw [hla, if_pos rfl] at h
    cases hk : knS n with
    | false =>
      by_cases hE : pre = []
      · exact pl_none_unk x n pre w hx hl hb hE hk
      · exact pl_yes_unk x n pre w hx hl hb hE hla hk
    | true =>
      rw [hk, if_pos rfl] at h
      cases hs : (fnd pre n).isSome with
      | false => rw [hs, if_neg (by decide)] at h; exact absurd rfl h
      | true =>
        by_cases hE : pre = []
        · exact pl_none_two x n pre w hx hl hb hE hk hs
        · exact pl_yes_two x n pre w hx hl hb hE hla hk hs
theorem plP_cases (pre : List Fd) (n : ByteArray) : plP pre n = 0 ∨ plP pre n = 182 := by
  unfold plP
  split
  · split
    · split
      · exact .inr rfl
      · exact .inl rfl
    · exact .inr rfl
  · exact .inr rfl
end Go.Proofs.YthefijjdffafkaaDoor
