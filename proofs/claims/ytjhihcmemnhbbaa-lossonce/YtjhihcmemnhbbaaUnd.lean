/-
  What greatestSent, under, Under, elicits answer: contracts that the statements' walks use.
-/
import Derived.Test.YtjhihcmemnhbbaaNew
namespace Go.Proofs.Ytjhihcmemnhbbaa
open Go.RowKit
set_option linter.unusedVariables false
set_option maxRecDepth 20000

theorem gs_last {l : List Spn} (h : 0 < l.length) : gs l = (l.getD (l.length - 1) (0, 0)).2 := by
  unfold gs
  rw [List.getLast?_eq_getElem?, List.getD_eq_getElem?_getD, List.getElem?_eq_getElem (by omega)]
  rfl

section
variable {w : World} {rb : Nat} {r : Nat → Sv} {S : Lo}
theorem great_any (h : La w rb r S) {k : Nat} (hk : k < 3) : Calls Try.prog 23 #[.pointer (some ⟨rb, 2 + k * 5, none⟩)] w fun e w' => e = .returned (.int .i64 (gs (S.sp k).sent)) ∧ ∃ n, w' = w.drewN n := by
  have c := h.hd.sent hk
  have ht := h.rs.t k hk
  have hl := ht.len
  have hcap := ht.cap
  clear h
  generalize r (2 * k + 1) = d at *
  generalize 2 + k * 5 = o at *
  obtain ⟨a, n, cc⟩ := d
  by_cases h0 : n = 0
  · subst h0
    have HE := hid (show gs (S.sp k).sent = -1 by rw [List.eq_nil_of_length_eq_zero hl]; rfl)
    clear ht hl
    go_enter Try.func23, Try.ntmps23
    go_wp2
    go_ret
    exact ⟨ret_int HE.out.symm, 0, rfl⟩
  · obtain ⟨g, o2, rfl, _, hs⟩ := ht.at_ (k := n - 1) (by simp only; omega)
    have c1 := hs.c1
    have HE := hid (show gs (S.sp k).sent = ((S.sp k).sent.getD (n - 1) (0, 0)).2 by rw [gs_last (by simp only at hl; omega), hl])
    have hb : ((n : Int) == 0) = false := by simp; omega
    have hwm : IntKind.i64.wrap ((n : Int) - 1) = ((n - 1 : Nat) : Int) := by
      have : n ≤ maxLen := by
        rcases ht.2 with ⟨_, h1, _⟩ | ⟨_, _, _, _, _, h1, h2, _⟩ <;> (simp only at *; omega)
      rw [IntKind.wrap_i64]; unfold maxLen at this; omega
    have hlt : ((n - 1 : Nat) : Int) < (n : Int) := by omega
    have hlt' : n - 1 < n := by omega
    generalize ((S.sp k).sent.getD (n - 1) (0, 0)).2 = v at *
    clear ht hl hs hcap
    generalize hm : n - 1 = m at *
    have HM := hid hm
    have H0 := hid h0
    clear hm h0
    go_enter Try.func23, Try.ntmps23
    go_wp2
    go_quiet (fail)
    go_wp2
    go_ret
    exact ⟨ret_int HE.out.symm, _, rfl⟩

theorem PAt.q {w w' : World} {g o : Nat} {p : Pk} (h : PAt w g o p) (q : Q w w') : PAt w' g o p :=
  ⟨by rw [q.cell (lt_of_cell h.c0)]; exact h.c0, by rw [q.cell (lt_of_cell h.c1)]; exact h.c1, by rw [q.cell (lt_of_cell h.c2)]; exact h.c2, by rw [q.cell (lt_of_cell h.c3)]; exact h.c3⟩

set_option maxHeartbeats 1000000 in
theorem spUnder_any (h : La w rb r S) {k : Nat} (hk : k < 3) {now : Int} (hp : ∀ p ∈ (S.sp k).out, Pok now p) (hf : (S.sp k).out.length ≤ 4096) : Calls Try.prog 21 #[.pointer (some ⟨rb, 2 + k * 5, none⟩)] w fun e w' => e = .returned (.int .i64 (under (S.sp k).out)) ∧ Q w w' := by
  have c := h.hd.out hk
  have ht := h.rs.o k hk
  have hl := ht.len
  clear h
  generalize r (2 * k) = d at *
  generalize 2 + k * 5 = o at *
  generalize (S.sp k).out = l at *
  obtain ⟨a, n, cc⟩ := d
  simp only at hl
  have HT := hid ht
  have HL := hid hl
  have HP := hid hp
  have hn : n ≤ 4096 := by omega
  clear ht hl hp hf
  go_enter Try.func21, Try.ntmps21
  go_wp2
  go_loopw [3, 11] (fun s i wr => ∃ j : Nat, j ≤ n ∧ i = .int .i64 j ∧ s = .int .i64 (under (l.take j)) ∧ Q w wr) (fun _ i _ => n - (intOf i).toNat)
  case atStart => exact ⟨0, Nat.zero_le _, rfl, rfl, Q.refl w⟩
  case round =>
    obtain ⟨j, hj, rfl, rfl, hq⟩ := hrel
    by_cases hlt : j < n
    · have hlt' : (j : Int) < (n : Int) := by omega
      obtain ⟨g, o2, rfl, _, hs⟩ := RowP.at_ (d := ⟨a, n, cc⟩) (l := l) (HT.out.q hq) (k := j) hlt
      have c0 := hs.c0
      have c1 := hs.c1
      have c2 := hs.c2
      have c3 := hs.c3
      have hwi : IntKind.i64.wrap ((j : Int) + 1) = ((j + 1 : Nat) : Int) := by rw [IntKind.wrap_i64]; omega
      have HE := hid (show under (l.take (j + 1)) = under (l.take j) + (l.getD j noPk).s by rw [take_succ_at (d := noPk) (by rw [HL.out]; exact hlt), under_append, under_cons, under_nil]; omega)
      have hu := under_bound (now := now) (l := l.take j) (fun p hp => HP.out p (List.mem_of_mem_take hp))
      have hlen : ((l.take j).length : Int) ≤ 4096 := by simp only [List.length_take]; omega
      have hs1 : 0 ≤ (l.getD j noPk).s ∧ (l.getD j noPk).s ≤ 65535 := by
        have hm : l.getD j noPk ∈ l := by
          rw [List.getD_eq_getElem?_getD, List.getElem?_eq_getElem (by rw [HL.out]; exact hlt)]; exact List.getElem_mem _
        exact ⟨(HP.out _ hm).s0, (HP.out _ hm).s1⟩
      have hws : IntKind.i64.wrap (under (l.take j) + (l.getD j noPk).s) = under (l.take j) + (l.getD j noPk).s := by rw [IntKind.wrap_i64]; omega
      have HQ := hid hq
      clear hs hq hu hlen hs1
      generalize under (l.take j) = U at *
      generalize l.getD j noPk = p at *
      go_wp2
      go_roundw
      case rel => exact ⟨j + 1, by omega, by go_num, by rw [HE.out], (HQ.out.alloc _)⟩
      case measure => simp [intOf]; omega
    · obtain rfl : j = n := by omega
      have HQ := hid hq
      have HE := hid (show under (l.take j) = under l by rw [List.take_of_length_le (by rw [HL.out]; exact Nat.le_refl _)])
      clear hj hlt hq
      go_wp2
      go_ret
      exact ⟨ret_int HE.out, HQ.out⟩

def undA (S : Lo) : Int := under (S.sp 0).out + under (S.sp 1).out + under (S.sp 2).out
set_option maxHeartbeats 1000000 in
theorem under_any {N : Nat} (h : La w rb r S) (hO : Ok N S) : Calls Try.prog 11 #[.pointer (some ⟨rb, 0, none⟩)] w fun e w' => e = .returned (.int .i64 (undA S)) ∧ Q w w' := by
  have U : ∀ k, k < 3 → 0 ≤ under (S.sp k).out ∧ under (S.sp k).out ≤ 65535 * 4096 := fun k hk => by
    have h1 := under_bound (hO.sp k hk).out
    have h2 := (hO.sp k hk).few
    omega
  have u0 := U 0 (by omega)
  have u1 := U 1 (by omega)
  have u2 := U 2 (by omega)
  have C := hid (fun (w1 : World) (q : Q w w1) (k : Nat) (hk : k < 3) => spUnder_any (h.q q) hk (hO.sp k hk).out (hO.sp k hk).few)
  have HE := hid (show undA S = under (S.sp 0).out + under (S.sp 1).out + under (S.sp 2).out from rfl)
  have C0 := hid (fun (w1 : World) (q : Q w w1) => C.out w1 q 0 (by omega))
  have C1 := hid (fun (w1 : World) (q : Q w w1) => C.out w1 q 1 (by omega))
  have C2 := hid (fun (w1 : World) (q : Q w w1) => C.out w1 q 2 (by omega))
  generalize under (S.sp 0).out = U0 at *
  generalize under (S.sp 1).out = U1 at *
  generalize under (S.sp 2).out = U2 at *
  have hw0 : IntKind.i64.wrap (U0 + U1) = U0 + U1 := by rw [IntKind.wrap_i64]; omega
  have hw1 : IntKind.i64.wrap (U0 + U1 + U2) = U0 + U1 + U2 := by rw [IntKind.wrap_i64]; omega
  clear h hO U C
  go_enter Try.func11, Try.ntmps11
  go_wp2
  refine wp_loop_rounds 4 ?_
  rw [rounds_succ]
  go_wp2_with fail
  refine (C0.out w (Q.refl w)).mono ?_
  rintro e w1 ⟨rfl, q1⟩
  have Q1 := hid q1; clear q1
  go_wp2
  rw [rounds_succ]
  go_wp2_with fail
  refine (C1.out w1 Q1.out).mono ?_
  rintro e w2 ⟨rfl, q2⟩
  have Q2 := hid (Q1.out.trans q2); clear q2
  go_wp2
  rw [rounds_succ]
  go_wp2_with fail
  refine (C2.out w2 Q2.out).mono ?_
  rintro e w3 ⟨rfl, q3⟩
  have Q3 := hid (Q2.out.trans q3); clear q3
  go_wp2
  rw [rounds_succ]
  go_wp2
  go_ret
  exact ⟨ret_int HE.out.symm, Q3.out⟩

/-! ### elicits -/
theorem el1_any (p : Pk) (w : World) : Calls Try.prog 42 #[.agg #[.int .i64 p.n, .int .i64 p.s, .int .i64 p.a, .bool p.e]] w fun e w' => e = .returned (.bool p.e) ∧ Q w w' := by
  go_enter Try.func42, Try.ntmps42
  go_wp2
  go_ret
  exact ⟨rfl, (Q.refl w).alloc _⟩

/-- The first that elicits. -/
def fstE (l : List Pk) : Int := match l.findIdx? (·.e) with | none => -1 | some i => i
set_option maxHeartbeats 1000000 in
theorem idx_any {w : World} {d : Sv} {l : List Pk} (ht : RowP w d l) (hf : l.length ≤ 100000) : Calls Try.prog 46 #[.slice d.a d.n d.c, .func (.func 42) #[] #[]] w fun e w' => e = .returned (.int .i64 (fstE l)) ∧ Q w w' := by
  have hl := ht.len
  obtain ⟨a, n, cc⟩ := d
  simp only at hl
  have HT := hid ht
  have HL := hid hl
  have hn : n ≤ 100000 := by omega
  clear ht hl hf
  go_enter Try.func46, Try.ntmps46
  go_wp2
  go_loopw [8] (fun i wr => ∃ j : Nat, j ≤ n ∧ i = .int .i64 j ∧ (∀ i, i < j → (l.getD i noPk).e = false) ∧ Q w wr) (fun i _ => n - (intOf i).toNat)
  case atStart => exact ⟨0, Nat.zero_le _, rfl, fun i hi => by omega, Q.refl w⟩
  case round =>
    obtain ⟨j, hj, rfl, hne, hq⟩ := hrel
    have HNE := hid hne
    clear hne
    by_cases hlt : j < n
    · have hlt' : (j : Int) < (n : Int) := by omega
      obtain ⟨g, o2, rfl, _, hs⟩ := RowP.at_ (d := ⟨a, n, cc⟩) (l := l) (HT.out.q hq) (k := j) hlt
      have c0 := hs.c0
      have c1 := hs.c1
      have c2 := hs.c2
      have c3 := hs.c3
      have hwi : IntKind.i64.wrap ((j : Int) + 1) = ((j + 1 : Nat) : Int) := by rw [IntKind.wrap_i64]; omega
      have HQ := hid hq
      have A := hid (el1_any (l.getD j noPk) wr)
      clear hs hq
      by_cases he : (l.getD j noPk).e = true
      · have HR := hid (show fstE l = (j : Int) by
          have : l.findIdx? (·.e) = some j := by
            rw [List.findIdx?_eq_some_iff_getElem]
            have hj2 : j < l.length := by rw [HL.out]; exact hlt
            refine ⟨hj2, ?_, fun i hi => ?_⟩
            · have := he; rw [List.getD_eq_getElem?_getD, List.getElem?_eq_getElem hj2] at this; exact this
            · have := HNE.out i hi; rw [List.getD_eq_getElem?_getD, List.getElem?_eq_getElem (by omega)] at this; simpa using this
          unfold fstE; rw [this])
        rw [he] at A c3
        clear he
        generalize (l.getD j noPk).n = p1 at *
        generalize (l.getD j noPk).s = p2 at *
        generalize (l.getD j noPk).a = p3 at *
        go_wp2_with (go_at_call 42; refine A.out.mono ?_; rintro e w1 ⟨rfl, q1⟩; have Q1 := hid q1; clear q1)
        go_ret
        exact ⟨ret_int HR.out.symm, HQ.out.trans Q1.out⟩
      · have he' : (l.getD j noPk).e = false := by simpa using he
        have HE := hid he'
        rw [he'] at A c3
        clear he he'
        generalize (l.getD j noPk).n = p1 at *
        generalize (l.getD j noPk).s = p2 at *
        generalize (l.getD j noPk).a = p3 at *
        go_wp2_with (go_at_call 42; refine A.out.mono ?_; rintro e w1 ⟨rfl, q1⟩; have Q1 := hid q1; clear q1)
        go_roundw
        case rel => exact ⟨j + 1, by omega, by go_num, fun i hi => (by
          by_cases e : i = j
          · rw [e]; exact HE.out
          · exact HNE.out i (by omega)), HQ.out.trans Q1.out⟩
        case measure => simp [intOf]; omega
    · obtain rfl : j = n := by omega
      have HQ := hid hq
      have HR := hid (show fstE l = -1 by
        have : l.findIdx? (·.e) = none := by
          rw [List.findIdx?_eq_none_iff]
          intro x hx
          obtain ⟨i, hi, rfl⟩ := List.getElem_of_mem hx
          have := HNE.out i (by rw [← HL.out]; exact hi); rw [List.getD_eq_getElem?_getD, List.getElem?_eq_getElem hi] at this; exact this
        unfold fstE; rw [this])
      clear hj hlt hq
      go_wp2
      go_ret
      exact ⟨ret_int HR.out.symm, HQ.out⟩
theorem fstE_ge (l : List Pk) : (decide (0 ≤ fstE l)) = elic l := by
  unfold fstE elic
  cases h : l.findIdx? (·.e) with
  | none =>
    have h1 := List.findIdx?_eq_none_iff.1 h
    have : l.any (·.e) = false := by simpa using h1
    simp [this]
  | some i =>
    obtain ⟨hi, h1, _⟩ := List.findIdx?_eq_some_iff_getElem.1 h
    have : l.any (·.e) = true := by simp; exact ⟨l[i], List.getElem_mem _, h1⟩
    simp [this]
theorem elic_any {w : World} {d : Sv} {l : List Pk} (ht : RowP w d l) (hf : l.length ≤ 100000) : Calls Try.prog 29 #[.slice d.a d.n d.c] w fun e w' => e = .returned (.bool (elic l)) ∧ Q w w' := by
  have A := hid (idx_any ht hf)
  have HE := hid (fstE_ge l)
  clear ht hf
  have B : Hid (Calls Try.prog 41 #[.slice d.a d.n d.c, .func (.func 42) #[] #[]] w fun e w' => e = .returned (.bool (elic l)) ∧ Q w w') := by
    refine hid ?_
    go_enter Try.func41, Try.ntmps41
    go_wp2_with fail
    refine A.out.mono ?_
    rintro e w1 ⟨rfl, q1⟩
    have Q1 := hid q1; clear q1
    generalize fstE l = q at *
    go_wp2
    go_ret
    exact ⟨ret_bool HE.out, Q1.out⟩
  go_enter Try.func29, Try.ntmps29
  go_wp2_with fail
  refine B.out.mono ?_
  rintro e w1 ⟨rfl, q1⟩
  have Q1 := hid q1; clear q1
  go_wp2
  go_ret
  exact ⟨rfl, Q1.out⟩
end
end Go.Proofs.Ytjhihcmemnhbbaa
