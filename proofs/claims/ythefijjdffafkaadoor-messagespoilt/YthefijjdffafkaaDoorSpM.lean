/-
  A field more in a list: plain mathematics; Sizes in wrapped numbers; a row's beginning and its rest.
-/
import Derived.Test.YthefijjdffafkaaDoorOrM
namespace Go.Proofs.YthefijjdffafkaaDoor
open Go.RowKit
set_option linter.unusedVariables false
set_option maxRecDepth 20000

/-- How many letters a list has. -/
def tot (l : List Fd) : Nat := (l.map fun p => p.1.size + p.2.size).sum
theorem tot_app (a b : List Fd) : tot (a ++ b) = tot a + tot b := by unfold tot; rw [List.map_append, List.sum_append]
theorem tot_snoc {l : List Fd} {k : Nat} {p : Fd} (h : l[k]? = some p) : tot (l.take (k + 1)) = tot (l.take k) + (p.1.size + p.2.size) := by rw [take_snoc h, tot_app]; simp [tot]
theorem tot_take (l : List Fd) (k : Nat) : tot (l.take k) ≤ tot l := by
  conv => rhs; rw [← List.take_append_drop k l]
  rw [tot_app]; exact Nat.le_add_right _ _
theorem wrap_id {n : Int} (h0 : -9223372036854775808 ≤ n) (h1 : n < 9223372036854775808) : RowKit.wrap64 n = n := by unfold RowKit.wrap64; omega
theorem wrap_add (a b : Int) : RowKit.wrap64 (RowKit.wrap64 a + b) = RowKit.wrap64 (a + b) := by unfold RowKit.wrap64; omega
theorem sizS_wrap (l : List Fd) : sizS l = RowKit.wrap64 (tot l : Int) := by
  have key : ∀ (l : List Fd) (a : Int), l.foldl (fun n f => RowKit.wrap64 (n + ((f.1.size : Int) + (f.2.size : Int)))) (RowKit.wrap64 a) = RowKit.wrap64 (a + (tot l : Int)) := by
    intro l
    induction l with
    | nil => intro a; simp [tot]
    | cons p r ih =>
      intro a
      have e : tot (p :: r) = (p.1.size + p.2.size) + tot r := by simp [tot]
      rw [List.foldl_cons, wrap_add, ih, e]
      congr 1
      omega
  have := key l 0
  rw [wrap_id (n := 0) (by decide) (by decide)] at this
  unfold sizS
  rw [this]
  congr 1
  omega
def wsz (l : List Fd) : Int := RowKit.wrap64 ((tot l : Int) + 32 * (l.length : Int))
theorem wsz_nil : wsz [] = 0 := by unfold wsz; exact wrap_id (by decide) (by decide)
theorem wsz_snoc {l : List Fd} {k : Nat} {p : Fd} (h : l[k]? = some p) : wsz (l.take (k + 1)) = RowKit.wrap64 (wsz (l.take k) + ((32 : Int) + (p.1.size : Int) + (p.2.size : Int))) := by
  have hk : k < l.length := (List.getElem?_eq_some_iff.1 h).1
  unfold wsz
  rw [wrap_add, tot_snoc h, List.length_take, List.length_take]
  congr 1
  omega
theorem size_any (p : Fd) (w : World) (h : p.1.size + p.2.size ≤ 4611686018427387904) : Calls Tryd.prog 21 #[.agg #[.string p.1, .string p.2]] w fun e w' => e = .returned (.int .i64 ((32 : Int) + (p.1.size : Int) + (p.2.size : Int))) ∧ Q w w' := by
  obtain ⟨a, b⟩ := p
  dsimp only at h
  have HQ := hid ((Q.refl w).alloc (.cells #[.string a, .string b] 37))
  have h1 : (32 : Int) + (a.size : Int) < 9223372036854775808 := by omega
  have h2 : (32 : Int) + (a.size : Int) + (b.size : Int) < 9223372036854775808 := by omega
  have h3 : -9223372036854775808 ≤ (32 : Int) + (a.size : Int) := by omega
  have h4 : -9223372036854775808 ≤ (32 : Int) + (a.size : Int) + (b.size : Int) := by omega
  clear h
  go_enter Tryd.func21, Tryd.ntmps21
  go_wp2
  go_ret
  exact ⟨rfl, HQ.out⟩
set_option maxHeartbeats 8000000 in
theorem sizes_any (x : Sv) (l : List Fd) (w : World) (h : Fin w x l) : Calls Tryd.prog 14 #[.slice x.a x.n x.c] w fun e w' => e = .returned (.int .i64 (wsz l)) ∧ Q w w' := by
  obtain ⟨xa, xn, xc⟩ := x
  have hl := h.len
  dsimp only at hl
  subst hl
  have HX := hid h
  clear h
  go_enter Tryd.func14, Tryd.ntmps14
  go_wp2_with fail
  go_loopw [3, 4] (fun n i wr => ∃ k : Nat, k ≤ l.length ∧ i = .int .i64 (k : Int) ∧ n = .int .i64 (wsz (l.take k)) ∧ Q w wr) (fun _ i _ => l.length - (intOf i).toNat)
  case atStart => exact ⟨0, by omega, rfl, by rw [List.take_zero, wsz_nil], Q.refl w⟩
  case round =>
    obtain ⟨k, hk, rfl, rfl, hq⟩ := hrel
    have HQ := hid hq
    by_cases hlt : k < l.length
    · obtain ⟨g, off, ⟨p1, p2⟩, ha, hp, c0, c1⟩ := (HX.out.q hq).s.at hlt
      dsimp only at ha
      subst ha
      dsimp only at c0 c1
      have hki : (k : Int) < (l.length : Int) := by omega
      have hk0 : (0 : Int) ≤ (k : Int) := by omega
      have hkb : (k : Int) < 8796093022208 := by have := HX.out.b; omega
      have hd := HX.out.d _ (List.mem_of_getElem? hp)
      have HSZ := hid (size_any (p1, p2) wr (by have := hd.1; have := hd.2; dsimp only at *; omega))
      have HN := hid (wsz_snoc hp)
      clear hq hp hd
      dsimp only at HSZ HN
      generalize wsz (l.take k) = T at *
      generalize (32 : Int) + (p1.size : Int) + (p2.size : Int) = z at *
      go_wp2_with (go_at_call 21; refine HSZ.out.mono ?_; rintro e w1 ⟨rfl, q1⟩; have Q1 := hid (HQ.out.trans q1); clear q1)
      go_roundw
      case rel => exact ⟨k + 1, by omega, by go_num, by first | (rw [HN.out]; done) | (rw [HN.out]; rfl) | (rw [HN.out]; go_num), Q1.out⟩
      case measure => simp [intOf]; omega
    · have hki : ¬ (k : Int) < (l.length : Int) := by omega
      have HE := hid (show l.take k = l from List.take_of_length_le (by omega))
      clear hq
      go_wp2
      go_ret
      exact ⟨by rw [HE.out]; rfl, HQ.out⟩
theorem RowG.take {w : World} {a : Option Addr} {n c k : Nat} {l : List Fd} (h : RowG w ⟨a, n, c⟩ l) (hk : k ≤ n) : RowG w ⟨a, k, c⟩ (l.take k) := by
  have hl : l.length = n := h.len
  have e : (l.take k).flatMap fcl = (l.flatMap fcl).take (k * 2) := by
    have e1 : l.flatMap fcl = (l.take k).flatMap fcl ++ (l.drop k).flatMap fcl := by rw [← List.flatMap_append, List.take_append_drop]
    have e2 : ((l.take k).flatMap fcl).length = k * 2 := by rw [fcl_len, List.length_take]; omega
    rw [e1, ← e2, List.take_left]
  refine ⟨by rw [fcl_len, List.length_take]; show min k l.length * 2 = k * 2; omega, ?_⟩
  rw [e]
  rcases h.2 with ⟨h1, h2, h3⟩ | ⟨g, off, cur, h1, hg, h2, h3, h4, h5⟩
  · have h2' : n = 0 := h2
    exact .inl ⟨h1, by show k = 0; omega, h3⟩
  · refine .inr ⟨g, off, cur, h1, hg, by show k ≤ c; have : n ≤ c := h2; omega, h3, h4, fun j hj => ?_⟩
    have hj' : j < k * 2 := hj
    rw [h5 j (by show j < n * 2; omega), List.getElem?_take, if_pos hj']
theorem RowG.drop {w : World} {a : Option Addr} {n c k : Nat} {l : List Fd} (h : RowG w ⟨a, n, c⟩ l) (hk : k ≤ n) (a' : Option Addr) (ha' : a' = if c = k then a else a.map (·.add (k * 2))) : RowG w ⟨a', n - k, c - k⟩ (l.drop k) := by
  have h1 := Sub.slice h hk a' ha'
  have e : (l.drop k).flatMap fcl = (l.flatMap fcl).drop (k * 2) := by
    have hl : l.length = n := h.len
    have e1 : l.flatMap fcl = (l.take k).flatMap fcl ++ (l.drop k).flatMap fcl := by rw [← List.flatMap_append, List.take_append_drop]
    have e2 : ((l.take k).flatMap fcl).length = k * 2 := by rw [fcl_len, List.length_take]; omega
    rw [e1, ← e2, List.drop_left]
  show Sub _ _ _ _ _ _ ((l.drop k).flatMap fcl)
  rw [e]; exact h1
/-- A field is wrong by itself. -/
def wrgS (p : Fd) : Bool := !nmS p.1 || !vlS p.2 || hopS p
theorem colon_nm {s : ByteArray} (h : psS s = true) : nmS s = false := by
  cases hn : nmS s with
  | false => rfl
  | true =>
    exfalso
    unfold nmS tkS at hn
    simp only [Bool.and_eq_true] at hn
    obtain ⟨⟨_, h2⟩, _⟩ := hn
    unfold allB at h2
    unfold psS at h
    cases hl : s.data.toList with
    | nil => rw [hl] at h; simp at h
    | cons b r =>
      rw [hl] at h h2
      simp at h
      rw [List.all_cons, Bool.and_eq_true, h] at h2
      exact absurd h2.1 (by decide)
theorem line_kn (n : ByteArray) (h : knS n = true) (r : List Fd) : (lineL ++ r).any (fun g => !psS g.1 || eqS g.1 n) = true := by
  rw [List.any_append]
  have : lineL.any (fun g => !psS g.1 || eqS g.1 n) = true := by
    unfold knS at h
    simp only [Bool.or_eq_true] at h
    rcases h with ((h | h) | h) | h <;> rw [(eqS_iff _ _).1 h] <;> decide +kernel
  rw [this]; rfl
theorem plE_no (r : List Fd) (n : ByteArray) : plE (lineL ++ r) n = 182 := by
  unfold plE
  cases h : knS n with
  | false => rfl
  | true => rw [line_kn n h r]; rfl
theorem one_wrong (r : List Fd) (p : Fd) (hl : eqS p.1 kLen = false) : (oneE (lineL ++ r) p ≠ 0) ↔ wrgS p = true := by
  unfold oneE wrgS
  rw [show lnE (lineL ++ r) p = 0 from by unfold lnE; rw [hl]; rfl]
  cases hp : psS p.1 with
  | true =>
    rw [if_pos rfl, plE_no, colon_nm hp]
    simp [orE]
  | false =>
    unfold txE
    rw [hp]
    cases nmS p.1 <;> cases vlS p.2 <;> cases hopS p <;> simp [orE]
theorem one_plain {p1 p2 : List Fd} (h : fnd p1 kLen = fnd p2 kLen) {x : Fd} (hx : psS x.1 = false) : oneE p1 x = oneE p2 x := by
  unfold oneE
  rw [hx]
  have : lnE p1 x = lnE p2 x := by unfold lnE; rw [fnd_snoc, fnd_snoc, h]
  rw [this]
  simp
theorem fold_plain {p1 p2 : List Fd} (h : fnd p1 kLen = fnd p2 kLen) (l : List Fd) (hl : ∀ x ∈ l, psS x.1 = false) (y : Int) : (l.foldl (fun (st : List Fd × Int) f => (st.1 ++ [f], orE st.2 (oneE st.1 f))) (p1, y)).2 = (l.foldl (fun (st : List Fd × Int) f => (st.1 ++ [f], orE st.2 (oneE st.1 f))) (p2, y)).2 := by
  induction l generalizing p1 p2 y with
  | nil => rfl
  | cons x r ih =>
    rw [List.foldl_cons, List.foldl_cons]
    dsimp only
    rw [one_plain h (hl x (by simp))]
    exact ih (by rw [fnd_snoc, fnd_snoc, h]) (fun z hz => hl z (by simp [hz])) _
theorem spoilt_fst (l1 l2 : List Fd) (p : Fd) (hl : eqS p.1 kLen = false) (h0 : fstE (lineL ++ l1 ++ l2) = 0) : (fstE (lineL ++ l1 ++ [p] ++ l2) ≠ 0) ↔ wrgS p = true := by
  have hA : fstE (lineL ++ l1) = 0 := by
    have := fstE_take h0 (lineL ++ l1).length
    rwa [List.take_left] at this
  have hB : ∀ x ∈ l2, psS x.1 = false := by
    intro x hx
    obtain ⟨k, hk⟩ := List.getElem?_of_mem hx
    have hk' : (lineL ++ l1 ++ l2)[(lineL ++ l1).length + k]? = some x := by rw [List.getElem?_append_right (by omega), Nat.add_sub_cancel_left]; exact hk
    have h1 := one_zero h0 hk'
    rw [List.take_length_add_append, List.append_assoc] at h1
    cases hp : psS x.1 with
    | false => rfl
    | true =>
      exfalso
      unfold oneE at h1
      rw [hp, if_pos rfl, plE_no] at h1
      simp [orE] at h1
  have hS : fstE (lineL ++ l1 ++ [p]) = oneE (lineL ++ l1) p := by rw [fstE_snoc, hA, orE_ok rfl]
  rw [fstE_app, hS]
  by_cases hw : oneE (lineL ++ l1) p = 0
  · rw [hw]
    have e : (l2.foldl (fun (st : List Fd × Int) f => (st.1 ++ [f], orE st.2 (oneE st.1 f))) (lineL ++ l1 ++ [p], 0)).2 = 0 := by
      rw [fold_plain (p2 := lineL ++ l1) (by rw [fnd_snoc]; cases fnd (lineL ++ l1) kLen with | some v => rfl | none => simp [hl]) l2 hB 0]
      have := fstE_app (lineL ++ l1) l2
      rw [hA, h0] at this
      exact this.symm
    rw [e]
    have := one_wrong l1 p hl
    rw [hw] at this
    simpa using this
  · have e : (l2.foldl (fun (st : List Fd × Int) f => (st.1 ++ [f], orE st.2 (oneE st.1 f))) (lineL ++ l1 ++ [p], oneE (lineL ++ l1) p)).2 = oneE (lineL ++ l1) p := fstS_stop _ _ _ hw
    rw [e]
    exact one_wrong l1 p hl
theorem spoilt_all (l1 l2 : List Fd) (p : Fd) (c s : Int) (hl : eqS p.1 kLen = false) (hh : eqS p.1 kHos = false) (h0 : chE (lineL ++ l1 ++ l2) c s = 0) (hm : muc (lineL ++ l1 ++ [p] ++ l2) c s = false) : (chE (lineL ++ l1 ++ [p] ++ l2) c s ≠ 0) ↔ wrgS p = true := by
  obtain ⟨_, h1⟩ := orE_zero h0
  obtain ⟨hf, h2⟩ := orE_zero h1
  rw [← spoilt_fst l1 l2 p hl hf]
  have hfn : ∀ n ∈ sixN, n ≠ kLen → n ≠ kHos → ∀ r, fnd (lineL ++ r) n = fnd lineL n := by
    intro n hn h1 h2 r
    rw [fnd_app]
    simp only [sixN, List.mem_cons, List.not_mem_nil, or_false] at hn
    rcases hn with rfl | rfl | rfl | rfl | rfl | rfl
    · rfl
    · rfl
    · rfl
    · rfl
    · exact absurd rfl h2
    · exact absurd rfl h1
  have f1 : ∀ r, fnd (lineL ++ r) kMet = fnd lineL kMet := hfn kMet (by simp [sixN]) (by decide) (by decide)
  have f2 : ∀ r, fnd (lineL ++ r) kSch = fnd lineL kSch := hfn kSch (by simp [sixN]) (by decide) (by decide)
  have f3 : ∀ r, fnd (lineL ++ r) kAut = fnd lineL kAut := hfn kAut (by simp [sixN]) (by decide) (by decide)
  have f4 : ∀ r, fnd (lineL ++ r) kPat = fnd lineL kPat := hfn kPat (by simp [sixN]) (by decide) (by decide)
  have ea : lineL ++ l1 ++ l2 = lineL ++ (l1 ++ l2) := List.append_assoc _ _ _
  have eb : lineL ++ l1 ++ [p] ++ l2 = lineL ++ (l1 ++ [p] ++ l2) := by simp
  have hany : ∀ a : ByteArray, (lineL ++ l1 ++ [p] ++ l2).any (fun f => eqS f.1 kHos && !eqS f.2 a) = (lineL ++ l1 ++ l2).any (fun f => eqS f.1 kHos && !eqS f.2 a) := by
    intro a
    simp only [List.any_append, List.any_cons, List.any_nil, hh, Bool.false_and, Bool.or_false]
  have hrest : orE (metE (lineL ++ l1 ++ [p] ++ l2)) (orE (midE (lineL ++ l1 ++ [p] ++ l2)) (autE (lineL ++ l1 ++ [p] ++ l2))) = 0 := by
    rw [← h2]
    have hw : autW (lineL ++ l1 ++ [p] ++ l2) = autW (lineL ++ l1 ++ l2) := by
      unfold autW
      rw [ea, eb, f3, f3]
      rfl
    unfold metE midE tunE tarE autE metO schO patO
    simp only [hany, hw]
    rw [ea, eb]
    simp only [f1, f2, f3, f4]
  unfold chE
  rw [hm, hrest]
  simp [orE]
end Go.Proofs.YthefijjdffafkaaDoor
