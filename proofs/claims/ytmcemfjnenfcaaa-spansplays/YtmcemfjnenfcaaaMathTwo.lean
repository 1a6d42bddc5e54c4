/-
  Plain facts about lists of spans, continued: the document's own way of laying a span into a list and of cutting a list at a floor comes to the same as the program's. Nothing of the program's model stands here.
-/
import Derived.Test.YtmcemfjnenfcaaaMath
namespace Go.Proofs.Ytmcemfjnenfcaaa
set_option linter.unusedVariables false

theorem drop_cons {xs : List Sp} {k : Nat} (h : k < xs.length) : xs.drop k = xs.getD k (0, 0) :: xs.drop (k + 1) := by
  rw [List.drop_eq_getElem_cons h, List.getD_eq_getElem?_getD, List.getElem?_eq_getElem h]
  rfl

/-- The document's join: over all spans, those that meet or touch. -/
def jnc (f t : Int) : Sp → List Sp → Sp
  | j, [] => j
  | j, x :: r => if f - 1 ≤ x.2 ∧ x.1 ≤ t + 1 then jnc f t (min j.1 x.1, max j.2 x.2) r else jnc f t j r

theorem jnc_append (f t : Int) : ∀ (xs ys : List Sp) (j : Sp), jnc f t j (xs ++ ys) = jnc f t (jnc f t j xs) ys
  | [], _, _ => rfl
  | x :: r, ys, j => by
    simp only [List.cons_append, jnc]
    split
    · exact jnc_append f t r ys _
    · exact jnc_append f t r ys _
theorem jnc_all (f t : Int) : ∀ (xs : List Sp) (j : Sp), (∀ x ∈ xs, f - 1 ≤ x.2 ∧ x.1 ≤ t + 1) → jnc f t j xs = jn j xs
  | [], _, _ => rfl
  | x :: r, j, h => by
    simp only [jnc, jn]
    rw [if_pos (h x (List.mem_cons_self ..))]
    exact jnc_all f t r _ (fun y hy => h y (List.mem_cons_of_mem _ hy))
theorem jnc_none (f t : Int) : ∀ (xs : List Sp) (j : Sp), (∀ x ∈ xs, ¬ (f - 1 ≤ x.2 ∧ x.1 ≤ t + 1)) → jnc f t j xs = j
  | [], _, _ => rfl
  | x :: r, j, h => by
    simp only [jnc]
    rw [if_neg (h x (List.mem_cons_self ..))]
    exact jnc_none f t r _ (fun y hy => h y (List.mem_cons_of_mem _ hy))

theorem jnc_eq {f t lo : Int} {xs : List Sp} (h : Ap lo xs) (hft : f ≤ t) : jnc f t (f, t) xs = jn (f, t) (midL f t xs) := by
  have hp := parts f t xs
  conv => lhs; rw [hp]
  rw [jnc_append, jnc_append, jnc_none f t (lowL f xs) _ (fun x hx => by have := low_all x hx; omega), jnc_all f t (midL f t xs) _ (mid_all h), jnc_none f t (topL f t xs) _ (fun x hx => by have := top_all h x hx; omega)]

theorem ovs_eq {f t lo : Int} {xs : List Sp} (h : Ap lo xs) (hft : f ≤ t) : ovs (f, t) xs = ovs (f, t) (midL f t xs) := by
  have hp := parts f t xs
  conv => lhs; rw [hp]
  rw [ovs_append, ovs_append, ovs_none _ (lowL f xs), ovs_none _ (topL f t xs)]
  · omega
  · intro x hx
    have := top_all h x hx
    simp only [ov]; omega
  · intro x hx
    have := low_all x hx
    simp only [ov]; omega

/-- The document's new list. -/
def pl (one : Sp) : Bool → List Sp → List Sp
  | placed, [] => if placed then [] else [one]
  | placed, x :: r => if one.1 ≤ x.1 ∧ x.2 ≤ one.2 then pl one placed r else if one.2 < x.1 ∧ placed = false then one :: x :: pl one true r else x :: pl one placed r

theorem pl_low (one : Sp) : ∀ (xs ys : List Sp), (∀ x ∈ xs, x.1 < one.1 ∧ x.1 ≤ one.2) → pl one false (xs ++ ys) = xs ++ pl one false ys
  | [], _, _ => rfl
  | x :: r, ys, h => by
    have hx := h x (List.mem_cons_self ..)
    simp only [List.cons_append, pl]
    rw [if_neg (by omega), if_neg (by omega), pl_low one r ys (fun y hy => h y (List.mem_cons_of_mem _ hy))]
theorem pl_mid (one : Sp) (b : Bool) : ∀ (xs ys : List Sp), (∀ x ∈ xs, one.1 ≤ x.1 ∧ x.2 ≤ one.2) → pl one b (xs ++ ys) = pl one b ys
  | [], _, _ => rfl
  | x :: r, ys, h => by
    have hx := h x (List.mem_cons_self ..)
    simp only [List.cons_append, pl]
    rw [if_pos hx, pl_mid one b r ys (fun y hy => h y (List.mem_cons_of_mem _ hy))]
theorem pl_top (one : Sp) : ∀ (xs : List Sp), (∀ x ∈ xs, one.2 < x.2) → pl one true xs = xs
  | [], _ => rfl
  | x :: r, h => by
    have hx := h x (List.mem_cons_self ..)
    simp only [pl]
    rw [if_neg (by omega), if_neg (by simp), pl_top one r (fun y hy => h y (List.mem_cons_of_mem _ hy))]

theorem jn_top {f t lo : Int} {xs : List Sp} (h : Ap lo xs) : ∀ x ∈ topL f t xs, (jn (f, t) (midL f t xs)).2 < x.1 := by
  have hp := parts f t xs
  have hA := (Ap_append (lowL f xs) (midL f t xs ++ topL f t xs) lo).1 (hp ▸ h)
  have hB := (Ap_append (midL f t xs) (topL f t xs) lo).1 hA.2.1
  intro x hx
  rcases (jn_ends (f, t) (midL f t xs)).2 with e | ⟨y, hy, e⟩
  · simp only at e
    have := top_all h x hx
    omega
  · have := (hB.2.2 y hy).mem x hx
    omega

theorem pl_eq {f t lo : Int} {xs : List Sp} (h : Ap lo xs) (hft : f ≤ t) : pl (jn (f, t) (midL f t xs)) false xs = merged f t xs := by
  have hp := parts f t xs
  have hA := (Ap_append (lowL f xs) (midL f t xs ++ topL f t xs) lo).1 (hp ▸ h)
  have hB := (Ap_append (midL f t xs) (topL f t xs) lo).1 hA.2.1
  have htop := jn_top (f := f) (t := t) h
  have hj := jn_le (f, t) (midL f t xs)
  simp only at hj
  conv => lhs; arg 3; rw [hp]
  rw [pl_low, pl_mid _ _ _ _ (jn_mem (f, t) (midL f t xs)), merged]
  · congr 1
    have h2 : ∀ x ∈ topL f t xs, (jn (f, t) (midL f t xs)).2 < x.1 ∧ x.1 ≤ x.2 := fun x hx => ⟨htop x hx, (hB.2.1.mem x hx).2.1⟩
    revert h2
    generalize topL f t xs = R
    intro h2
    cases R with
    | nil => simp [pl]
    | cons x r =>
      have hx := h2 x (List.mem_cons_self ..)
      simp only [pl]
      rw [if_neg (by omega), if_pos ⟨hx.1, trivial⟩, pl_top _ r (fun y hy => by have := h2 y (List.mem_cons_of_mem _ hy); omega)]
  · intro x hx
    have hl := low_all x hx
    have hm := hA.1.mem x hx
    constructor
    · rcases (jn_ends (f, t) (midL f t xs)).1 with e | ⟨y, hy, e⟩
      · simp only at e; omega
      · have := ((Ap_append _ _ _).1 (hA.2.2 x hx)).1.mem y hy
        omega
    · omega

/-- The lowest span goes where there is one too many. -/
def fitF (most floor : Int) (ys : List Sp) : Int := if most < ys.length then (ys.getD 0 (0, 0)).2 + 1 else floor
def fitL (most : Int) (ys : List Sp) : List Sp := if most < ys.length then ys.drop 1 else ys

/-- The set is well formed. -/
structure Ok (most floor : Int) (xs : List Sp) : Prop where
  ap : Ap floor xs
  f0 : 0 ≤ floor
  f1 : floor ≤ 4611686018427387904
  m0 : 1 ≤ most
  m1 : most ≤ 64
  len : xs.length ≤ most

theorem fit_ok {most floor : Int} {ys : List Sp} (h : Ap floor ys) (f0 : 0 ≤ floor) (f1 : floor ≤ 4611686018427387904) (m0 : 1 ≤ most) (m1 : most ≤ 64) (hl : ys.length ≤ most + 1) : Ok most (fitF most floor ys) (fitL most ys) := by
  unfold fitF fitL
  by_cases hc : most < ys.length
  · rw [if_pos hc, if_pos hc]
    cases ys with
    | nil => simp at hc; omega
    | cons y r =>
      simp only [List.getD_cons_zero, List.drop_succ_cons, List.drop_zero]
      obtain ⟨a, b, c, d⟩ := h
      exact ⟨d.mono (by omega), by omega, by omega, m0, m1, by simp only [List.length_cons] at hl; omega⟩
  · rw [if_neg hc, if_neg hc]
    exact ⟨h, f0, f1, m0, m1, by omega⟩

/-- A number is had. -/
def had (floor : Int) (xs : List Sp) (n : Int) : Prop := (0 ≤ n ∧ n < floor) ∨ inL xs n

theorem fit_had {most floor : Int} {ys : List Sp} (h : Ap floor ys) (f0 : 0 ≤ floor) (hy : 0 < ys.length) {n : Int} (hn : had floor ys n) : had (fitF most floor ys) (fitL most ys) n := by
  unfold fitF fitL
  by_cases hc : most < ys.length
  · rw [if_pos hc, if_pos hc]
    cases ys with
    | nil => simp at hy
    | cons y r =>
      simp only [List.getD_cons_zero, List.drop_succ_cons, List.drop_zero]
      obtain ⟨a, b, c, d⟩ := h
      rcases hn with hn | ⟨x, hx, h1, h2⟩
      · exact .inl (by omega)
      · rcases List.mem_cons.1 hx with rfl | hx
        · exact .inl (by omega)
        · exact .inr ⟨x, hx, h1, h2⟩
  · rw [if_neg hc, if_neg hc]
    exact hn

theorem fitF_ge {most floor : Int} {ys : List Sp} (h : Ap floor ys) (m0 : 1 ≤ most) : floor ≤ fitF most floor ys := by
  unfold fitF
  split
  · next hc =>
    cases ys with
    | nil => simp at hc; omega
    | cons y r => simp only [List.getD_cons_zero]; have := h.1; have := h.2.1; omega
  · exact Int.le_refl _

/-- What Add tells and leaves. -/
def adE (f t : Int) : Int := if f < 0 ∨ t < f ∨ 4611686018427387903 < t then 21 else 0
/-- Add lays a span. -/
abbrev lays (floor f t : Int) : Prop := (0 ≤ f ∧ f ≤ t ∧ t ≤ 4611686018427387903) ∧ max f floor ≤ t
def adN (floor f t : Int) (xs : List Sp) : Int := if lays floor f t then t - max f floor + 1 - ovs (max f floor, t) (midL (max f floor) t xs) else 0
def adF (most floor f t : Int) (xs : List Sp) : Int := if lays floor f t then fitF most floor (merged (max f floor) t xs) else floor
def adL (most floor f t : Int) (xs : List Sp) : List Sp := if lays floor f t then fitL most (merged (max f floor) t xs) else xs

theorem ad_ok {most floor : Int} {xs : List Sp} (h : Ok most floor xs) (f t : Int) : Ok most (adF most floor f t xs) (adL most floor f t xs) := by
  unfold adF adL
  by_cases hl : lays floor f t
  · rw [if_pos hl, if_pos hl]
    have hm := merged_len (max f floor) t xs
    have := h.len
    exact fit_ok (merged_ap h.ap (by omega) hl.2 hl.1.2.2) h.f0 h.f1 h.m0 h.m1 (by omega)
  · rw [if_neg hl, if_neg hl]; exact h

theorem ad_floor {most floor : Int} {xs : List Sp} (h : Ok most floor xs) (f t : Int) : floor ≤ adF most floor f t xs := by
  unfold adF
  by_cases hl : lays floor f t
  · rw [if_pos hl]
    exact fitF_ge (merged_ap h.ap (by omega) hl.2 hl.1.2.2) h.m0
  · rw [if_neg hl]; exact Int.le_refl _

theorem adE_zero {f t : Int} : adE f t = 0 ↔ 0 ≤ f ∧ f ≤ t ∧ t ≤ 4611686018427387903 := by
  unfold adE; split <;> omega
theorem adE_two (f t : Int) : adE f t = 0 ∨ adE f t = 21 := by
  unfold adE; split <;> simp

theorem ad_had {most floor : Int} {xs : List Sp} (h : Ok most floor xs) (f t : Int) {n : Int} (hn : had floor xs n ∨ (adE f t = 0 ∧ f ≤ n ∧ n ≤ t)) : had (adF most floor f t xs) (adL most floor f t xs) n := by
  unfold adF adL
  by_cases hl : lays floor f t
  · rw [if_pos hl, if_pos hl]
    have ha : Ap floor (merged (max f floor) t xs) := merged_ap h.ap (by omega) hl.2 hl.1.2.2
    refine fit_had ha h.f0 (merged_pos _ _ _) ?_
    have hi := merged_in h.ap hl.2 n
    rcases hn with (hn | hn) | ⟨he, h1, h2⟩
    · exact .inl hn
    · exact .inr (hi.2 (.inl hn))
    · by_cases hf : n < floor
      · exact .inl ⟨by have := hl.1; omega, hf⟩
      · exact .inr (hi.2 (.inr (by omega)))
  · rw [if_neg hl, if_neg hl]
    rcases hn with hn | ⟨he, h1, h2⟩
    · exact hn
    · have := adE_zero.1 he
      refine .inl ⟨by omega, ?_⟩
      unfold lays at hl
      omega

/-- As long as the floor stays, had is just what was had or is laid. -/
theorem ad_had_iff {most floor : Int} {xs : List Sp} (h : Ok most floor xs) (f t : Int) (hz : adF most floor f t xs = floor) (n : Int) :
    had (adF most floor f t xs) (adL most floor f t xs) n ↔ had floor xs n ∨ (adE f t = 0 ∧ f ≤ n ∧ n ≤ t) := by
  constructor
  · intro hh
    rw [hz] at hh
    unfold adF at hz
    unfold adL at hh
    by_cases hl : lays floor f t
    · rw [if_pos hl] at hh hz
      have hE : adE f t = 0 := adE_zero.2 hl.1
      have hc : ¬ most < (merged (max f floor) t xs).length := by
        intro hc
        unfold fitF at hz
        rw [if_pos hc] at hz
        have ha : Ap floor (merged (max f floor) t xs) := merged_ap h.ap (by omega) hl.2 hl.1.2.2
        obtain ⟨ys, hys⟩ : ∃ ys, merged (max f floor) t xs = ys := ⟨_, rfl⟩
        rw [hys] at hz ha hc
        cases ys with
        | nil => have := h.m0; simp at hc; omega
        | cons y r => have := ha.1; have := ha.2.1; simp only [List.getD_cons_zero] at hz; omega
      unfold fitL at hh
      rw [if_neg hc] at hh
      rcases hh with hh | hh
      · exact .inl (.inl hh)
      · rcases (merged_in h.ap hl.2 n).1 hh with hh | hh
        · exact .inl (.inr hh)
        · exact .inr ⟨hE, by omega, hh.2⟩
    · rw [if_neg hl] at hh
      exact .inl hh
  · exact ad_had h f t

/-- The count: what was fresh all in all is no more than the numbers below the floor and in the spans. -/
theorem ad_tot {most floor : Int} {xs : List Sp} (h : Ok most floor xs) (f t : Int) :
    floor + tot xs + adN floor f t xs ≤ adF most floor f t xs + tot (adL most floor f t xs) ∧ (adF most floor f t xs = floor → tot (adL most floor f t xs) = tot xs + adN floor f t xs) := by
  unfold adF adL adN
  by_cases hl : lays floor f t
  · rw [if_pos hl, if_pos hl, if_pos hl]
    have ha : Ap floor (merged (max f floor) t xs) := merged_ap h.ap (by omega) hl.2 hl.1.2.2
    have ht := merged_tot h.ap hl.2
    have ht' : tot xs + (t - max f floor + 1 - ovs (max f floor, t) (midL (max f floor) t xs)) = tot (merged (max f floor) t xs) := ht.symm
    rw [show floor + tot xs + (t - max f floor + 1 - ovs (max f floor, t) (midL (max f floor) t xs)) = floor + tot (merged (max f floor) t xs) by rw [← ht']; omega, ht']
    clear ht ht'
    revert ha
    generalize merged (max f floor) t xs = ys
    intro ha
    unfold fitF fitL
    by_cases hc : most < ys.length
    · rw [if_pos hc, if_pos hc]
      cases ys with
      | nil => have := h.m0; simp at hc; omega
      | cons y r =>
        have h1 := ha.1
        have h2 := ha.2.1
        simp only [List.getD_cons_zero, List.drop_succ_cons, List.drop_zero, tot]
        omega
    · rw [if_neg hc, if_neg hc]
      exact ⟨Int.le_refl _, fun _ => rfl⟩
  · rw [if_neg hl, if_neg hl, if_neg hl]
    omega

theorem Ap.tot_le : ∀ {xs : List Sp} {lo : Int}, Ap lo xs → lo ≤ 4611686018427387904 → 0 ≤ tot xs ∧ lo + tot xs ≤ 4611686018427387905
  | [], lo, _, h => by simp only [tot]; omega
  | x :: r, lo, ⟨a, b, c, d⟩, h => by
    cases r with
    | nil => simp only [tot]; omega
    | cons y s =>
      have := d.1
      have := d.2.1
      have := d.2.2.1
      have ih := d.tot_le (by omega)
      have e3 : tot (x :: y :: s) = x.2 - x.1 + 1 + tot (y :: s) := rfl
      rw [e3]
      omega

theorem adN_pos {most floor : Int} {xs : List Sp} (h : Ok most floor xs) (f t : Int) : 0 ≤ adN floor f t xs ∧ adN floor f t xs ≤ 4611686018427387904 := by
  unfold adN
  by_cases hl : lays floor f t
  · rw [if_pos hl]
    have hap : Ap floor (midL (max f floor) t xs) := (h.ap.drop _).take _
    have := ovs_fit (max f floor) t (midL (max f floor) t xs) floor hap hl.2
    have := ovs_pos (max f floor, t) (midL (max f floor) t xs)
    have := hl.1
    have := h.f0
    omega
  · rw [if_neg hl]; omega

/-- What was laid is fresh no more. -/
theorem ad_again {most floor : Int} {xs : List Sp} (h : Ok most floor xs) (f t : Int) : adN (adF most floor f t xs) f t (adL most floor f t xs) = 0 := by
  have hok := ad_ok h f t
  by_cases hl : lays floor f t
  · have ha : Ap floor (merged (max f floor) t xs) := merged_ap h.ap (by omega) hl.2 hl.1.2.2
    have hge := ad_floor h f t
    have hpos := (adN_pos hok f t).1
    by_cases hl2 : lays (adF most floor f t xs) f t
    · have hex : ∃ x ∈ adL most floor f t xs, x.1 ≤ max f (adF most floor f t xs) ∧ t ≤ x.2 := by
        have hj := jn_le (max f floor, t) (midL (max f floor) t xs)
        simp only at hj
        unfold adL
        rw [if_pos hl]
        have hfl : adF most floor f t xs = fitF most floor (merged (max f floor) t xs) := by unfold adF; rw [if_pos hl]
        have hmem : jn (max f floor, t) (midL (max f floor) t xs) ∈ merged (max f floor) t xs := by simp [merged]
        revert hmem hj
        generalize jn (max f floor, t) (midL (max f floor) t xs) = J
        intro hj hmem
        unfold fitL
        by_cases hc : most < (merged (max f floor) t xs).length
        · rw [if_pos hc]
          unfold fitF at hfl
          rw [if_pos hc] at hfl
          have h2 := hl2.2
          revert hfl hmem hc ha
          generalize merged (max f floor) t xs = ys
          intro ha hfl hmem hc
          cases ys with
          | nil => cases hmem
          | cons y r =>
            simp only [List.getD_cons_zero] at hfl
            simp only [List.drop_succ_cons, List.drop_zero]
            rcases List.mem_cons.1 hmem with rfl | hm
            · omega
            · exact ⟨J, hm, by omega, hj.2⟩
        · rw [if_neg hc]
          exact ⟨J, hmem, by omega, hj.2⟩
      obtain ⟨x, hx, h1, h2⟩ := hex
      have hxm : x ∈ midL (max f (adF most floor f t xs)) t (adL most floor f t xs) := by
        have hp := parts (max f (adF most floor f t xs)) t (adL most floor f t xs)
        rw [hp] at hx
        have e2 := hl2.2
        rcases List.mem_append.1 hx with hx | hx
        · have := low_all x hx; omega
        · rcases List.mem_append.1 hx with hx | hx
          · exact hx
          · have := top_all hok.ap x hx; omega
      have hov := ovs_mem (max f (adF most floor f t xs), t) _ x hxm
      have e2 := hl2.2
      unfold adN at hpos ⊢
      rw [if_pos hl2] at hpos ⊢
      have : ov (max f (adF most floor f t xs), t) x = t - max f (adF most floor f t xs) + 1 := by
        simp only [ov]; omega
      omega
    · unfold adN; rw [if_neg hl2]
  · have e1 : adF most floor f t xs = floor := by unfold adF; rw [if_neg hl]
    rw [e1]
    unfold adN; rw [if_neg hl]

/-- Raise, as the program does it, and as the document does it. -/
def rzE (fl : Int) : Int := if fl < 0 ∨ 4611686018427387903 < fl then 21 else 0
def nG (fl : Int) (xs : List Sp) : Nat := cnt (fun x => decide (x.2 < fl)) xs
def cutH (fl : Int) : List Sp → List Sp
  | [] => []
  | x :: r => (max x.1 fl, x.2) :: r
def cutL (fl : Int) (xs : List Sp) : List Sp := cutH fl (xs.drop (nG fl xs))
def rz (fl : Int) : List Sp → List Sp
  | [] => []
  | x :: r => if x.2 < fl then rz fl r else (max x.1 fl, x.2) :: rz fl r

theorem rz_above (fl : Int) : ∀ (xs : List Sp), (∀ x ∈ xs, fl ≤ x.1 ∧ x.1 ≤ x.2) → rz fl xs = xs
  | [], _ => rfl
  | x :: r, h => by
    have hx := h x (List.mem_cons_self ..)
    simp only [rz]
    rw [if_neg (by omega), rz_above fl r (fun y hy => h y (List.mem_cons_of_mem _ hy)), show max x.1 fl = x.1 by omega]

theorem rz_eq (fl : Int) : ∀ (xs : List Sp) (lo : Int), Ap lo xs → rz fl xs = cutL fl xs
  | [], _, _ => rfl
  | x :: r, lo, ⟨a, b, c, d⟩ => by
    by_cases h : x.2 < fl
    · have ih := rz_eq fl r _ d
      simp only [rz]
      rw [if_pos h, ih]
      simp [cutL, nG, cnt, h]
    · simp only [rz]
      rw [if_neg h, rz_above fl r (fun y hy => by have := d.mem y hy; omega)]
      simp [cutL, nG, cnt, h, cutH]

abbrev rzUp (floor fl : Int) : Prop := (0 ≤ fl ∧ fl ≤ 4611686018427387903) ∧ floor < fl
def rzF (floor fl : Int) : Int := if rzUp floor fl then fl else floor
def rzL (floor fl : Int) (xs : List Sp) : List Sp := if rzUp floor fl then cutL fl xs else xs

theorem cutL_len (fl : Int) (xs : List Sp) : (cutL fl xs).length ≤ xs.length := by
  unfold cutL
  have : ∀ ys : List Sp, (cutH fl ys).length = ys.length := by intro ys; cases ys <;> rfl
  rw [this, List.length_drop]; omega

theorem rz_ap (fl : Int) : ∀ (xs : List Sp) (lo : Int), Ap lo xs → Ap fl (rz fl xs)
  | [], _, _ => trivial
  | x :: r, lo, ⟨a, b, c, d⟩ => by
    by_cases h : x.2 < fl
    · simp only [rz]; rw [if_pos h]; exact rz_ap fl r _ d
    · simp only [rz]; rw [if_neg h, rz_above fl r (fun y hy => by have := d.mem y hy; omega)]
      exact ⟨by simp only; omega, by simp only; omega, c, d⟩

theorem rz_ok {most floor : Int} {xs : List Sp} (h : Ok most floor xs) (fl : Int) : Ok most (rzF floor fl) (rzL floor fl xs) := by
  unfold rzF rzL
  by_cases hu : rzUp floor fl
  · rw [if_pos hu, if_pos hu]
    have := hu.1
    refine ⟨?_, by omega, by omega, h.m0, h.m1, by have := cutL_len fl xs; have := h.len; omega⟩
    rw [← rz_eq fl xs floor h.ap]
    exact rz_ap fl xs floor h.ap
  · rw [if_neg hu, if_neg hu]; exact h

theorem rz_in (fl : Int) : ∀ (xs : List Sp), ∀ n, fl ≤ n → (inL (rz fl xs) n ↔ inL xs n)
  | [], n, _ => Iff.rfl
  | x :: r, n, hn => by
    have ih := rz_in fl r n hn
    simp only [rz]
    split
    · rw [ih, inL_cons]
      constructor
      · exact .inr
      · rintro (h | h)
        · omega
        · exact h
    · rw [inL_cons, inL_cons, ih]
      simp only
      constructor
      · rintro (h | h)
        · exact .inl (by omega)
        · exact .inr h
      · rintro (h | h)
        · exact .inl (by omega)
        · exact .inr h

theorem rz_had {most floor : Int} {xs : List Sp} (h : Ok most floor xs) (fl : Int) {n : Int} (hn : had floor xs n) : had (rzF floor fl) (rzL floor fl xs) n := by
  unfold rzF rzL
  by_cases hu : rzUp floor fl
  · rw [if_pos hu, if_pos hu]
    have := hu.2
    by_cases hf : n < fl
    · refine .inl ⟨?_, hf⟩
      rcases hn with hn | ⟨x, hx, h1, h2⟩
      · exact hn.1
      · have := h.ap.mem x hx; have := h.f0; omega
    · rcases hn with hn | hn
      · omega
      · refine .inr ?_
        rw [← rz_eq fl xs floor h.ap]
        exact (rz_in fl xs n (by omega)).2 hn
  · rw [if_neg hu, if_neg hu]; exact hn
theorem rz_floor (floor fl : Int) : floor ≤ rzF floor fl := by
  unfold rzF; split
  · next h => exact Int.le_of_lt h.2
  · exact Int.le_refl _

end Go.Proofs.Ytmcemfjnenfcaaa
