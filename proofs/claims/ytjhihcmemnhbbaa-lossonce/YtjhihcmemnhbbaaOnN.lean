/-
  The law's book against the program's own lists, as plain mathematics: what telling packets leaves of both. No Go in it.
-/
import Derived.Test.YtjhihcmemnhbbaaOnM
namespace Go.Proofs.Ytjhihcmemnhbbaa
set_option linter.unusedVariables false

/-- The sizes of all entries together. -/
def sumB (l : List On) : Int := (l.map (·.s)).sum
def sumP (l : List (Int × Int)) : Int := (l.map Prod.snd).sum
theorem sumB_cons (x : On) (l : List On) : sumB (x :: l) = x.s + sumB l := by simp [sumB]
theorem sumB_append (x y : List On) : sumB (x ++ y) = sumB x + sumB y := by
  induction x with
  | nil => simp [sumB]
  | cons p r ih => rw [List.cons_append, sumB_cons, ih, sumB_cons]; omega
theorem sumB_erase {l : List On} {i : Nat} (h : i < l.length) : sumB (l.eraseIdx i) = sumB l - (l.getD i noOn).s := by
  obtain ⟨e1, e2⟩ := erase_split h
  rw [e2]
  generalize l.getD i noOn = x at *
  have : sumB l = sumB (l.take i ++ x :: l.drop (i + 1)) := by rw [← e1]
  rw [this, sumB_append, sumB_append, sumB_cons]
  omega
theorem atB_lt (l : List On) (k n : Int) (h : 0 ≤ atB l k n l.length) : (atB l k n l.length).toNat < l.length := by
  rcases atB_range l k n l.length with h1 | h1 <;> omega
/-- A list of numbers taken. -/
theorem tk_list (k : Int) : ∀ (ns : List Int) (l : List On) (U : Int), ns.Nodup → ((spB l k).map Prod.fst).Nodup → (∀ n ∈ ns, ∃ s, (n, s) ∈ spB l k) →
    ∃ l' U', tkB k ns l U = (true, l', U') ∧ spB l' k = (spB l k).filter (fun p => !ns.contains p.1) ∧ (∀ k', k' ≠ k → spB l' k' = spB l k') ∧ (∀ x ∈ l', x ∈ l) ∧ U' - sumB l' = U - sumB l
  | [], l, U, _, _, _ => ⟨l, U, rfl, (List.filter_eq_self.2 (fun _ _ => rfl)).symm, fun _ _ => rfl, fun _ h => h, rfl⟩
  | n :: ns, l, U, hn, hd, hin => by
    obtain ⟨h0, h1, h2, h3, h4⟩ := take_one hd (hin n List.mem_cons_self)
    obtain ⟨g1, g2⟩ := List.nodup_cons.1 hn
    have hlt := atB_lt l k n h0
    obtain ⟨l', U', e1, e2, e3, e4, e5⟩ := tk_list k ns (l.eraseIdx (atB l k n l.length).toNat) (U - (l.getD (atB l k n l.length).toNat noOn).s) g2 (by
      rw [h2]
      exact (List.Sublist.map _ List.filter_sublist).nodup hd) (fun m hm => by
      obtain ⟨s, hs⟩ := hin m (List.mem_cons_of_mem _ hm)
      refine ⟨s, ?_⟩
      rw [h2, List.mem_filter]
      refine ⟨hs, ?_⟩
      simp only [ne_eq, decide_not, Bool.not_eq_true', decide_eq_false_iff_not]
      intro e; subst e; exact g1 hm)
    refine ⟨l', U', ?_, ?_, ?_, ?_, ?_⟩
    · rw [tkB, if_neg (by omega), e1]
    · rw [e2, h2, List.filter_filter]
      apply List.filter_congr
      intro x hx
      simp only [List.contains_cons, Bool.not_or]
      rw [Bool.and_comm]
      congr 1
      simp only [ne_eq, decide_not]
      rfl
    · intro k' hk'; rw [e3 k' hk', h3 k' hk']
    · intro x hx; exact List.mem_of_mem_eraseIdx (e4 x hx)
    · rw [e5, sumB_erase hlt]; omega
def pn (p : Pk) : Int × Int := (p.n, p.s)
theorem nodup_inj {P : List Pk} (h : (P.map (·.n)).Nodup) {a b : Pk} (ha : a ∈ P) (hb : b ∈ P) (e : a.n = b.n) : a = b := by
  induction P with
  | nil => cases ha
  | cons x r ih =>
    rw [List.map_cons, List.nodup_cons] at h
    rcases List.mem_cons.1 ha with rfl | ha2
    · rcases List.mem_cons.1 hb with rfl | hb2
      · rfl
      · exact absurd (List.mem_map.2 ⟨b, hb2, e.symm⟩) h.1
    · rcases List.mem_cons.1 hb with rfl | hb2
      · exact absurd (List.mem_map.2 ⟨a, ha2, e⟩) h.1
      · exact ih h.2 ha2 hb2
theorem flt_back {P : List Pk} {f : Pk → Bool} (h : (P.map (·.n)).Nodup) : (P.map pn).filter (fun q => !((P.filter f).map (·.n)).contains q.1) = (P.filter (fun p => !f p)).map pn := by
  rw [List.filter_map]
  congr 1
  apply List.filter_congr
  intro p hp
  show (!((P.filter f).map (·.n)).contains p.n) = !f p
  congr 1
  rw [Bool.eq_iff_iff, List.contains_iff_mem, List.mem_map]
  constructor
  · rintro ⟨q, hq, e⟩
    obtain ⟨hq1, hq2⟩ := List.mem_filter.1 hq
    have : q = p := nodup_inj h hq1 hp e
    rw [← this]; exact hq2
  · intro hf
    exact ⟨p, List.mem_filter.2 ⟨hp, hf⟩, rfl⟩
/-- The book says what the program's lists say. -/
structure BR (S : Lo) (l : List On) (U : Int) : Prop where
  sp : ∀ k : Nat, k < 3 → spB l (k : Int) = (S.sp k).out.map pn
  rng : ∀ x ∈ l, 0 ≤ x.k ∧ x.k < 3
  sum : U = sumB l
  ris : ∀ k, k < 3 → ((S.sp k).out.map (·.n)).Pairwise (· < ·)
  top : ∀ k, k < 3 → ∀ p ∈ (S.sp k).out, p.n ≤ gs (S.sp k).sent
theorem sum_split {l : List On} (h : ∀ x ∈ l, 0 ≤ x.k ∧ x.k < 3) : sumB l = sumP (spB l 0) + sumP (spB l 1) + sumP (spB l 2) ∧ l.length = (spB l 0).length + (spB l 1).length + (spB l 2).length := by
  induction l with
  | nil => exact ⟨rfl, rfl⟩
  | cons x r ih =>
    obtain ⟨h1, h2⟩ := ih (fun y hy => h y (List.mem_cons_of_mem _ hy))
    have hx := h x List.mem_cons_self
    have e : ∀ k, sumP (spB (x :: r) k) = (if x.k = k then x.s else 0) + sumP (spB r k) ∧ (spB (x :: r) k).length = (if x.k = k then 1 else 0) + (spB r k).length := by
      intro k
      rw [spB_cons]
      by_cases hk : x.k = k
      · rw [if_pos hk, if_pos hk, if_pos hk]; simp [sumP]; omega
      · rw [if_neg hk, if_neg hk, if_neg hk]; simp [sumP]
    rw [sumB_cons, h1, (e 0).1, (e 1).1, (e 2).1, (e 0).2, (e 1).2, (e 2).2, List.length_cons, h2]
    rcases (show x.k = 0 ∨ x.k = 1 ∨ x.k = 2 by omega) with e | e | e <;> rw [e] <;> simp <;> omega
theorem sumP_pn (P : List Pk) : sumP (P.map pn) = under P := by
  unfold sumP under; rw [List.map_map]; rfl
theorem BR.und_ {S : Lo} {l : List On} {U : Int} (h : BR S l U) : U = under (S.sp 0).out + under (S.sp 1).out + under (S.sp 2).out := by
  have e0 := h.sp 0 (by omega)
  have e1 := h.sp 1 (by omega)
  have e2 := h.sp 2 (by omega)
  rw [h.sum, (sum_split h.rng).1]
  rw [show spB l 0 = (S.sp 0).out.map pn from e0, show spB l 1 = (S.sp 1).out.map pn from e1, show spB l 2 = (S.sp 2).out.map pn from e2, sumP_pn, sumP_pn, sumP_pn]
theorem BR.few {N : Nat} {S : Lo} {l : List On} {U : Int} (h : BR S l U) (hO : Ok N S) : l.length ≤ 12288 := by
  have e0 := h.sp 0 (by omega)
  have e1 := h.sp 1 (by omega)
  have e2 := h.sp 2 (by omega)
  rw [(sum_split h.rng).2, show spB l 0 = (S.sp 0).out.map pn from e0, show spB l 1 = (S.sp 1).out.map pn from e1, show spB l 2 = (S.sp 2).out.map pn from e2, List.length_map, List.length_map, List.length_map]
  have := (hO.sp 0 (by omega)).few
  have := (hO.sp 1 (by omega)).few
  have := (hO.sp 2 (by omega)).few
  omega
theorem BR.size {N : Nat} {S : Lo} {l : List On} {U : Int} (h : BR S l U) (hO : Ok N S) : ∀ x ∈ l, 0 ≤ x.s ∧ x.s ≤ 65535 := by
  intro x hx
  obtain ⟨r0, r1⟩ := h.rng x hx
  obtain ⟨k, hk⟩ : ∃ k : Nat, x.k = (k : Int) := ⟨x.k.toNat, by omega⟩
  have hk3 : k < 3 := by omega
  have hm : (x.n, x.s) ∈ spB l (k : Int) := by
    unfold spB
    exact List.mem_map.2 ⟨x, List.mem_filter.2 ⟨hx, by simpa using hk⟩, rfl⟩
  rw [h.sp k hk3] at hm
  obtain ⟨p, hp, e⟩ := List.mem_map.1 hm
  have := (hO.sp k hk3).out p hp
  simp only [pn, Prod.mk.injEq] at e
  rw [← e.2]
  exact ⟨this.s0, this.s1⟩
theorem BR.same {S S' : Lo} {l : List On} {U : Int} (h : BR S l U) (ho : ∀ k, k < 3 → (S'.sp k).out = (S.sp k).out) (hs : ∀ k, k < 3 → (S'.sp k).sent = (S.sp k).sent) : BR S' l U :=
  ⟨fun k hk => by rw [h.sp k hk, ho k hk], h.rng, h.sum, fun k hk => by rw [ho k hk]; exact h.ris k hk, fun k hk p hp => by rw [hs k hk]; rw [ho k hk] at hp; exact h.top k hk p hp⟩
theorem ris_nodup {l : List Int} (h : l.Pairwise (· < ·)) : l.Nodup := h.imp_of_mem (fun _ _ e => by omega)
/-- Packets of a space are told. -/
theorem BR.take {S S' : Lo} {l : List On} {U : Int} (h : BR S l U) {j : Nat} (hj : j < 3) (f : Pk → Bool) (ho : (S'.sp j).out = (S.sp j).out.filter (fun p => !f p)) (ho2 : ∀ k, k < 3 → k ≠ j → (S'.sp k).out = (S.sp k).out) (hs : ∀ k, k < 3 → (S'.sp k).sent = (S.sp k).sent) :
    ∃ l' U', tkB (j : Int) (((S.sp j).out.filter f).map (·.n)) l U = (true, l', U') ∧ BR S' l' U' := by
  have hr := h.ris j hj
  have hn := ris_nodup hr
  obtain ⟨l', U', e1, e2, e3, e4, e5⟩ := tk_list (j : Int) (((S.sp j).out.filter f).map (·.n)) l U ((List.Sublist.map _ List.filter_sublist).nodup hn) (by
    rw [h.sp j hj, List.map_map]; exact hn) (fun n hn' => by
    obtain ⟨p, hp, rfl⟩ := List.mem_map.1 hn'
    exact ⟨p.s, by rw [h.sp j hj]; exact List.mem_map.2 ⟨p, (List.mem_filter.1 hp).1, rfl⟩⟩)
  refine ⟨l', U', e1, ?_, fun x hx => h.rng x (e4 x hx), by have := h.sum; omega, ?_, ?_⟩
  · intro k hk
    by_cases e : k = j
    · subst e
      rw [e2, h.sp k hk, flt_back hn, ho]
    · rw [e3 (k : Int) (by omega), h.sp k hk, ho2 k hk e]
  · intro k hk
    by_cases e : k = j
    · subst e
      rw [ho]
      exact List.Pairwise.sublist (List.Sublist.map _ List.filter_sublist) hr
    · rw [ho2 k hk e]; exact h.ris k hk
  · intro k hk p hp
    rw [hs k hk]
    by_cases e : k = j
    · subst e
      rw [ho] at hp
      exact h.top k hk p (List.mem_filter.1 hp).1
    · rw [ho2 k hk e] at hp; exact h.top k hk p hp
theorem spB_none {l : List On} {k : Int} (h : spB l k = []) : ∀ x ∈ l, x.k ≠ k := by
  intro x hx e
  have : (x.n, x.s) ∈ spB l k := by
    unfold spB
    exact List.mem_map.2 ⟨x, List.mem_filter.2 ⟨hx, by simpa using e⟩, rfl⟩
  rw [h] at this
  cases this
theorem br_new (most : Int) : BR (newLo most) [] 0 :=
  ⟨fun k _ => rfl, (fun x hx => by cases hx), rfl, fun k _ => List.Pairwise.nil, (fun k _ p hp => by cases hp)⟩
/-- A packet is sent. -/
theorem BR.sent {N : Nat} {S S' : Lo} {l : List On} {U : Int} (h : BR S l U) (hO : Ok N S) {k : Nat} (hk : k < 3) {n s now : Int} {el : Bool} (hn : gs (S.sp k).sent < n) (hn1 : n ≤ 4611686018427387903) (hn0 : 0 ≤ n) (e1 : S'.sp k = sendS (S.sp k) ⟨n, s, now, el⟩) (e2 : ∀ i, i ≠ k → S'.sp i = S.sp i) (hg : gs (sentL (S.sp k).sent n) = n) :
    BR S' (l ++ [⟨k, n, if el then s else 0⟩]) (U + if el then s else 0) := by
  have hsp : sendP ⟨n, s, now, el⟩ = ⟨n, if el then s else 0, now, el⟩ := by
    unfold sendP; cases el <;> rfl
  refine ⟨fun i hi => ?_, fun x hx => ?_, ?_, fun i hi => ?_, fun i hi p hp => ?_⟩
  · rw [spB_append]
    by_cases e : i = k
    · subst e
      rw [h.sp i hi, e1]
      simp only [sendS, List.map_append, hsp]
      rw [spB_cons, if_pos rfl]; rfl
    · rw [h.sp i hi, e2 i e, spB_cons, if_neg (by simp only; omega)]
      show _ ++ ([] ++ []) = _
      simp
  · rcases List.mem_append.1 hx with hx | hx
    · exact h.rng x hx
    · rw [List.mem_singleton.1 hx]; exact ⟨by show (0 : Int) ≤ (k : Int); omega, by show (k : Int) < 3; omega⟩
  · rw [sumB_append, h.sum]; simp [sumB]
  · by_cases e : i = k
    · subst e
      rw [e1]
      simp only [sendS, List.map_append, List.map_cons, List.map_nil, hsp]
      rw [List.pairwise_append]
      refine ⟨h.ris i hi, by simp, fun a ha b hb => ?_⟩
      obtain ⟨p, hp, rfl⟩ := List.mem_map.1 ha
      rw [List.mem_singleton.1 hb]
      have := h.top i hi p hp
      omega
    · rw [e2 i e]; exact h.ris i hi
  · by_cases e : i = k
    · subst e
      rw [e1] at hp ⊢
      simp only [sendS] at hp ⊢
      rw [hg]
      rcases List.mem_append.1 hp with hp | hp
      · have := h.top i hi p hp; omega
      · rw [List.mem_singleton.1 hp, hsp]; simp
    · rw [e2 i e] at hp ⊢; exact h.top i hi p hp
end Go.Proofs.Ytjhihcmemnhbbaa
