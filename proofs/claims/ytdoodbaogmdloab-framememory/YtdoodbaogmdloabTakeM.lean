/-
  What is read ahead of a place is read from the bytes ahead of it too. Plain mathematics. Nothing is proved of a statement here.
-/
import Derived.Test.YtdoodbaogmdloabFrs
namespace Go.Proofs.Ytdoodbaogmdloab
open Go.RowKit
set_option linter.unusedVariables false
set_option maxRecDepth 20000

section
variable {zs : List Int} {N : Nat} {p q : Int}
theorem Pl.take (hp : Pl zs p) (hN : p ≤ N) (hl : N ≤ zs.length) : Pl (zs.take N) p := ⟨fun y hy => hp.hz y (List.mem_of_mem_take hy), hp.h0, by rw [List.length_take]; omega⟩
theorem numO_take {m : Int} (hp : Pl zs p) (h : numO zs p = .ok m q) (hq : q ≤ N) (hl : N ≤ zs.length) : numO (zs.take N) p = .ok m q := by
  have hg := numO_pl hp h
  have hp0 := hp.h0
  obtain ⟨⟨m', q', f⟩, hx⟩ : ∃ x, rd zs p = x := ⟨_, rfl⟩
  unfold numO at h
  rw [hx] at h
  dsimp only at h
  by_cases hf : f = 0
  · rw [if_pos hf] at h
    cases h
    subst hf
    have hx' := hx
    unfold rd at hx
    rw [if_neg (by have := hp.h1; omega)] at hx
    rcases rdAt_ok hx with ⟨_, x, r, hd, hw, hm, hqq⟩ | ⟨h, _⟩
    · have e : rd (zs.take N) p = (m, q, 0) := by
        unfold rd
        rw [if_neg (by rw [List.length_take]; omega)]
        have hdt : (zs.take N).drop p.toNat = (x :: r).take (N - p.toNat) := by rw [List.drop_take, hd]
        rw [hdt]
        have hlen : (x :: r).length = zs.length - p.toNat := by rw [← hd, List.length_drop]
        obtain ⟨k, hk⟩ : ∃ k, N - p.toNat = k + 1 := ⟨N - p.toNat - 1, by omega⟩
        rw [hk, List.take_succ_cons, rdAt]
        have hwk : width x ≤ k + 1 := by omega
        rw [if_neg (by rw [List.length_take]; simp at hlen hw; omega)]
        rw [List.take_take, Nat.min_eq_left (by omega), hm, hqq]
      unfold numO
      rw [e]
      rfl
    · omega
  · rw [if_neg hf] at h; cases h
theorem someO_take {k : Int} {d : List Int} (hp : Pl zs p) (h : someO zs p k = .ok d q) (hq : q ≤ N) (hl : N ≤ zs.length) : someO (zs.take N) p k = .ok d q := by
  have hg := someO_pl hp h
  have hp0 := hp.h0
  rw [someO_ok hg.2.2.1 (by rw [List.length_take]; omega)]
  rw [hg.2.2.2.1, hg.2.2.2.2.1]
  congr 1
  rw [List.drop_take, List.take_take, Nat.min_eq_left (by omega)]
theorem oneO_take {m : Int} (hp : Pl zs p) (h : oneO zs p = .ok m q) (hq : q ≤ N) (hl : N ≤ zs.length) : oneO (zs.take N) p = .ok m q := by
  have hg := oneO_pl hp h
  have hp0 := hp.h0
  unfold oneO
  have e : takeR (zs.take N) p 0 1 = (((zs.take N).drop p.toNat).take 1, p + 1, 0) := by
    unfold takeR
    rw [if_neg (by simp), if_neg (by omega), if_neg (by rw [List.length_take]; omega)]
    rfl
  rw [e]
  dsimp only
  rw [if_pos rfl, hg.2.1, hg.2.2.1]
  congr 1
  simp only [List.getD_eq_getElem?_getD, List.getElem?_take, List.getElem?_drop]
  rw [if_pos (by omega), Nat.add_zero, if_pos (by omega)]
theorem downO_take {fr a : Int} (hp : Pl zs p) (h : downO zs p fr = .ok a q) (hq : q ≤ N) (hl : N ≤ zs.length) : downO (zs.take N) p fr = .ok a q := by
  obtain ⟨m, q', h1, h2⟩ := Out.bind_ok h
  have e : q' = q := by
    by_cases hc : fr - m < 0
    · rw [if_pos hc] at h2; cases h2
    · rw [if_neg hc] at h2; cases h2; rfl
  subst e
  unfold downO
  rw [numO_take hp h1 hq hl]
  exact h2
theorem spanO_take {to : Int} {s : Int × Int} (hp : Pl zs p) (h : spanO zs p to = .ok s q) (hq : q ≤ N) (hl : N ≤ zs.length) : spanO (zs.take N) p to = .ok s q := by
  obtain ⟨m, q', h1, h2⟩ := Out.bind_ok h
  cases h2
  unfold spanO
  rw [downO_take hp h1 hq hl]
  rfl
theorem downsO_take : ∀ {n : Nat} {acc l : List (Int × Int)} {p q : Int}, Pl zs p → downsO zs n acc p = .ok l q → q ≤ N → N ≤ zs.length → downsO (zs.take N) n acc p = .ok l q := by
  intro n
  induction n with
  | zero => intro acc l p q hp h _ _; exact h
  | succ n ih =>
    intro acc l p q hp h hq hl
    obtain ⟨t, q1, h1, h2⟩ := Out.bind_ok h
    have hh := downO_pl hp h1
    obtain ⟨s, q2, h3, h4⟩ := Out.bind_ok h2
    have hg := spanO_pl hh.1 h3
    have hd := downsO_pl hg.1 h4
    rw [downsO, downO_take hp h1 (by omega) hl]
    show (spanO _ _ _).bind _ = _
    rw [spanO_take hh.1 h3 (by omega) hl]
    exact ih hg.1 h4 hq hl
theorem leadsO_take {l : List Nat} : ∀ {f f' : Fr} {p q : Int}, Pl zs p → leadsO zs l f p = .ok f' q → q ≤ N → N ≤ zs.length → leadsO (zs.take N) l f p = .ok f' q := by
  induction l with
  | nil => intro f f' p q hp h _ _; exact h
  | cons o r ih =>
    intro f f' p q hp h hq hl
    obtain ⟨x, q', hn, h2⟩ := Out.bind_ok h
    have hh := numO_pl hp hn
    have h3 := leadsO_pl hh.1 h2
    rw [leadsO, numO_take hp hn (by omega) hl]
    exact ih hh.1 h2 hq hl
theorem lastO_take {k : Int} {f f' : Fr} (hp : Pl zs p) (h : lastO zs k f p = .ok f' q) (hq : q ≤ N) (hl : N ≤ zs.length) : lastO (zs.take N) k f p = .ok f' q := by
  unfold lastO at h ⊢
  by_cases h6 : k = 6 ∨ k = 7 ∨ k = 28 ∨ k = 29
  · rw [if_pos h6] at h ⊢
    obtain ⟨n, q1, g1, h⟩ := Out.bind_ok h
    have k1 := numO_pl hp g1
    obtain ⟨d, q2, g2, h⟩ := Out.bind_ok h
    have k2 := someO_pl k1.1 g2
    cases h
    rw [numO_take hp g1 (by omega) hl]
    show (someO _ _ _).bind _ = _
    rw [someO_take k1.1 g2 hq hl]
    rfl
  rw [if_neg h6] at h ⊢
  by_cases h24 : k = 24
  · rw [if_pos h24] at h ⊢
    obtain ⟨n, q1, g1, h⟩ := Out.bind_ok h
    have k1 := oneO_pl hp g1
    obtain ⟨c, q2, g2, h⟩ := Out.bind_ok h
    have k2 := someO_pl k1.1 g2
    obtain ⟨d, q3, g3, h⟩ := Out.bind_ok h
    have k3 := someO_pl k2.1 g3
    cases h
    rw [oneO_take hp g1 (by omega) hl]
    show (someO _ _ _).bind _ = _
    rw [someO_take k1.1 g2 (by omega) hl]
    show (someO _ _ _).bind _ = _
    rw [someO_take k2.1 g3 hq hl]
    rfl
  rw [if_neg h24] at h ⊢
  by_cases h26 : k = 26 ∨ k = 27
  · rw [if_pos h26] at h ⊢
    obtain ⟨d, q2, g2, h⟩ := Out.bind_ok h
    cases h
    rw [someO_take hp g2 hq hl]
    rfl
  · rw [if_neg h26] at h ⊢
    exact h
theorem ackO_take {k : Int} {f : Fr} (hp : Pl zs p) (h : ackO zs p k = .ok f q) (hq : q ≤ N) (hl : N ≤ zs.length) : ackO (zs.take N) p k = .ok f q := by
  obtain ⟨to, q1, h1, h⟩ := Out.bind_ok h
  have g1 := numO_pl hp h1
  obtain ⟨dl, q2, h2, h⟩ := Out.bind_ok h
  have g2 := numO_pl g1.1 h2
  obtain ⟨o, q3, h3, h⟩ := Out.bind_ok h
  have g3 := numO_pl g2.1 h3
  unfold ack3 at h
  by_cases h64 : 64 ≤ o
  · rw [if_pos h64] at h; cases h
  rw [if_neg h64] at h
  obtain ⟨s, q4, h4, h⟩ := Out.bind_ok h
  have g4 := spanO_pl g3.1 h4
  obtain ⟨l, q5, h5, h⟩ := Out.bind_ok h
  have g5 := downsO_pl g4.1 h5
  have key : q5 ≤ N → ack5 (zs.take N) k dl l q5 = .ok f q → ackO (zs.take N) p k = .ok f q := by
    intro hq5 h6
    unfold ackO
    rw [numO_take hp h1 (by omega) hl]
    show (numO _ _).bind _ = _
    rw [numO_take g1.1 h2 (by omega) hl]
    show (numO _ _).bind _ = _
    rw [numO_take g2.1 h3 (by omega) hl]
    show ack3 _ _ _ _ _ _ = _
    unfold ack3
    rw [if_neg h64, spanO_take g3.1 h4 (by omega) hl]
    show (downsO _ _ _ _).bind _ = _
    rw [downsO_take g4.1 h5 (by omega) hl]
    exact h6
  unfold ack5 at h
  by_cases hk : k = 3
  · rw [if_pos hk] at h
    obtain ⟨e0, q6, h6, h⟩ := Out.bind_ok h
    have g6 := numO_pl g5.1 h6
    obtain ⟨e1, q7, h7, h⟩ := Out.bind_ok h
    have g7 := numO_pl g6.1 h7
    obtain ⟨e2, q8, h8, h⟩ := Out.bind_ok h
    have g8 := numO_pl g7.1 h8
    cases h
    refine key (by omega) ?_
    unfold ack5
    rw [if_pos hk, numO_take g5.1 h6 (by omega) hl]
    show (numO _ _).bind _ = _
    rw [numO_take g6.1 h7 (by omega) hl]
    show (numO _ _).bind _ = _
    rw [numO_take g7.1 h8 (by omega) hl]
    rfl
  · rw [if_neg hk] at h
    cases h
    refine key hq ?_
    unfold ack5
    rw [if_neg hk]
/-- A stream frame that ends ahead of the bytes' end has its length. -/
theorem strmO_take {fin at_ ln : Bool} {f : Fr} (hp : Pl zs p) (h : strmO zs p fin at_ ln = .ok f q) (hq : q ≤ N) (hN : N < zs.length) : strmO (zs.take N) p fin at_ ln = .ok f q := by
  have hl : N ≤ zs.length := by omega
  obtain ⟨id, q1, h1, h⟩ := Out.bind_ok h
  have g1 := numO_pl hp h1
  obtain ⟨pl, q2, h2, h⟩ := Out.bind_ok h
  have g2 : Pl zs q2 ∧ q1 ≤ q2 := by
    cases at_ with
    | true => have := numO_pl g1.1 (show numO zs q1 = .ok pl q2 from h2); exact ⟨this.1, by omega⟩
    | false => cases h2; exact ⟨g1.1, Int.le_refl _⟩
  obtain ⟨d, q3, h3, h⟩ := Out.bind_ok h
  cases h
  have g3 : strmD (zs.take N) ln q2 = .ok d q ∧ q2 ≤ q := by
    cases ln with
    | true =>
      obtain ⟨n, q4, h4, h5⟩ := Out.bind_ok (show (numO zs q2).bind (fun n q => someO zs q n) = .ok d q from h3)
      have g4 := numO_pl g2.1 h4
      have g5 := someO_pl g4.1 h5
      refine ⟨?_, by omega⟩
      show (numO (zs.take N) q2).bind (fun n q => someO (zs.take N) q n) = .ok d q
      rw [numO_take g2.1 h4 (by omega) hl]
      exact someO_take g4.1 h5 hq hl
    | false =>
      have g5 := someO_pl g2.1 (show someO zs q2 ((zs.length : Int) - q2) = .ok d q from h3)
      omega
  unfold strmO
  rw [numO_take hp h1 (by omega) hl]
  show (if at_ = true then numO (zs.take N) q1 else Out.ok 0 q1).bind _ = _
  have e2 : (if at_ = true then numO (zs.take N) q1 else Out.ok 0 q1) = .ok pl q2 := by
    cases at_ with
    | true => exact numO_take g1.1 h2 (by omega) hl
    | false => exact h2
  rw [e2]
  show (strmD _ _ _).bind _ = _
  rw [g3.1]
  rfl
theorem zrun_take : ∀ (l : List Int) (n : Nat), zrun l ≤ n → zrun (l.take n) = zrun l := by
  intro l
  induction l with
  | nil => intro n _; simp
  | cons x r ih =>
    intro n hn
    cases n with
    | zero =>
      simp only [zrun] at hn
      by_cases hx : x = 0
      · rw [if_pos hx] at hn; omega
      · simp [zrun, hx]
    | succ n =>
      simp only [List.take_succ_cons, zrun] at hn ⊢
      by_cases hx : x = 0
      · rw [if_pos hx] at hn ⊢; rw [if_pos hx, ih n (by omega)]
      · rw [if_neg hx, if_neg hx]
theorem kindO_take {k : Int} (hp : Pl zs p) (h : kindO zs p = .ok k q) (hq : q ≤ N) (hl : N ≤ zs.length) : kindO (zs.take N) p = .ok k q := by
  obtain ⟨m, q', hn, h2⟩ := Out.bind_ok h
  have e : q' = q := by
    by_cases h53 : q' - p ≠ sz m
    · rw [if_pos h53] at h2; cases h2
    rw [if_neg h53] at h2
    by_cases h30 : 30 < m
    · rw [if_pos h30] at h2; cases h2
    · rw [if_neg h30] at h2; cases h2; rfl
  subst e
  unfold kindO
  rw [numO_take hp hn hq hl]
  exact h2
theorem itemsO_take {P : Nat} {k : Int} {f : Fr} (hp : Pl zs p) (h0 : k = 0 → p = P + 1) (h : itemsO zs P p k = .ok f q) (hq : q ≤ N) (hN : N < zs.length) : itemsO (zs.take N) P p k = .ok f q := by
  unfold itemsO at h ⊢
  by_cases hk0 : k = 0
  · rw [if_pos hk0] at h ⊢
    cases h
    have e := h0 hk0
    have hz : zrun ((zs.take N).drop (P + 1)) = zrun (zs.drop (P + 1)) := by
      rw [List.drop_take]
      exact zrun_take _ _ (by omega)
    unfold zerosO
    rw [hz]
    rfl
  rw [if_neg hk0] at h ⊢
  by_cases hk2 : k = 2 ∨ k = 3
  · rw [if_pos hk2] at h ⊢; exact ackO_take hp h hq (by omega)
  rw [if_neg hk2] at h ⊢
  by_cases hk8 : 8 ≤ k ∧ k ≤ 15
  · rw [if_pos hk8] at h ⊢; exact strmO_take hp h hq hN
  · rw [if_neg hk8] at h ⊢
    obtain ⟨f1, q1, g1, h⟩ := Out.bind_ok h
    have k1 := leadsO_pl hp g1
    have h' : q1 ≤ q := by
      have := lastO_pl k1.1 (by rw [k1.2.2.1]; rfl) (by rw [k1.2.2.2.1]; rfl) h
      omega
    unfold genO
    rw [leadsO_take hp g1 (by omega) (by omega)]
    exact lastO_take k1.1 h hq (by omega)
theorem frameO_take {P : Nat} {f : Fr} (hp : Pl zs P) (h : frameO zs P = .ok f q) (hq : q ≤ N) (hN : N < zs.length) : frameO (zs.take N) P = .ok f q := by
  obtain ⟨hg, hlt, hc, k, h1, h2, _⟩ := frameO_pl hp h
  have g1 := kindO_pl hp h1
  have g2 := itemsO_pl g1.1 (fun _ => rfl) h2
  unfold frameO
  rw [kindO_take hp h1 (by omega) (by omega)]
  show (itemsO _ _ _ _).bind _ = _
  rw [itemsO_take g1.1 (fun _ => rfl) h2 hq hN]
  show (if _ then _ else _) = _
  rw [if_neg (by omega)]

/-- Where reading stops ahead of the end, what stands ahead is read whole. -/
theorem dec_take (hz : ∀ y ∈ zs, 0 ≤ y ∧ y < 256) : ∀ {n P : Nat} {acc fs : List Fr} {at_ e : Int}, P ≤ zs.length → zs.length ≤ n + P → dec zs n P acc = (fs, at_, e) → e ≠ 0 → ∃ S : Nat, at_ = S ∧ P ≤ S ∧ S < zs.length ∧ fs = [] ∧ ∀ m, S ≤ m + P → ∃ l, dec (zs.take S) m P acc = (acc ++ l, 0, 0) ∧ (P < S → l ≠ []) := by
  intro n
  induction n with
  | zero => intro P acc fs at_ e hP hn h he; rw [dec] at h; cases h; exact absurd rfl he
  | succ n ih =>
    intro P acc fs at_ e hP hn h he
    rw [dec] at h
    by_cases hl : zs.length ≤ P
    · rw [if_pos hl] at h; cases h; exact absurd rfl he
    rw [if_neg hl] at h
    have base : ∀ m, P ≤ m + P → ∃ l, dec (zs.take P) m P acc = (acc ++ l, 0, 0) ∧ (P < P → l ≠ []) := by
      intro m _
      refine ⟨[], ?_, fun h => absurd h (Nat.lt_irrefl _)⟩
      cases m with
      | zero => rw [dec, List.append_nil]
      | succ m => rw [dec, if_pos (by rw [List.length_take]; omega), List.append_nil]
    have hp : Pl zs P := ⟨hz, by omega, by omega⟩
    cases hf : frameO zs P with
    | cut => rw [hf] at h; cases h; exact ⟨P, rfl, Nat.le_refl _, by omega, rfl, base⟩
    | bad x => rw [hf] at h; cases h; exact ⟨P, rfl, Nat.le_refl _, by omega, rfl, base⟩
    | ok f q =>
      rw [hf] at h
      have hg := frameO_pl hp hf
      have hq1 := hg.1.h1
      obtain ⟨S, h1, h2, h3, h4, h5⟩ := ih (P := q.toNat) (by omega) (by omega) h he
      refine ⟨S, h1, by omega, h3, h4, fun m hm => ?_⟩
      obtain ⟨m', rfl⟩ : ∃ m', m = m' + 1 := ⟨m - 1, by omega⟩
      obtain ⟨l, hl1, _⟩ := h5 m' (by omega)
      refine ⟨f :: l, ?_, fun _ => by simp⟩
      rw [dec, if_neg (by rw [List.length_take]; omega), frameO_take hp hf (by omega) h3]
      show dec _ _ _ _ = _
      rw [hl1]
      simp
/-- Why a reading is refused. -/
def Out.fine {α : Type} (o : Out α) : Prop := ∀ x, o = .bad x → x = 50 ∨ x = 51 ∨ x = 53
theorem fine_bind {α β : Type} {o : Out α} {f : α → Int → Out β} (h : o.fine) (hf : ∀ a q, (f a q).fine) : (o.bind f).fine := by
  cases o with
  | ok a q => exact hf a q
  | cut => intro x e; cases e
  | bad y => intro x e; cases e; exact h _ rfl
theorem fine_ok {α : Type} (a : α) (q : Int) : (Out.ok a q).fine := by intro x e; cases e
theorem fine_num (zs : List Int) (p : Int) : (numO zs p).fine := by intro x e; unfold numO at e; split at e <;> cases e
theorem fine_some (zs : List Int) (p k : Int) : (someO zs p k).fine := by intro x e; unfold someO at e; split at e <;> cases e
theorem fine_one (zs : List Int) (p : Int) : (oneO zs p).fine := by intro x e; unfold oneO at e; split at e <;> cases e
theorem fine_down (zs : List Int) (p fr : Int) : (downO zs p fr).fine := fine_bind (fine_num _ _) (fun m q => by
  show (if _ then _ else _ : Out Int).fine
  split
  · intro x e; cases e; omega
  · exact fine_ok _ _)
theorem fine_span (zs : List Int) (p to : Int) : (spanO zs p to).fine := fine_bind (fine_down _ _ _) (fun a q => fine_ok _ _)
theorem fine_downs (zs : List Int) : ∀ (n : Nat) (acc : List (Int × Int)) (p : Int), (downsO zs n acc p).fine := by
  intro n
  induction n with
  | zero => intro acc p; exact fine_ok _ _
  | succ n ih => intro acc p; exact fine_bind (fine_down _ _ _) (fun t q => fine_bind (fine_span _ _ _) (fun s q => ih _ _))
theorem fine_leads (zs : List Int) : ∀ (l : List Nat) (f : Fr) (p : Int), (leadsO zs l f p).fine := by
  intro l
  induction l with
  | nil => intro f p; exact fine_ok _ _
  | cons o r ih => intro f p; exact fine_bind (fine_num _ _) (fun x q => ih _ _)
theorem fine_last (zs : List Int) (k : Int) (f : Fr) (p : Int) : (lastO zs k f p).fine := by
  unfold lastO
  split
  · exact fine_bind (fine_num _ _) (fun n q => fine_bind (fine_some _ _ _) (fun d q => fine_ok _ _))
  split
  · exact fine_bind (fine_one _ _) (fun n q => fine_bind (fine_some _ _ _) (fun c q => fine_bind (fine_some _ _ _) (fun d q => fine_ok _ _)))
  split
  · exact fine_bind (fine_some _ _ _) (fun d q => fine_ok _ _)
  · exact fine_ok _ _
theorem fine_ack (zs : List Int) (p k : Int) : (ackO zs p k).fine := by
  refine fine_bind (fine_num _ _) (fun to q => fine_bind (fine_num _ _) (fun dl q => fine_bind (fine_num _ _) (fun o q => ?_)))
  show (ack3 zs k to dl o q).fine
  unfold ack3
  split
  · intro x e; cases e; omega
  refine fine_bind (fine_span _ _ _) (fun s q => fine_bind (fine_downs _ _ _ _) (fun l q => ?_))
  show (ack5 zs k dl l q).fine
  unfold ack5
  split
  · exact fine_bind (fine_num _ _) (fun a q => fine_bind (fine_num _ _) (fun b q => fine_bind (fine_num _ _) (fun c q => fine_ok _ _)))
  · exact fine_ok _ _
theorem fine_strm (zs : List Int) (p : Int) (fin at_ ln : Bool) : (strmO zs p fin at_ ln).fine := by
  refine fine_bind (fine_num _ _) (fun id q => fine_bind ?_ (fun pl q => fine_bind ?_ (fun d q => fine_ok _ _)))
  · split
    · exact fine_num _ _
    · exact fine_ok _ _
  · unfold strmD
    split
    · exact fine_bind (fine_num _ _) (fun n q => fine_some _ _ _)
    · exact fine_some _ _ _
theorem fine_items (zs : List Int) (P : Nat) (p k : Int) : (itemsO zs P p k).fine := by
  unfold itemsO
  split
  · exact fine_bind (fine_ok _ _) (fun n q => fine_ok _ _)
  split
  · exact fine_ack _ _ _
  split
  · exact fine_strm _ _ _ _ _
  · exact fine_bind (fine_leads _ _ _ _) (fun f q => fine_last _ _ _ _)
theorem fine_frame (zs : List Int) (P : Nat) : (frameO zs P).fine := by
  refine fine_bind ?_ (fun k q => fine_bind (fine_items _ _ _ _) (fun f q => ?_))
  · refine fine_bind (fine_num _ _) (fun k q => ?_)
    show (if _ then _ else _ : Out Int).fine
    split
    · intro x e; cases e; omega
    split
    · intro x e; cases e; omega
    · exact fine_ok _ _
  · show (if _ then _ else _ : Out Fr).fine
    split
    · intro x e; cases e; omega
    · exact fine_ok _ _
/-- Where nothing is wrong: no place is told, and the frames that were had stay. -/
theorem dec_ok : ∀ {n P : Nat} {acc fs : List Fr} {at_ : Int}, dec zs n P acc = (fs, at_, 0) → at_ = 0 ∧ ∃ l, fs = acc ++ l ∧ (0 < n → P < zs.length → l ≠ []) := by
  intro n
  induction n with
  | zero => intro P acc fs at_ h; rw [dec] at h; cases h; exact ⟨rfl, [], by simp, fun h => absurd h (Nat.lt_irrefl _)⟩
  | succ n ih =>
    intro P acc fs at_ h
    rw [dec] at h
    by_cases hl : zs.length ≤ P
    · rw [if_pos hl] at h; cases h; exact ⟨rfl, [], by simp, fun _ h => by omega⟩
    rw [if_neg hl] at h
    cases hf : frameO zs P with
    | cut => rw [hf] at h; cases h
    | bad x =>
      rw [hf] at h
      have := fine_frame zs P x hf
      simp only [Prod.mk.injEq] at h
      omega
    | ok f q =>
      rw [hf] at h
      obtain ⟨h1, l, h2, _⟩ := ih h
      exact ⟨h1, f :: l, by rw [h2]; simp, fun _ _ => by simp⟩
end

/-- What Decode tells, in its three cases. -/
theorem decA_cases {zs : List Int} (hz : ∀ y ∈ zs, 0 ≤ y ∧ y < 256) {fs : List Fr} {at_ e : Int} (h : decA zs = (fs, at_, e)) :
    (e = 0 ∧ at_ = 0 ∧ fs ≠ []) ∨ (e ≠ 0 ∧ at_ = 0 ∧ fs = []) ∨ (e ≠ 0 ∧ fs = [] ∧ ∃ S : Nat, at_ = S ∧ 0 < S ∧ S < zs.length ∧ ∃ l, decA (zs.take S) = (l, 0, 0) ∧ l ≠ []) := by
  unfold decA at h
  by_cases h1 : 16384 < zs.length
  · rw [if_pos h1] at h; cases h; exact .inr (.inl ⟨by omega, rfl, rfl⟩)
  rw [if_neg h1] at h
  by_cases h2 : zs.length = 0
  · rw [if_pos h2] at h; cases h; exact .inr (.inl ⟨by omega, rfl, rfl⟩)
  rw [if_neg h2] at h
  by_cases he : e = 0
  · subst he
    obtain ⟨ha, l, hl, hne⟩ := dec_ok h
    exact .inl ⟨rfl, ha, by rw [hl]; simpa using hne (by omega) (by omega)⟩
  · obtain ⟨S, hS, h0, h3, h4, h5⟩ := dec_take hz (Nat.zero_le _) (by omega) h he
    by_cases hS0 : S = 0
    · exact .inr (.inl ⟨he, by rw [hS, hS0]; rfl, h4⟩)
    · obtain ⟨l, hl, hne⟩ := h5 (zs.take S).length (by rw [List.length_take]; omega)
      refine .inr (.inr ⟨he, h4, S, hS, by omega, h3, l, ?_, hne (by omega)⟩)
      unfold decA
      rw [if_neg (by rw [List.length_take]; omega), if_neg (by rw [List.length_take]; omega), hl]
      rfl
end Go.Proofs.Ytdoodbaogmdloab
