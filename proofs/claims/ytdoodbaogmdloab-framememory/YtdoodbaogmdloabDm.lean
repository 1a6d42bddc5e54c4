/-
  What a reading's items come to: places, sizes. Plain mathematics. Nothing is proved of a statement here.
-/
import Derived.Test.YtdoodbaogmdloabItmTwo
namespace Go.Proofs.Ytdoodbaogmdloab
open Go.RowKit
set_option linter.unusedVariables false
set_option maxRecDepth 20000

theorem Out.bind_ok {α β : Type} {o : Out α} {f : α → Int → Out β} {a : β} {q : Int} (h : o.bind f = .ok a q) : ∃ x q', o = .ok x q' ∧ f x q' = .ok a q := by
  cases o with
  | ok x q' => exact ⟨x, q', rfl, h⟩
  | cut => cases h
  | bad x => cases h

/-- Bytes, and a place in them. -/
structure Pl (zs : List Int) (p : Int) : Prop where
  hz : ∀ y ∈ zs, 0 ≤ y ∧ y < 256
  h0 : 0 ≤ p
  h1 : p ≤ zs.length
theorem Rg.pl_ {w : World} {rk rb g : Nat} {b : Sv} {zs : List Int} {pl p : Int} (h : Rg w rk rb g b zs pl p) : Pl zs p := ⟨h.by_, h.p0, by rw [h.len]; exact h.p1⟩

section
variable {zs : List Int} {p q : Int}
theorem numO_pl {m : Int} (hp : Pl zs p) (h : numO zs p = .ok m q) : Pl zs q ∧ p < q ∧ 0 ≤ m ∧ m ≤ 4611686018427387903 := by
  have := numO_ok hp.hz hp.h0 hp.h1 h
  exact ⟨⟨hp.hz, by have := hp.h0; omega, this.2.1⟩, this.1, this.2.2⟩
theorem someO_pl {k : Int} {d : List Int} (hp : Pl zs p) (h : someO zs p k = .ok d q) : Pl zs q ∧ p ≤ q ∧ 0 ≤ k ∧ q = p + k ∧ d = (zs.drop p.toNat).take k.toNat ∧ (d.length : Int) = k ∧ d.length ≤ zs.length := by
  unfold someO at h
  by_cases hf : (takeR zs p 0 k).2.2 = 0
  · rw [if_pos hf] at h
    obtain ⟨h0, he, hl⟩ := take_range hp.h0 hp.h1 hf
    rw [he] at h
    dsimp only at h
    cases h
    have hp0 := hp.h0
    refine ⟨⟨hp.hz, by omega, by omega⟩, by omega, h0, rfl, rfl, ?_, ?_⟩
    · rw [List.length_take, List.length_drop]; omega
    · rw [List.length_take, List.length_drop]; omega
  · rw [if_neg hf] at h; cases h
theorem oneO_pl {m : Int} (hp : Pl zs p) (h : oneO zs p = .ok m q) : Pl zs q ∧ q = p + 1 ∧ m = zs.getD p.toNat 0 ∧ p < zs.length := by
  unfold oneO at h
  by_cases hf : (takeR zs p 0 1).2.2 = 0
  · rw [if_pos hf] at h
    obtain ⟨h0, he, hl⟩ := take_range hp.h0 hp.h1 hf
    rw [he] at h
    dsimp only at h
    cases h
    have hp0 := hp.h0
    refine ⟨⟨hp.hz, by omega, by omega⟩, rfl, ?_, by omega⟩
    simp [List.getD_eq_getElem?_getD]
  · rw [if_neg hf] at h; cases h
theorem downO_pl {fr a : Int} (hp : Pl zs p) (h : downO zs p fr = .ok a q) : Pl zs q ∧ p < q ∧ 0 ≤ a ∧ a ≤ fr := by
  have := downO_ok hp.hz hp.h0 hp.h1 h
  exact ⟨⟨hp.hz, by have := hp.h0; omega, this.2.2.2⟩, this.2.2.1, this.1, this.2.1⟩
theorem spanO_pl {to : Int} {s : Int × Int} (hp : Pl zs p) (h : spanO zs p to = .ok s q) : Pl zs q ∧ p < q ∧ 0 ≤ s.1 ∧ s.1 ≤ to ∧ s.2 = to := by
  have := spanO_ok hp.hz hp.h0 hp.h1 h
  exact ⟨⟨hp.hz, by have := hp.h0; omega, this.2.2.2.2⟩, this.2.2.2.1, this.1, this.2.1, this.2.2.1⟩
theorem kindO_pl {k : Int} (hp : Pl zs p) (h : kindO zs p = .ok k q) : Pl zs q ∧ p < q ∧ 0 ≤ k ∧ k ≤ 30 ∧ q = p + 1 := by
  obtain ⟨m, q', hn, h2⟩ := Out.bind_ok h
  have hh := numO_pl hp hn
  by_cases h53 : q' - p ≠ sz m
  · rw [if_pos h53] at h2; cases h2
  rw [if_neg h53] at h2
  by_cases h30 : 30 < m
  · rw [if_pos h30] at h2; cases h2
  rw [if_neg h30] at h2
  cases h2
  have e : sz k = 1 := sz_1 (by omega) (by omega)
  exact ⟨hh.1, hh.2.1, hh.2.2.1, by omega, by omega⟩
theorem leadsO_pl {l : List Nat} : ∀ {f f' : Fr} {p q : Int}, Pl zs p → leadsO zs l f p = .ok f' q → Pl zs q ∧ p ≤ q ∧ f'.data = f.data ∧ f'.cid = f.cid ∧ f'.sp = f.sp := by
  induction l with
  | nil => intro f f' p q hp h; cases h; exact ⟨hp, Int.le_refl _, rfl, rfl, rfl⟩
  | cons o r ih =>
    intro f f' p q hp h
    obtain ⟨x, q', hn, h2⟩ := Out.bind_ok h
    have hh := numO_pl hp hn
    have h3 := ih hh.1 h2
    have h4 := fset_data f o x
    exact ⟨h3.1, by omega, h3.2.2.1.trans h4.1, h3.2.2.2.1.trans h4.2.1, h3.2.2.2.2.trans h4.2.2⟩
theorem downsO_pl : ∀ {n : Nat} {acc l : List (Int × Int)} {p q : Int}, Pl zs p → downsO zs n acc p = .ok l q → Pl zs q ∧ p ≤ q := by
  intro n
  induction n with
  | zero => intro acc l p q hp h; cases h; exact ⟨hp, Int.le_refl _⟩
  | succ n ih =>
    intro acc l p q hp h
    obtain ⟨t, q1, h1, h2⟩ := Out.bind_ok h
    have hh := downO_pl hp h1
    obtain ⟨s, q2, h3, h4⟩ := Out.bind_ok h2
    have hg := spanO_pl hh.1 h3
    have := ih hg.1 h4
    exact ⟨this.1, by omega⟩
theorem ackO_pl {k : Int} {f : Fr} (hp : Pl zs p) (h : ackO zs p k = .ok f q) : Pl zs q ∧ p < q ∧ f.data = [] ∧ f.cid = [] := by
  obtain ⟨to, q1, h1, h⟩ := Out.bind_ok h
  have g1 := numO_pl hp h1
  obtain ⟨dl, q2, h2, h⟩ := Out.bind_ok h
  have g2 := numO_pl g1.1 h2
  obtain ⟨o, q3, h3, h⟩ := Out.bind_ok h
  have g3 := numO_pl g2.1 h3
  unfold ack3 at h
  by_cases h64 : 64 ≤ o
  · rw [if_pos h64] at h; cases h
  rw [if_neg h64] at h
  obtain ⟨s, q4, h4, h⟩ := Out.bind_ok h
  have g4 := spanO_pl g3.1 h4
  obtain ⟨l, q5, h5, h⟩ := Out.bind_ok h
  have g5 := downsO_pl g4.1 h5
  unfold ack5 at h
  by_cases hk : k = 3
  · rw [if_pos hk] at h
    obtain ⟨e0, q6, h6, h⟩ := Out.bind_ok h
    have g6 := numO_pl g5.1 h6
    obtain ⟨e1, q7, h7, h⟩ := Out.bind_ok h
    have g7 := numO_pl g6.1 h7
    obtain ⟨e2, q8, h8, h⟩ := Out.bind_ok h
    have g8 := numO_pl g7.1 h8
    cases h
    exact ⟨g8.1, by omega, rfl, rfl⟩
  · rw [if_neg hk] at h
    cases h
    exact ⟨g5.1, by omega, rfl, rfl⟩
theorem strmO_pl {fin at_ ln : Bool} {f : Fr} (hp : Pl zs p) (h : strmO zs p fin at_ ln = .ok f q) : Pl zs q ∧ p < q ∧ f.data.length ≤ zs.length ∧ f.cid = [] := by
  obtain ⟨id, q1, h1, h⟩ := Out.bind_ok h
  have g1 := numO_pl hp h1
  obtain ⟨pl, q2, h2, h⟩ := Out.bind_ok h
  have g2 : Pl zs q2 ∧ q1 ≤ q2 := by
    cases at_ with
    | true => have := numO_pl g1.1 (show numO zs q1 = .ok pl q2 from h2); exact ⟨this.1, by omega⟩
    | false => cases h2; exact ⟨g1.1, Int.le_refl _⟩
  obtain ⟨d, q3, h3, h⟩ := Out.bind_ok h
  cases h
  have g3 : Pl zs q ∧ q2 ≤ q ∧ d.length ≤ zs.length := by
    cases ln with
    | true =>
      obtain ⟨n, q4, h4, h5⟩ := Out.bind_ok (show (numO zs q2).bind (fun n q => someO zs q n) = .ok d q from h3)
      have g4 := numO_pl g2.1 h4
      have g5 := someO_pl g4.1 h5
      exact ⟨g5.1, by omega, g5.2.2.2.2.2.2⟩
    | false =>
      have g5 := someO_pl g2.1 (show someO zs q2 _ = .ok d q from h3)
      exact ⟨g5.1, g5.2.1, g5.2.2.2.2.2.2⟩
  exact ⟨g3.1, by omega, g3.2.2, rfl⟩
theorem lastO_pl {k : Int} {f f' : Fr} (hp : Pl zs p) (h1 : f.data = []) (h2 : f.cid = []) (h : lastO zs k f p = .ok f' q) : Pl zs q ∧ p ≤ q ∧ f'.data.length ≤ zs.length ∧ f'.cid.length ≤ zs.length := by
  unfold lastO at h
  by_cases h6 : k = 6 ∨ k = 7 ∨ k = 28 ∨ k = 29
  · rw [if_pos h6] at h
    obtain ⟨n, q1, g1, h⟩ := Out.bind_ok h
    have k1 := numO_pl hp g1
    obtain ⟨d, q2, g2, h⟩ := Out.bind_ok h
    have k2 := someO_pl k1.1 g2
    cases h
    exact ⟨k2.1, by omega, k2.2.2.2.2.2.2, by show f.cid.length ≤ _; rw [h2]; simp⟩
  rw [if_neg h6] at h
  by_cases h24 : k = 24
  · rw [if_pos h24] at h
    obtain ⟨n, q1, g1, h⟩ := Out.bind_ok h
    have k1 := oneO_pl hp g1
    obtain ⟨c, q2, g2, h⟩ := Out.bind_ok h
    have k2 := someO_pl k1.1 g2
    obtain ⟨d, q3, g3, h⟩ := Out.bind_ok h
    have k3 := someO_pl k2.1 g3
    cases h
    exact ⟨k3.1, by omega, k3.2.2.2.2.2.2, k2.2.2.2.2.2.2⟩
  rw [if_neg h24] at h
  by_cases h26 : k = 26 ∨ k = 27
  · rw [if_pos h26] at h
    obtain ⟨d, q2, g2, h⟩ := Out.bind_ok h
    have k2 := someO_pl hp g2
    cases h
    exact ⟨k2.1, by omega, k2.2.2.2.2.2.2, by show f.cid.length ≤ _; rw [h2]; simp⟩
  · rw [if_neg h26] at h
    cases h
    exact ⟨hp, Int.le_refl _, by rw [h1]; simp, by rw [h2]; simp⟩
theorem itemsO_pl {P : Nat} {k : Int} {f : Fr} (hp : Pl zs p) (h0 : k = 0 → p = P + 1) (h : itemsO zs P p k = .ok f q) : Pl zs q ∧ p ≤ q ∧ f.data.length ≤ zs.length ∧ f.cid.length ≤ zs.length := by
  unfold itemsO at h
  by_cases hk0 : k = 0
  · rw [if_pos hk0] at h
    cases h
    have e := h0 hk0
    have hz := zrun_le (zs.drop (P + 1))
    rw [List.length_drop] at hz
    have := hp.h1
    exact ⟨⟨hp.hz, by omega, by omega⟩, by omega, by simp [zf], by simp [zf]⟩
  rw [if_neg hk0] at h
  by_cases hk2 : k = 2 ∨ k = 3
  · rw [if_pos hk2] at h
    have := ackO_pl hp h
    exact ⟨this.1, by omega, by rw [this.2.2.1]; simp, by rw [this.2.2.2]; simp⟩
  rw [if_neg hk2] at h
  by_cases hk8 : 8 ≤ k ∧ k ≤ 15
  · rw [if_pos hk8] at h
    have := strmO_pl hp h
    exact ⟨this.1, by omega, this.2.2.1, by rw [this.2.2.2]; simp⟩
  · rw [if_neg hk8] at h
    obtain ⟨f1, q1, g1, h⟩ := Out.bind_ok h
    have k1 := leadsO_pl hp g1
    have k2 := lastO_pl k1.1 (by rw [k1.2.2.1]; rfl) (by rw [k1.2.2.2.1]; rfl) h
    exact ⟨k2.1, by omega, k2.2.2⟩
/-- One frame. -/
def frameO (zs : List Int) (P : Nat) : Out Fr := (kindO zs P).bind fun k q => (itemsO zs P q k).bind fun f q => if chk f ≠ 0 then .bad 51 else .ok f q
theorem frameO_pl {P : Nat} {f : Fr} (hp : Pl zs P) (h : frameO zs P = .ok f q) : Pl zs q ∧ (P : Int) < q ∧ chk f = 0 ∧ ∃ k, kindO zs P = .ok k (P + 1) ∧ itemsO zs P (P + 1) k = .ok f q ∧ 0 ≤ k ∧ k ≤ 30 := by
  obtain ⟨k, q1, h1, h⟩ := Out.bind_ok h
  have g1 := kindO_pl hp h1
  obtain ⟨f', q2, h2, h⟩ := Out.bind_ok h
  have e := g1.2.2.2.2
  rw [e] at h1 h2
  have g2 := itemsO_pl (e ▸ g1.1) (fun _ => rfl) h2
  by_cases hc : chk f' ≠ 0
  · rw [if_pos hc] at h; cases h
  · rw [if_neg hc] at h
    cases h
    exact ⟨g2.1, by omega, by omega, k, h1, h2, g1.2.2.1, g1.2.2.2.1⟩
end
end Go.Proofs.Ytdoodbaogmdloab
