/-
  What all steps of a reader tell: how much it is, that the end's telling makes no difference, and what the law's all answers. Plain mathematics.
-/
import Derived.Test.YtdlefmlienfjhaaHfC
namespace Go.Proofs.Ytdlefmlienfjhaa
set_option linter.unusedVariables false

/-- What an event takes. -/
theorem tak_data_len {H : Hf} (hk : Hin H) {e : Ev} (h : (tak H).1 = some e) : e.d.length + (tak H).2.held.length ≤ H.held.length := by
  have ht := tkN_le hk
  have h2 := (tak_ok hk).2
  rw [h2, List.length_drop]
  have : e.d.length ≤ tkN H := by
    unfold tak at h
    by_cases c0 : H.fr = 0
    · rw [if_pos c0] at h
      dsimp only at h
      split at h
      · cases h; simp; omega
      · cases h
    rw [if_neg c0] at h
    by_cases c1 : H.fr = 1
    · rw [if_pos c1] at h; cases h; simp; omega
    rw [if_neg c1] at h
    by_cases c2 : H.fr = 4
    · rw [if_pos c2] at h
      dsimp only at h
      split at h
      · cases h; simp
      · cases h
    rw [if_neg c2] at h
    by_cases c3 : H.fr = 7 ∨ H.fr = 13
    · rw [if_pos c3] at h
      dsimp only at h
      split at h
      · cases h; simp
      · cases h
    rw [if_neg c3] at h
    cases h
  omega
theorem stp_data_len {H : Hf} (hk : Hok H) {e : Ev} (h : (stp H).2.1 = some e) : e.d.length + (stp H).2.2.held.length ≤ H.held.length := by
  unfold stp at h ⊢
  by_cases hf : H.fault ≠ 0
  · rw [if_pos hf] at h; cases h
  rw [if_neg hf] at h ⊢
  by_cases hc : (com H).1 = true
  · rw [if_pos hc] at h ⊢
    dsimp only at h ⊢
    unfold com at hc h ⊢
    by_cases hi : H.ins = true
    · rw [if_pos hi] at h ⊢
      exact tak_data_len (hk.in_ hi (by omega)) h
    · rw [if_neg hi] at hc h ⊢
      by_cases he : (ent H).1 = true
      · rw [if_pos he] at h ⊢
        obtain ⟨e1, e2⟩ := ent_in hk he
        have := tak_data_len e1 h
        dsimp only at this ⊢
        omega
      · rw [if_neg he] at hc; cases hc
  · rw [if_neg hc] at h; cases h
theorem run_len : ∀ (k : Nat) (H : Hf), Hok H → (run k H).1.1.length + (run k H).1.2.length ≤ H.held.length
  | 0, H, _ => by simp [run]
  | k + 1, H, hk => by
    rw [run]
    by_cases hs : (stp H).1 = true
    · rw [if_pos hs]
      obtain ⟨a, b⟩ := stp_less hk hs
      have ih := run_len k _ a
      dsimp only
      cases he : (stp H).2.1 with
      | none => show (run k (stp H).2.2).1.1.length + (run k (stp H).2.2).1.2.length ≤ _; omega
      | some e =>
        have := stp_data_len hk he
        unfold consE
        dsimp only
        split
        · dsimp only; rw [List.length_append]; omega
        · dsimp only; rw [List.length_cons]; omega
    · rw [if_neg hs]; simp
theorem runA_len {H : Hf} (hk : Hok H) : (runA H).1.1.length + (runA H).1.2.length ≤ H.held.length := run_len _ H hk
theorem nxt_data : ∀ {k : Nat} {H : Hf}, Hok H → ∀ {e : Ev} {G : Hf}, nxt k H = (some e, G) → e.d.length + G.held.length ≤ H.held.length
  | 0, H, _, e, G, h => by cases h
  | k + 1, H, hk, e, G, h => by
    rw [nxt] at h
    by_cases hs : (stp H).1 = true
    · rw [if_pos hs] at h
      obtain ⟨a, b⟩ := stp_less hk hs
      cases he : (stp H).2.1 with
      | some x =>
        rw [he] at h
        cases h
        exact stp_data_len hk he
      | none =>
        rw [he] at h
        have := nxt_data a h
        omega
    · rw [if_neg hs] at h; cases h
/-! ### the end's telling -/
theorem fini_ent (H : Hf) (b : Bool) : ent (H.fini b) = ((ent H).1, (ent H).2.fini b) := by
  unfold ent
  show (if (rd H.held 0).2.2 ≠ 0 then (false, H.fini b)
    else if (rd H.held (rd H.held 0).2.1).2.2 ≠ 0 then (false, H.fini b)
    else if refu H.st H.lim H.begun (rd H.held 0).1 (rd H.held (rd H.held 0).2.1).1 ≠ 0 then _ else _) = _
  by_cases a : (rd H.held 0).2.2 ≠ 0
  · rw [if_pos a, if_pos a]
  rw [if_neg a, if_neg a]
  by_cases c : (rd H.held (rd H.held 0).2.1).2.2 ≠ 0
  · rw [if_pos c, if_pos c]
  rw [if_neg c, if_neg c]
  by_cases d : refu H.st H.lim H.begun (rd H.held 0).1 (rd H.held (rd H.held 0).2.1).1 ≠ 0
  · rw [if_pos d, if_pos d]; rfl
  · rw [if_neg d, if_neg d]; rfl
theorem fini_com (H : Hf) (b : Bool) : com (H.fini b) = ((com H).1, (com H).2.fini b) := by
  unfold com
  rw [fini_ent]
  show (if H.ins = true then (rdy H, H.fini b) else if (ent H).1 = true then (rdy (ent H).2, (ent H).2.fini b) else (false, (ent H).2.fini b)) = _
  by_cases hi : H.ins = true
  · rw [if_pos hi, if_pos hi]
  rw [if_neg hi, if_neg hi]
  by_cases he : (ent H).1 = true
  · rw [if_pos he, if_pos he]
  · rw [if_neg he, if_neg he]
theorem fini_tak (H : Hf) (b : Bool) : tak (H.fini b) = ((tak H).1, (tak H).2.fini b) := by
  unfold tak
  show (if H.fr = 0 then _ else if H.fr = 1 then _ else if H.fr = 4 then _ else if H.fr = 7 ∨ H.fr = 13 then _ else _) = _
  by_cases c0 : H.fr = 0
  · rw [if_pos c0, if_pos c0]; rfl
  rw [if_neg c0, if_neg c0]
  by_cases c1 : H.fr = 1
  · rw [if_pos c1, if_pos c1]; rfl
  rw [if_neg c1, if_neg c1]
  by_cases c2 : H.fr = 4
  · rw [if_pos c2, if_pos c2]; rfl
  rw [if_neg c2, if_neg c2]
  by_cases c3 : H.fr = 7 ∨ H.fr = 13
  · rw [if_pos c3, if_pos c3]; rfl
  rw [if_neg c3, if_neg c3]
  rfl
theorem fini_stp (H : Hf) (b : Bool) : stp (H.fini b) = ((stp H).1, (stp H).2.1, (stp H).2.2.fini b) := by
  unfold stp
  rw [fini_com]
  show (if H.fault ≠ 0 then (false, none, H.fini b) else if (com H).1 = true then (true, (tak ((com H).2.fini b)).1, (tak ((com H).2.fini b)).2) else (false, none, (com H).2.fini b)) = _
  by_cases hf : H.fault ≠ 0
  · rw [if_pos hf, if_pos hf]
  rw [if_neg hf, if_neg hf]
  by_cases hc : (com H).1 = true
  · rw [if_pos hc, if_pos hc, fini_tak]
  · rw [if_neg hc, if_neg hc]
theorem fini_run (b : Bool) : ∀ (k : Nat) (H : Hf), run k (H.fini b) = ((run k H).1, (run k H).2.fini b)
  | 0, H => rfl
  | k + 1, H => by
    rw [run, run, fini_stp]
    dsimp only
    by_cases hs : (stp H).1 = true
    · rw [if_pos hs, if_pos hs, fini_run b k]
    · rw [if_neg hs, if_neg hs]
theorem fini_runA (b : Bool) (H : Hf) : runA (H.fini b) = ((runA H).1, (runA H).2.fini b) := fini_run b _ H
theorem Hok.fini {H : Hf} (h : Hok H) (b : Bool) : Hok (H.fini b) := ⟨h.s, h.l, h.z, h.b, h.i, h.n, h.f⟩
/-! ### what stays -/
theorem run_keep : ∀ (k : Nat) (H : Hf), (run k H).2.ended = H.ended ∧ (run k H).2.done = H.done
  | 0, H => ⟨rfl, rfl⟩
  | k + 1, H => by
    have he : ∀ G : Hf, (ent G).2.ended = G.ended ∧ (ent G).2.done = G.done := by
      intro G
      unfold ent
      repeat' split
      all_goals exact ⟨rfl, rfl⟩
    have hc : ∀ G : Hf, (com G).2.ended = G.ended ∧ (com G).2.done = G.done := by
      intro G
      unfold com
      split
      · exact ⟨rfl, rfl⟩
      · split
        · exact he G
        · exact he G
    have ht : ∀ G : Hf, (tak G).2.ended = G.ended ∧ (tak G).2.done = G.done := by
      intro G
      unfold tak
      repeat' split
      all_goals exact ⟨rfl, rfl⟩
    have hs : (stp H).2.2.ended = H.ended ∧ (stp H).2.2.done = H.done := by
      unfold stp
      split
      · exact ⟨rfl, rfl⟩
      · split
        · exact ⟨(ht _).1.trans (hc H).1, (ht _).2.trans (hc H).2⟩
        · exact hc H
    rw [run]
    split
    · have ih := run_keep k (stp H).2.2
      exact ⟨ih.1.trans hs.1, ih.2.trans hs.2⟩
    · exact hs
theorem runA_keep (H : Hf) : (runA H).2.ended = H.ended ∧ (runA H).2.done = H.done := run_keep _ H
theorem runA_ok : ∀ (n : Nat) (H : Hf), Hok H → H.held.length ≤ n → Hok (runA H).2 ∧ (runA H).2.held.length ≤ H.held.length := by
  intro n
  induction n with
  | zero =>
    intro H hk hn
    rw [runA_eq hk]
    by_cases hs : (stp H).1 = true
    · have := (stp_less hk hs).2; omega
    · rw [if_neg hs]; exact stp_no hk (by simpa using hs)
  | succ n ih =>
    intro H hk hn
    rw [runA_eq hk]
    by_cases hs : (stp H).1 = true
    · rw [if_pos hs]
      obtain ⟨a, b⟩ := stp_less hk hs
      have := ih _ a (by omega)
      exact ⟨this.1, by dsimp only; omega⟩
    · rw [if_neg hs]; exact stp_no hk (by simpa using hs)
/-! ### what all answers -/
def allW (st : Int) (bs : List Int) : (List Ev × List Int) × Hf := runA { (⟨st, 1048576, [], false, 0, false, 0, 0, false, 0⟩ : Hf) with held := bs }
def allZ (st : Int) (bs : List Int) : Hf := finA ((allW st bs).2.fini true)
/-- The reader between two pieces. -/
structure Btw (W : (List Ev × List Int) × Hf) (H : Hf) (zs : List Int) (es : List Ev) (bd : List Int) : Prop where
  ok : Hok H
  f : H.fault = 0
  e : H.ended = false
  w1 : addE (es, bd) (runA (H.app zs)).1 = W.1
  w2 : (runA (H.app zs)).2 = W.2
/-- .. amid the events of a piece; K: the reader that the piece was fed to. -/
structure Amid (es0 : List Ev) (bd0 : List Int) (K G : Hf) (es : List Ev) (bd : List Int) : Prop where
  ok : Hok G
  w1 : addE (es, bd) (runA G).1 = addE (es0, bd0) (runA K).1
  w2 : (runA G).2 = (runA K).2
  l : G.held.length ≤ K.held.length
theorem Amid.start {K : Hf} (h : Hok K) (es : List Ev) (bd : List Int) : Amid es bd K K es bd := ⟨h, rfl, rfl, Nat.le_refl _⟩
theorem Amid.step {es0 : List Ev} {bd0 : List Int} {K G F : Hf} {es : List Ev} {bd : List Int} {e : Ev} (h : Amid es0 bd0 K G es bd) (hn : nxtF G = (some e, F)) :
    F.held.length < G.held.length ∧ (e.k = 2 → Amid es0 bd0 K F es (bd ++ e.d)) ∧ (e.k ≠ 2 → Amid es0 bd0 K F (es ++ [e]) bd) := by
  have hx : nxt (G.held.length + 1) G = (some e, F) := by
    unfold nxtF at hn
    revert hn
    cases nxt (G.held.length + 1) G with
    | mk a b => cases a with
      | some x => intro h; exact h
      | none => intro h; cases h
  obtain ⟨a, b, c⟩ := (nxt_run h.ok (Nat.lt_succ_self _)).1 e F hx
  have hw1 := h.w1
  rw [c] at hw1
  have hw2 := h.w2
  rw [c] at hw2
  have hl := h.l
  refine ⟨b, fun hk => ⟨a, ?_, hw2, by omega⟩, fun hk => ⟨a, ?_, hw2, by omega⟩⟩
  · rw [← hw1]; unfold consE addE; simp [hk]
  · rw [← hw1]; unfold consE addE; simp [hk]
theorem Amid.stop {es0 : List Ev} {bd0 : List Int} {K G F : Hf} {es : List Ev} {bd : List Int} (h : Amid es0 bd0 K G es bd) (hn : nxtF G = (none, F)) : (es, bd) = addE (es0, bd0) (runA K).1 ∧ F = finA (runA K).2 := by
  have hx : ∃ C, nxt (G.held.length + 1) G = (none, C) ∧ F = finA C := by
    unfold nxtF at hn
    revert hn
    cases nxt (G.held.length + 1) G with
    | mk a b => cases a with
      | some x => intro h; cases h
      | none => intro h; cases h; exact ⟨b, rfl, rfl⟩
  obtain ⟨C, hx, rfl⟩ := hx
  obtain ⟨a, b, c⟩ := (nxt_run h.ok (Nat.lt_succ_self _)).2 C hx
  have hw1 := h.w1
  have hw2 := h.w2
  rw [a] at hw1 hw2
  rw [addE_nil'] at hw1
  exact ⟨hw1, by rw [← hw2]⟩
/-- Behind a piece that is not the last. -/
theorem Btw.next {W : (List Ev × List Int) × Hf} {H : Hf} {xs ys : List Int} {es es2 : List Ev} {bd bd2 : List Int} (h : Btw W H (xs ++ ys) es bd) (hx : ∀ b ∈ xs, 0 ≤ b ∧ b < 256) (hy : ∀ b ∈ ys, 0 ≤ b ∧ b < 256) (h2 : (es2, bd2) = addE (es, bd) (runA (H.app xs)).1) :
    ((finA (runA (H.app xs)).2).fault = 0 → Btw W (finA (runA (H.app xs)).2) ys es2 bd2) ∧
    ((finA (runA (H.app xs)).2).fault ≠ 0 → (es2, bd2) = W.1 ∧ (finA (runA (H.app xs)).2).fault = (finA (W.2.fini true)).fault ∧ (finA (runA (H.app xs)).2).done = (finA (W.2.fini true)).done) := by
  have hok := h.ok.app hx
  have hs := runA_app hok hy
  have happ : (H.app xs).app ys = H.app (xs ++ ys) := by unfold Hf.app; rw [List.append_assoc]
  rw [happ] at hs
  have hke := (runA_keep (H.app xs)).1
  have hen : (runA (H.app xs)).2.ended = false := by rw [hke]; exact h.e
  have hrk := runA_ok _ _ hok (Nat.le_refl _)
  have hfin0 : fin0 (runA (H.app xs)).2 = (runA (H.app xs)).2 := by unfold fin0; rw [if_neg (fun x => by rw [hen] at x; cases x.2)]
  by_cases hf : (runA (H.app xs)).2.fault = 0
  · have hfa : finA (runA (H.app xs)).2 = (runA (H.app xs)).2 := by unfold finA; rw [hfin0, if_pos hf]
    rw [hfa]
    have hs2 := hs.2 hf
    refine ⟨fun _ => ⟨hrk.1, hf, hen, ?_, ?_⟩, fun x => absurd hf x⟩
    · rw [h2, addE_assoc, ← h.w1, hs2]
    · rw [← h.w2, hs2]
  · have hfa : finA (runA (H.app xs)).2 = { (runA (H.app xs)).2 with held := [] } := by unfold finA; rw [hfin0, if_neg hf]
    rw [hfa]
    obtain ⟨s1, s2⟩ := hs.1 hf
    have hW2 : W.2 = (runA (H.app xs)).2.app ys := by rw [← h.w2, s2]
    refine ⟨fun x => absurd x hf, fun _ => ⟨by rw [h2, ← h.w1, s1], ?_⟩⟩
    have hf2 : ((W.2.fini true)).fault ≠ 0 := by rw [hW2]; exact hf
    have : finA (W.2.fini true) = { W.2.fini true with held := [] } := by
      have h0 : fin0 (W.2.fini true) = W.2.fini true := by unfold fin0; rw [if_neg (fun x => hf2 x.1)]
      unfold finA
      rw [h0, if_neg hf2]
    rw [this, hW2]
    exact ⟨rfl, rfl⟩
/-- Behind the last piece. -/
theorem Btw.last {W : (List Ev × List Int) × Hf} {H : Hf} {xs : List Int} {es es2 : List Ev} {bd bd2 : List Int} (h : Btw W H xs es bd) (h2 : (es2, bd2) = addE (es, bd) (runA ((H.app xs).fini true)).1) :
    (es2, bd2) = W.1 ∧ finA (runA ((H.app xs).fini true)).2 = finA (W.2.fini true) := by
  rw [fini_runA] at h2 ⊢
  exact ⟨by rw [h2, h.w1], by dsimp only; rw [h.w2]⟩
theorem Btw.start {st : Int} (hs : st = 1 ∨ st = 2) (bs : List Int) : Btw (allW st bs) ⟨st, 1048576, [], false, 0, false, 0, 0, false, 0⟩ bs [] [] :=
  ⟨⟨hs, (by show (0 : Int) ≤ 1048576 ∧ (1048576 : Int) ≤ 1048576; omega), (fun y hy => by cases hy), (by show (0 : Int) ≤ 0 ∧ (0 : Int) ≤ 2; omega), (fun h => by cases h), (by show (0 : Int) ≤ 0 ∧ (0 : Int) ≤ 4611686018427387903; omega), (by show (0 : Int) ≤ 0 ∧ (0 : Int) ≤ 4611686018427387903; omega)⟩, rfl, rfl, rfl, rfl⟩
theorem allW_ok {st : Int} (hs : st = 1 ∨ st = 2) {bs : List Int} (hz : ∀ y ∈ bs, 0 ≤ y ∧ y < 256) : Hok { (⟨st, 1048576, [], false, 0, false, 0, 0, false, 0⟩ : Hf) with held := bs } :=
  ⟨hs, (by show (0 : Int) ≤ 1048576 ∧ (1048576 : Int) ≤ 1048576; omega), hz, (by show (0 : Int) ≤ 0 ∧ (0 : Int) ≤ 2; omega), (fun h => by cases h), (by show (0 : Int) ≤ 0 ∧ (0 : Int) ≤ 4611686018427387903; omega), (by show (0 : Int) ≤ 0 ∧ (0 : Int) ≤ 4611686018427387903; omega)⟩
theorem allW_len {st : Int} (hs : st = 1 ∨ st = 2) {bs : List Int} (hz : ∀ y ∈ bs, 0 ≤ y ∧ y < 256) : (allW st bs).1.1.length + (allW st bs).1.2.length ≤ bs.length := runA_len (allW_ok hs hz)
theorem Btw.len {st : Int} {bs : List Int} {H : Hf} {zs : List Int} {es : List Ev} {bd : List Int} (h : Btw (allW st bs) H zs es bd) (hs : st = 1 ∨ st = 2) (hz : ∀ y ∈ bs, 0 ≤ y ∧ y < 256) : es.length + bd.length ≤ bs.length := by
  have h1 := allW_len hs hz
  rw [← h.w1] at h1
  unfold addE at h1
  simp only [List.length_append] at h1
  omega
end Go.Proofs.Ytdlefmlienfjhaa
