/-
  A queue over a line that loses chunks and tells, with no Go in it: for the walk of the law SendqArrives.
-/
import Derived.Test.YtppemfdoogmeeaaMath
namespace Go.Proofs.Ytppemfdoogmeeaa
set_option linter.unusedVariables false

/-- How many are not done. -/
def cn : List Int → Nat
  | [] => 0
  | x :: r => (if x = 3 then 0 else 1) + cn r
theorem cn_le (xs : List Int) : cn xs ≤ xs.length := by
  induction xs with
  | nil => simp [cn]
  | cons x r ih => rw [cn, List.length_cons]; split <;> omega
theorem cn_zero {xs : List Int} (h : cn xs = 0) : ∀ i, i < xs.length → at_ xs i = 3 := by
  induction xs with
  | nil => intro i hi; simp at hi
  | cons x r ih =>
    rw [cn] at h
    intro i hi
    cases i with
    | zero =>
      rw [at_zero]
      by_cases hx : x = 3
      · exact hx
      · rw [if_neg hx] at h; omega
    | succ i => rw [at_succ]; exact ih (by split at h <;> omega) i (by simpa using hi)
theorem cn_mono {xs : List Int} : ∀ {ys : List Int}, ys.length = xs.length → (∀ i, i < xs.length → at_ xs i = 3 → at_ ys i = 3) → cn ys ≤ cn xs := by
  induction xs with
  | nil =>
    intro ys hl _
    cases ys with
    | nil => exact Nat.le_refl _
    | cons y q => simp at hl
  | cons x r ih =>
    intro ys hl h
    cases ys with
    | nil => simp at hl
    | cons y q =>
      have h1 := ih (ys := q) (by simpa using hl) (fun i hi e => by have := h (i + 1) (by simpa using hi) (by rw [at_succ]; exact e); rwa [at_succ] at this)
      have h0 := h 0 (by simp)
      rw [at_zero, at_zero] at h0
      rw [cn, cn]
      by_cases hx : x = 3
      · rw [if_pos hx, if_pos (h0 hx)]; omega
      · rw [if_neg hx]; split <;> omega
theorem cn_less {xs : List Int} : ∀ {ys : List Int}, ys.length = xs.length → (∀ i, i < xs.length → at_ xs i = 3 → at_ ys i = 3) → (∃ j, j < xs.length ∧ at_ xs j ≠ 3 ∧ at_ ys j = 3) → cn ys + 1 ≤ cn xs := by
  induction xs with
  | nil => rintro ys _ _ ⟨j, hj, _⟩; simp at hj
  | cons x r ih =>
    rintro ys hl h ⟨j, hj, h1, h2⟩
    cases ys with
    | nil => simp at hl
    | cons y q =>
      have hq : q.length = r.length := by simpa using hl
      have hi : ∀ i, i < r.length → at_ r i = 3 → at_ q i = 3 := fun i hi e => by have := h (i + 1) (by simpa using hi) (by rw [at_succ]; exact e); rwa [at_succ] at this
      have h0 := h 0 (by simp)
      rw [at_zero, at_zero] at h0
      rw [cn, cn]
      cases j with
      | zero =>
        rw [at_zero] at h1 h2
        have := cn_mono hq hi
        rw [if_neg h1, if_pos h2]; omega
      | succ j =>
        rw [at_succ] at h1 h2
        have := ih hq hi ⟨j, by simpa using hj, h1, h2⟩
        by_cases hx : x = 3
        · rw [if_pos hx, if_pos (h0 hx)]; omega
        · rw [if_neg hx]; split <;> omega

/-- Nothing is out: each chunk was told as it went. -/
structure AS (L : Nat) (zs : List Int) (s : S) : Prop where
  ok : Ok 65536 s
  fin : s.fin = true
  len : s.ms.length = L
  bs : s.bs = zs
  no1 : ∀ i, i < L → at_ s.ms i ≠ 1
  e1 : s.en ≠ 1
/-- What is left to be told. -/
def nd (s : S) : Nat := cn s.ms + if s.en = 3 then 0 else 1
theorem AS.nd {L : Nat} {zs : List Int} {s : S} (h : AS L zs s) : nd s ≤ L + 1 := by
  have := cn_le s.ms
  have := h.len
  unfold Go.Proofs.Ytppemfdoogmeeaa.nd
  split <;> omega
theorem nd_zero {s : S} (h : nd s = 0) : (∀ i, i < s.ms.length → at_ s.ms i = 3) ∧ s.en = 3 := by
  unfold nd at h
  by_cases he : s.en = 3
  · exact ⟨cn_zero (by omega), he⟩
  · rw [if_neg he] at h; omega
theorem nd_done {s : S} (h : nd s = 0) : dnB s = true ∧ bas s = s.ms.length := by
  obtain ⟨h1, h2⟩ := nd_zero h
  have hb : bas s = s.ms.length := ld_uniq (Nat.le_refl _) h1 (fun hk => by omega)
  unfold dnB
  rw [h2, hb]
  simp

/-- Behind a chunk that went out and was told. -/
def asS (s : S) (most limit : Int) (ack : Bool) : S := tuS (nxS s most limit) ack (nxP s most limit) (nxN s most limit) (nxF s most limit)

section
variable {L : Nat} {zs : List Int} {s : S}
/-- What is told of a chunk. -/
theorem as_chunk (h : AS L zs s) (most : Int) (hok : nxO s most L = true) :
    nxP s most L + nxN s most L ≤ L ∧ (nxF s most L = true → nxP s most L + nxN s most L = L) ∧ (nxN s most L ≠ 0 → nxP s most L = nxA s ∧ (nxN s most L : Int) ≤ most) ∧ (nxN s most L = 0 → nxP s most L = L ∧ nxF s most L = true) ∧ nxD s most L = (zs.drop (nxP s most L)).take (nxN s most L) := by
  have hin := nx_in h.ok most L
  have hm := nxN_most s most L
  rw [h.len] at hin
  by_cases hk : nxN s most L = 0
  · have hF : nxF s most L = true := by unfold nxO at hok; rw [hk] at hok; simpa using hok
    have hP : nxP s most L = L := by unfold nxP; rw [if_pos hk, if_pos hF, h.len]
    refine ⟨by omega, fun _ => by omega, fun h => absurd hk h, fun _ => ⟨hP, hF⟩, ?_⟩
    unfold nxD; rw [hk]; simp
  · have hP : nxP s most L = nxA s := by unfold nxP; rw [if_neg hk]
    refine ⟨by rw [hP]; exact hin, fun hF => ?_, fun _ => ⟨hP, by omega⟩, fun h => absurd h hk, ?_⟩
    · unfold nxF eo nxT at hF
      rw [if_neg hk] at hF
      simp at hF
      rw [hP, hF.2, h.len]
    · rw [hP, ← h.bs]; rfl
theorem as_tuB (h : AS L zs s) (most : Int) (hok : nxO s most L = true) : tuB (nxS s most L) (nxP s most L) (nxN s most L) (nxF s most L) = false := by
  obtain ⟨c1, c2, c3, c4, c5⟩ := as_chunk h most hok
  have hse := nxS_sent h.ok most L
  have hs : ((nxS s most L).sent : Int) ≥ (nxP s most L : Int) + (nxN s most L : Int) := by
    rw [hse]
    by_cases hk : nxN s most L = 0
    · obtain ⟨hP, hF⟩ := c4 hk
      have : s.sent = L := by
        unfold nxF eo nxT at hF
        rw [if_pos hk] at hF
        simp at hF
        rw [hF.2, h.len]
      omega
    · rw [(c3 hk).1]; omega
  unfold tuB
  have e1 : decide (((nxP s most L : Nat) : Int) < 0) = false := by simp
  have e2 : decide (((nxN s most L : Nat) : Int) < 0) = false := by simp
  have e3 : decide (((nxS s most L).sent : Int) < (nxP s most L : Int) + (nxN s most L : Int)) = false := by simp; omega
  rw [e1, e2, e3, nxS_fin, h.fin, nxS_en]
  cases hF : nxF s most L
  · rfl
  · rfl
theorem as_marks (h : AS L zs s) (most : Int) (hok : nxO s most L = true) (ack : Bool) (i : Nat) (hi : i < L) :
    at_ (asS s most L ack).ms i = if nxP s most L ≤ i ∧ i < nxP s most L + nxN s most L then (if ack then 3 else 2) else at_ s.ms i := by
  obtain ⟨c1, c2, c3, c4, c5⟩ := as_chunk h most hok
  have hB := as_tuB h most hok
  have hl := h.len
  unfold asS tuS
  rw [if_neg (by rw [hB]; simp)]
  show at_ (rg _ _ _ _) i = _
  have e1 : ((nxP s most L : Int)).toNat = nxP s most L := by omega
  have e2 : ((nxP s most L : Int) + (nxN s most L : Int)).toNat = nxP s most L + nxN s most L := by omega
  rw [e1, e2, nxS_ms, at_rg (by rw [rg_len]; omega), at_rg (by omega)]
  by_cases hk : nxN s most L = 0
  · rw [hk, if_neg (by omega), if_neg (by omega), if_neg (by omega)]
  · rw [(c3 hk).1]
    by_cases c : nxA s ≤ i ∧ i < nxA s + nxN s most L
    · rw [if_pos c, if_pos c, if_pos c]; cases ack <;> rfl
    · rw [if_neg c, if_neg c, if_neg c]
theorem as_en (h : AS L zs s) (most : Int) (hok : nxO s most L = true) (ack : Bool) : (asS s most L ack).en = if nxF s most L then (if ack then 3 else 2) else s.en := by
  have hB := as_tuB h most hok
  unfold asS tuS
  rw [if_neg (by rw [hB]; simp)]
  show (if nxF s most L then tm ack (nxS s most L).en else (nxS s most L).en) = _
  rw [nxS_en]
  cases hF : nxF s most L
  · simp
  · simp; cases ack <;> rfl
theorem as_next (h : AS L zs s) (most : Int) (hok : nxO s most L = true) (ack : Bool) : AS L zs (asS s most L ack) := by
  have hl : (asS s most L ack).ms.length = L := by unfold asS; rw [tu_len, nxS_ms, rg_len]; exact h.len
  refine ⟨ok_tu (ok_nx h.ok _ _) _ _ _ _, by unfold asS; rw [tu_fin, nxS_fin]; exact h.fin, hl, by unfold asS; rw [tu_bs, nxS_bs]; exact h.bs, fun i hi => ?_, ?_⟩
  · rw [as_marks h most hok ack i hi]
    split
    · cases ack <;> simp
    · exact h.no1 i hi
  · rw [as_en h most hok ack]
    have := h.e1
    split
    · cases ack <;> simp
    · exact this
/-- .. and where it arrived, there is less left. -/
theorem as_less (h : AS L zs s) (most : Int) (hok : nxO s most L = true) : nd (asS s most L true) + 1 ≤ nd s := by
  obtain ⟨c1, c2, c3, c4, c5⟩ := as_chunk h most hok
  have hl : (asS s most L true).ms.length = s.ms.length := by unfold asS; rw [tu_len, nxS_ms, rg_len]
  have hmono : ∀ i, i < s.ms.length → at_ s.ms i = 3 → at_ (asS s most L true).ms i = 3 := fun i hi e => by
    rw [as_marks h most hok true i (by rw [← h.len]; exact hi)]
    split
    · rfl
    · exact e
  have hen := as_en h most hok true
  unfold nd
  by_cases hk : nxN s most L = 0
  · obtain ⟨hP, hF⟩ := c4 hk
    have h1 := cn_mono hl hmono
    rw [hF] at hen
    have hn3 : s.en ≠ 3 := by
      intro e
      unfold nxF eo opn at hF
      rw [e] at hF
      simp at hF
    rw [hen, if_neg hn3]
    simp
    exact h1
  · obtain ⟨hP, _⟩ := c3 hk
    have h1 := cn_less hl hmono ⟨nxA s, by rw [h.len]; omega, by
      have := nx_mark h.ok most L (nxA s) (Nat.le_refl _) (by omega)
      omega, by
      rw [as_marks h most hok true (nxA s) (by omega), if_pos (by omega)]; rfl⟩
    rw [hen]
    cases hF : nxF s most L
    · simp; split <;> omega
    · simp; split <;> omega
/-- Where nothing goes though there is room for all, all is done. -/
theorem as_rest (h : AS L zs s) (hL : L ≤ 65536) (hok : nxO s 65536 L = false) : nd s = 0 ∧ nxS s 65536 L = s := by
  unfold nxO at hok
  simp at hok
  obtain ⟨hk, hF⟩ := hok
  have hl := h.len
  have hs := h.ok.sent
  have hf : ¬ fs 2 s.ms < s.ms.length := by
    intro hf
    unfold nxN at hk
    rw [if_pos hf] at hk
    have h1 := fs_at 2 s.ms hf
    have h2 : ld 2 (s.ms.drop (fs 2 s.ms)) = 0 := by omega
    have := ld_end 2 (s.ms.drop (fs 2 s.ms)) (by rw [h2, List.length_drop]; omega)
    rw [h2, at_drop] at this
    exact this h1
  have hse : s.sent = L := by
    unfold nxN at hk
    rw [if_neg hf] at hk
    omega
  have h3 : ∀ i, i < s.ms.length → at_ s.ms i = 3 := fun i hi => by
    have m1 := h.ok.mr i hi
    have m2 := h.no1 i (by omega)
    have m3 := h.ok.fr i hi
    have m4 := fs_le 2 s.ms
    have m5 := fs_lt 2 s.ms i (by omega)
    omega
  have he : s.en = 3 := by
    have := h.ok.e0
    have := h.e1
    unfold nxF eo opn nxT at hF
    rw [if_pos hk, h.fin, hse, hl] at hF
    simp at hF
    omega
  refine ⟨?_, ?_⟩
  · have : cn s.ms = 0 := by
      have h0 : cn s.ms ≤ cn (List.replicate s.ms.length 3) := by
        exact cn_mono (by simp) (fun i hi _ => h3 i (by simpa using hi))
      have h1 : ∀ n, cn (List.replicate n (3 : Int)) = 0 := fun n => by
        induction n with
        | zero => rfl
        | succ n ih => rw [List.replicate_succ, cn, ih]; rfl
      rw [h1] at h0
      omega
    unfold nd
    rw [this, he]; rfl
  · unfold nxS
    rw [if_pos hk]
    unfold nxF at hF
    rw [hF]
    rfl
/-- Where nothing goes, nothing has changed. -/
theorem as_none (h : AS L zs s) (most : Int) (hok : nxO s most L = false) : nxS s most L = s := by
  unfold nxO at hok
  simp at hok
  obtain ⟨hk, hF⟩ := hok
  unfold nxS
  rw [if_pos hk]
  unfold nxF at hF
  rw [hF]
  rfl
end
/-- At the beginning: all bytes are written, and the end is set. -/
theorem as0 {zs : List Int} (h : zs.length ≤ 65536) : AS zs.length zs (fiS (wrS 65536 s0 zs)) := by
  have hn : wrN 65536 s0 zs.length = zs.length := by
    unfold wrN
    have hb : bas s0 = 0 := rfl
    rw [hb]
    simp [s0]
    omega
  have hms : (fiS (wrS 65536 s0 zs)).ms = List.replicate zs.length 0 := by
    show [] ++ List.replicate (wrN 65536 s0 zs.length) 0 = _
    rw [hn]; rfl
  refine ⟨ok_fi (ok_wr (ok0 (by omega) (by omega)) zs), rfl, by rw [hms]; simp, ?_, fun i hi => ?_, by simp [fiS, wrS, s0]⟩
  · show [] ++ zs.take (wrN 65536 s0 zs.length) = zs
    rw [hn]; simp
  · rw [hms, at_rep]; split <;> omega
theorem as0_n {zs : List Int} (h : zs.length ≤ 65536) : wrN 65536 s0 zs.length = zs.length := by
  unfold wrN
  have hb : bas s0 = 0 := rfl
  rw [hb]
  simp [s0]
  omega
end Go.Proofs.Ytppemfdoogmeeaa
