/-
  Lists of marks for layer 4, with no Go in them: what stands at a place, runs, the first of a kind, a stretch that is turned. Nothing is proved of a statement here.
-/
import Derived.Test.YtppemfdoogmeeaaRows
namespace Go.Proofs.Ytppemfdoogmeeaa
set_option linter.unusedVariables false

/-- What stands at a place; 0 behind the end. -/
def at_ (xs : List Int) (i : Nat) : Int := xs.getD i 0
theorem at_get {xs : List Int} {i : Nat} (h : i < xs.length) : xs[i]? = some (at_ xs i) := by
  unfold at_; rw [List.getD_eq_getElem?_getD, List.getElem?_eq_getElem h]; rfl
theorem at_out {xs : List Int} {i : Nat} (h : xs.length ≤ i) : at_ xs i = 0 := by
  unfold at_; rw [List.getD_eq_getElem?_getD, List.getElem?_eq_none h]; rfl
theorem at_ext {xs ys : List Int} (hl : xs.length = ys.length) (h : ∀ i, i < xs.length → at_ xs i = at_ ys i) : xs = ys := by
  apply List.ext_getElem?
  intro i
  by_cases hi : i < xs.length
  · rw [at_get hi, at_get (by omega), h i hi]
  · rw [List.getElem?_eq_none (by omega), List.getElem?_eq_none (by omega)]
theorem at_drop (xs : List Int) (b i : Nat) : at_ (xs.drop b) i = at_ xs (b + i) := by
  unfold at_; simp [List.getD_eq_getElem?_getD]
theorem at_take (xs : List Int) (k i : Nat) : at_ (xs.take k) i = if i < k then at_ xs i else 0 := by
  unfold at_; simp only [List.getD_eq_getElem?_getD, List.getElem?_take]; split <;> rfl
theorem at_append (xs ys : List Int) (i : Nat) : at_ (xs ++ ys) i = if i < xs.length then at_ xs i else at_ ys (i - xs.length) := by
  unfold at_; simp only [List.getD_eq_getElem?_getD, List.getElem?_append]; split <;> rfl
theorem at_rep (n : Nat) (v : Int) (i : Nat) : at_ (List.replicate n v) i = if i < n then v else 0 := by
  unfold at_; simp only [List.getD_eq_getElem?_getD, List.getElem?_replicate]; split <;> rfl
theorem at_set (xs : List Int) (k : Nat) (v : Int) (i : Nat) (hk : k < xs.length) : at_ (xs.set k v) i = if i = k then v else at_ xs i := by
  unfold at_; simp only [List.getD_eq_getElem?_getD, List.getElem?_set]
  by_cases h : i = k
  · subst h; simp [hk]
  · rw [if_neg (fun e => h e.symm), if_neg h]

/-- How many of a kind stand at the head. -/
def ld (v : Int) : List Int → Nat
  | [] => 0
  | x :: r => if x = v then ld v r + 1 else 0
theorem ld_le (v : Int) (xs : List Int) : ld v xs ≤ xs.length := by
  induction xs with
  | nil => simp [ld]
  | cons x r ih => rw [ld]; split <;> simp <;> omega
theorem at_zero (x : Int) (r : List Int) : at_ (x :: r) 0 = x := rfl
theorem at_succ (x : Int) (r : List Int) (i : Nat) : at_ (x :: r) (i + 1) = at_ r i := rfl
theorem ld_at (v : Int) (xs : List Int) : ∀ i, i < ld v xs → at_ xs i = v := by
  induction xs with
  | nil => intro i hi; simp [ld] at hi
  | cons x r ih =>
    intro i hi
    rw [ld] at hi
    split at hi
    · next h =>
      cases i with
      | zero => rw [at_zero]; exact h
      | succ i => rw [at_succ]; exact ih i (by omega)
    · omega
theorem ld_end (v : Int) (xs : List Int) (h : ld v xs < xs.length) : at_ xs (ld v xs) ≠ v := by
  induction xs with
  | nil => simp at h
  | cons x r ih =>
    rw [ld] at h ⊢
    by_cases hx : x = v
    · rw [if_pos hx] at h ⊢
      rw [at_succ]; exact ih (by simpa using h)
    · rw [if_neg hx]; rw [at_zero]; exact hx
theorem ld_uniq {v : Int} {xs : List Int} {k : Nat} (hk : k ≤ xs.length) (h1 : ∀ i, i < k → at_ xs i = v) (h2 : k < xs.length → at_ xs k ≠ v) : ld v xs = k := by
  have hl := ld_le v xs
  rcases Nat.lt_trichotomy (ld v xs) k with h | h | h
  · exact absurd (h1 _ h) (ld_end v xs (by omega))
  · exact h
  · exact absurd (ld_at v xs k h) (h2 (by omega))
/-- .. ahead of which others of the kind stand. -/
theorem ld_drop {v : Int} {xs : List Int} {b : Nat} (hb : b ≤ xs.length) (h : ∀ i, i < b → at_ xs i = v) : ld v xs = b + ld v (xs.drop b) := by
  have hl := ld_le v (xs.drop b)
  rw [List.length_drop] at hl
  refine ld_uniq (by omega) (fun i hi => ?_) (fun hk => ?_)
  · by_cases hib : i < b
    · exact h i hib
    · have := ld_at v (xs.drop b) (i - b) (by omega)
      rw [at_drop, show b + (i - b) = i by omega] at this; exact this
  · have := ld_end v (xs.drop b) (by rw [List.length_drop]; omega)
    rw [at_drop] at this; exact this

/-- The first of a kind; the length, if there is none. -/
def fs (v : Int) : List Int → Nat
  | [] => 0
  | x :: r => if x = v then 0 else fs v r + 1
theorem fs_le (v : Int) (xs : List Int) : fs v xs ≤ xs.length := by
  induction xs with
  | nil => simp [fs]
  | cons x r ih => rw [fs]; split <;> simp; omega
theorem fs_lt (v : Int) (xs : List Int) : ∀ i, i < fs v xs → at_ xs i ≠ v := by
  induction xs with
  | nil => intro i hi; simp [fs] at hi
  | cons x r ih =>
    intro i hi
    rw [fs] at hi
    split at hi
    · omega
    · next h =>
      cases i with
      | zero => rw [at_zero]; exact h
      | succ i => rw [at_succ]; exact ih i (by omega)
theorem fs_at (v : Int) (xs : List Int) (h : fs v xs < xs.length) : at_ xs (fs v xs) = v := by
  induction xs with
  | nil => simp at h
  | cons x r ih =>
    rw [fs] at h ⊢
    by_cases hx : x = v
    · rw [if_pos hx, at_zero]; exact hx
    · rw [if_neg hx] at h ⊢; rw [at_succ]; exact ih (by simpa using h)
theorem fs_uniq {v : Int} {xs : List Int} {k : Nat} (hk : k ≤ xs.length) (h1 : ∀ i, i < k → at_ xs i ≠ v) (h2 : k < xs.length → at_ xs k = v) : fs v xs = k := by
  have hl := fs_le v xs
  rcases Nat.lt_trichotomy (fs v xs) k with h | h | h
  · exact absurd (fs_at v xs (by omega)) (h1 _ h)
  · exact h
  · exact absurd (h2 (by omega)) (fs_lt v xs k h)
theorem fs_drop {v : Int} {xs : List Int} {b : Nat} (hb : b ≤ xs.length) (h : ∀ i, i < b → at_ xs i ≠ v) : fs v xs = b + fs v (xs.drop b) := by
  have hl := fs_le v (xs.drop b)
  rw [List.length_drop] at hl
  refine fs_uniq (by omega) (fun i hi => ?_) (fun hk => ?_)
  · by_cases hib : i < b
    · exact h i hib
    · have := fs_lt v (xs.drop b) (i - b) (by omega)
      rw [at_drop, show b + (i - b) = i by omega] at this; exact this
  · have := fs_at v (xs.drop b) (by rw [List.length_drop]; omega)
    rw [at_drop] at this; exact this

/-- The stretch from lo up to hi is turned. -/
def rg (f : Int → Int) (xs : List Int) (lo hi : Nat) : List Int := xs.mapIdx fun i v => if lo ≤ i ∧ i < hi then f v else v
theorem rg_len (f : Int → Int) (xs : List Int) (lo hi : Nat) : (rg f xs lo hi).length = xs.length := by simp [rg]
theorem at_rg {f : Int → Int} {xs : List Int} {lo hi i : Nat} (h : i < xs.length) : at_ (rg f xs lo hi) i = if lo ≤ i ∧ i < hi then f (at_ xs i) else at_ xs i := by
  have h2 := at_get (xs := rg f xs lo hi) (i := i) (by rw [rg_len]; exact h)
  have h3 := at_get h
  unfold rg at h2
  rw [List.getElem?_mapIdx, h3] at h2
  simp only [Option.map_some, Option.some.injEq] at h2
  exact h2.symm
theorem rg_none (f : Int → Int) (xs : List Int) (lo hi : Nat) (h : hi ≤ lo) : rg f xs lo hi = xs :=
  at_ext (rg_len _ _ _ _) (fun i hi' => by rw [rg_len] at hi'; rw [at_rg hi', if_neg (by omega)])
theorem rg_set {f : Int → Int} {xs : List Int} {lo h : Nat} (hl : lo ≤ h) (hh : h < xs.length) : (rg f xs lo h).set h (f (at_ xs h)) = rg f xs lo (h + 1) := by
  refine at_ext (by simp [rg_len]) (fun i hi => ?_)
  rw [List.length_set, rg_len] at hi
  rw [at_set _ _ _ _ (by rw [rg_len]; exact hh), at_rg hi, at_rg hi]
  by_cases e : i = h
  · subst e; simp [hl]
  · rw [if_neg e]
    by_cases c : lo ≤ i ∧ i < h
    · rw [if_pos c, if_pos (by omega)]
    · rw [if_neg c, if_neg (by omega)]
theorem rg_keep {f : Int → Int} {xs : List Int} {lo h : Nat} (hh : h < xs.length) (e : f (at_ xs h) = at_ xs h) : rg f xs lo (h + 1) = rg f xs lo h := by
  refine at_ext (by simp [rg_len]) (fun i hi => ?_)
  rw [rg_len] at hi
  rw [at_rg hi, at_rg hi]
  by_cases e2 : i = h
  · subst e2
    rw [if_neg (show ¬ (lo ≤ i ∧ i < i) by omega)]
    split
    · exact e
    · rfl
  · by_cases c : lo ≤ i ∧ i < h
    · rw [if_pos c, if_pos (by omega)]
    · rw [if_neg c, if_neg (by omega)]
theorem rg_drop (f : Int → Int) (xs : List Int) (lo hi b : Nat) : (rg f xs lo hi).drop b = rg f (xs.drop b) (lo - b) (hi - b) := by
  refine at_ext (by simp [rg_len]) (fun i hi' => ?_)
  rw [List.length_drop, rg_len] at hi'
  rw [at_drop, at_rg (by omega), at_rg (by rw [List.length_drop]; omega), at_drop]
  by_cases c : lo ≤ b + i ∧ b + i < hi
  · rw [if_pos c, if_pos (by omega)]
  · rw [if_neg c, if_neg (by omega)]
theorem rg_rg (f g h : Int → Int) (xs : List Int) (lo hi : Nat) (e : ∀ i, lo ≤ i → i < hi → i < xs.length → g (f (at_ xs i)) = h (at_ xs i)) : rg g (rg f xs lo hi) lo hi = rg h xs lo hi := by
  refine at_ext (by simp [rg_len]) (fun i hi' => ?_)
  rw [rg_len, rg_len] at hi'
  rw [at_rg (by rw [rg_len]; exact hi'), at_rg hi', at_rg hi']
  by_cases c : lo ≤ i ∧ i < hi
  · rw [if_pos c, if_pos c, if_pos c]; exact e i c.1 c.2 hi'
  · rw [if_neg c, if_neg c, if_neg c]

/-! ### a queue's state -/
/-- All bytes that were ever written, each with its mark (0 fresh, 1 out, 2 lost, 3 done); how far it was sent; whether the end is set, and its mark. -/
structure S where
  sent : Nat
  bs : List Int
  ms : List Int
  fin : Bool
  en : Int

def s0 : S := ⟨0, [], [], false, 0⟩

/-- The base. -/
def bas (s : S) : Nat := ld 3 s.ms
theorem bas_le (s : S) : bas s ≤ s.ms.length := ld_le _ _

/-- What holds of every queue. -/
structure Ok (room : Int) (s : S) : Prop where
  r0 : 1 ≤ room
  r1 : room ≤ 65536
  len : s.bs.length = s.ms.length
  sent : s.sent ≤ s.ms.length
  fr : ∀ i, i < s.ms.length → (at_ s.ms i = 0 ↔ s.sent ≤ i)
  mr : ∀ i, i < s.ms.length → 0 ≤ at_ s.ms i ∧ at_ s.ms i ≤ 3
  room : (s.ms.length : Int) ≤ room + bas s
  e0 : 0 ≤ s.en ∧ s.en ≤ 3
  ef : s.fin = false → s.en = 0

theorem ok0 {room : Int} (h0 : 1 ≤ room) (h1 : room ≤ 65536) : Ok room s0 :=
  ⟨h0, h1, rfl, Nat.le_refl _, fun i hi => by simp [s0] at hi, fun i hi => by simp [s0] at hi, by simp [s0]; omega, by simp [s0], fun _ => rfl⟩
theorem bas_sent {room : Int} {s : S} (h : Ok room s) : bas s ≤ s.sent := by
  rcases Nat.lt_or_ge s.sent (bas s) with hh | hh
  · have h1 := bas_le s
    have h2 := ld_at 3 s.ms s.sent hh
    have h3 := (h.fr s.sent (by omega)).2 (Nat.le_refl _)
    omega
  · exact hh

/-! ### Write -/
def wrN (room : Int) (s : S) (n : Nat) : Nat := if s.fin then 0 else min n (room - (s.ms.length - bas s)).toNat
def wrE (s : S) : Int := if s.fin then 40 else 0
def wrS (room : Int) (s : S) (zs : List Int) : S := { s with bs := s.bs ++ zs.take (wrN room s zs.length), ms := s.ms ++ List.replicate (wrN room s zs.length) 0 }
theorem wrN_le (room : Int) (s : S) (n : Nat) : wrN room s n ≤ n := by unfold wrN; split <;> omega
theorem ld_zeros (xs : List Int) (n : Nat) : ld 3 (xs ++ List.replicate n 0) = ld 3 xs := by
  have hl := ld_le 3 xs
  refine ld_uniq (by simp; omega) (fun i hi => ?_) (fun hk => ?_)
  · rw [at_append, if_pos (by omega)]; exact ld_at 3 xs i hi
  · rw [at_append]
    split
    · next h => exact ld_end 3 xs h
    · rw [at_rep]; split <;> omega
theorem bas_wr (room : Int) (s : S) (zs : List Int) : bas (wrS room s zs) = bas s := ld_zeros _ _
theorem wr_len (room : Int) (s : S) (zs : List Int) : (wrS room s zs).ms.length = s.ms.length + wrN room s zs.length := by simp [wrS]
theorem ok_wr {room : Int} {s : S} (h : Ok room s) (zs : List Int) : Ok room (wrS room s zs) := by
  have hl := wrN_le room s zs.length
  have hb := bas_le s
  have hr := h.room
  refine ⟨h.r0, h.r1, ?_, ?_, ?_, ?_, ?_, h.e0, h.ef⟩
  · have := h.len; simp only [wrS, List.length_append, List.length_take, List.length_replicate]; omega
  · rw [wr_len]; have := h.sent; show s.sent ≤ _; omega
  · intro i hi
    show at_ (s.ms ++ _) i = 0 ↔ s.sent ≤ i
    rw [at_append]
    split
    · next hh => exact h.fr i hh
    · next hh =>
      rw [at_rep]
      have := h.sent
      constructor
      · intro _; omega
      · intro _; split <;> rfl
  · intro i hi
    show 0 ≤ at_ (s.ms ++ _) i ∧ at_ (s.ms ++ _) i ≤ 3
    rw [at_append]
    split
    · next hh => exact h.mr i hh
    · rw [at_rep]; split <;> omega
  · rw [wr_len, bas_wr]
    unfold wrN
    split
    · omega
    · omega

/-! ### Finish -/
def fiS (s : S) : S := { s with fin := true }
theorem ok_fi {room : Int} {s : S} (h : Ok room s) : Ok room (fiS s) := ⟨h.r0, h.r1, h.len, h.sent, h.fr, h.mr, h.room, h.e0, fun e => by cases e⟩

/-! ### Next -/
def nxA (s : S) : Nat := if fs 2 s.ms < s.ms.length then fs 2 s.ms else s.sent
def nxN (s : S) (most limit : Int) : Nat :=
  if fs 2 s.ms < s.ms.length then min (ld 2 (s.ms.drop (fs 2 s.ms))) most.toNat else min most.toNat (min limit s.ms.length - s.sent).toNat
def opn (s : S) : Bool := s.fin && (s.en == 0 || s.en == 2)
/-- Does the end go out with a chunk up to this place? -/
def eo (s : S) (p : Nat) : Bool := opn s && p == s.ms.length
def goS (s : S) (a k : Nat) : S := { s with sent := max s.sent (a + k), ms := rg (fun _ => 1) s.ms a (a + k) }
def enS (s : S) (b : Bool) : S := if b then { s with en := 1 } else s
/-- Where the chunk ends. -/
def nxT (s : S) (most limit : Int) : Nat := if nxN s most limit = 0 then s.sent else nxA s + nxN s most limit
def nxS (s : S) (most limit : Int) : S := enS (if nxN s most limit = 0 then s else goS s (nxA s) (nxN s most limit)) (eo s (nxT s most limit))
def nxF (s : S) (most limit : Int) : Bool := eo s (nxT s most limit)
def nxO (s : S) (most limit : Int) : Bool := nxN s most limit != 0 || nxF s most limit
def nxP (s : S) (most limit : Int) : Nat := if nxN s most limit = 0 then (if nxF s most limit then s.ms.length else 0) else nxA s
def nxD (s : S) (most limit : Int) : List Int := (s.bs.drop (nxA s)).take (nxN s most limit)

theorem fs_sent {room : Int} {s : S} (h : Ok room s) (hf : fs 2 s.ms < s.ms.length) : fs 2 s.ms < s.sent := by
  have h1 := fs_at 2 s.ms hf
  rcases Nat.lt_or_ge (fs 2 s.ms) s.sent with hh | hh
  · exact hh
  · have := (h.fr _ hf).2 hh; omega
/-- Where a chunk goes: lost bytes, or fresh ones. -/
theorem nx_in {room : Int} {s : S} (h : Ok room s) (most limit : Int) : nxA s + nxN s most limit ≤ s.ms.length := by
  unfold nxA nxN
  have hs := h.sent
  split
  · have := ld_le 2 (s.ms.drop (fs 2 s.ms)); rw [List.length_drop] at this; omega
  · omega
theorem nx_mark {room : Int} {s : S} (h : Ok room s) (most limit : Int) (i : Nat) (h1 : nxA s ≤ i) (h2 : i < nxA s + nxN s most limit) : (at_ s.ms i = 2 ∧ i < s.sent) ∨ (at_ s.ms i = 0 ∧ s.sent ≤ i ∧ (i : Int) < limit) := by
  have hin : i < s.ms.length := by have := nx_in h most limit; omega
  unfold nxA at h1
  unfold nxA nxN at h2
  split at h1
  · next hf =>
    rw [if_pos hf, if_pos hf] at h2
    have := ld_at 2 (s.ms.drop (fs 2 s.ms)) (i - fs 2 s.ms) (by omega)
    rw [at_drop, show fs 2 s.ms + (i - fs 2 s.ms) = i by omega] at this
    refine .inl ⟨this, ?_⟩
    rcases Nat.lt_or_ge i s.sent with hh | hh
    · exact hh
    · have := (h.fr i (by omega)).2 hh; omega
  · next hf =>
    rw [if_neg hf, if_neg hf] at h2
    have hi : i < s.ms.length := by omega
    exact .inr ⟨(h.fr i hi).2 h1, h1, by omega⟩
theorem nx_len {room : Int} {s : S} (h : Ok room s) (most limit : Int) : (nxD s most limit).length = nxN s most limit := by
  have := nx_in h most limit
  have := h.len
  simp only [nxD, List.length_take, List.length_drop]; omega
theorem nxN_most (s : S) (most limit : Int) : nxN s most limit ≤ most.toNat := by unfold nxN; split <;> omega

theorem ld3_rg {xs : List Int} {f : Int → Int} {lo hi : Nat} (h : ∀ i, lo ≤ i → i < hi → i < xs.length → (f (at_ xs i) = 3 ↔ at_ xs i = 3)) : ld 3 (rg f xs lo hi) = ld 3 xs := by
  have hl := ld_le 3 xs
  have e : ∀ i, i < xs.length → (at_ (rg f xs lo hi) i = 3 ↔ at_ xs i = 3) := by
    intro i hi'
    rw [at_rg hi']
    split
    · next c => exact h i c.1 c.2 hi'
    · exact Iff.rfl
  refine ld_uniq (by rw [rg_len]; omega) (fun i hi' => ?_) (fun hk => ?_)
  · exact (e i (by omega)).2 (ld_at 3 xs i hi')
  · rw [rg_len] at hk
    exact fun hh => ld_end 3 xs hk ((e _ hk).1 hh)
theorem enS_ms (s : S) (b : Bool) : (enS s b).ms = s.ms := by unfold enS; split <;> rfl
theorem enS_bs (s : S) (b : Bool) : (enS s b).bs = s.bs := by unfold enS; split <;> rfl
theorem enS_sent (s : S) (b : Bool) : (enS s b).sent = s.sent := by unfold enS; split <;> rfl
theorem enS_fin (s : S) (b : Bool) : (enS s b).fin = s.fin := by unfold enS; split <;> rfl
theorem enS_en (s : S) (b : Bool) : (enS s b).en = if b then 1 else s.en := by unfold enS; split <;> rfl
theorem nxS_ms (s : S) (most limit : Int) : (nxS s most limit).ms = rg (fun _ => 1) s.ms (nxA s) (nxA s + nxN s most limit) := by
  unfold nxS
  rw [enS_ms]
  split
  · next h => rw [h, rg_none _ _ _ _ (by omega)]
  · rfl
theorem nxS_bs (s : S) (most limit : Int) : (nxS s most limit).bs = s.bs := by
  unfold nxS
  rw [enS_bs]
  split <;> rfl
theorem nxS_fin (s : S) (most limit : Int) : (nxS s most limit).fin = s.fin := by
  unfold nxS
  rw [enS_fin]
  split <;> rfl
theorem nxS_en (s : S) (most limit : Int) : (nxS s most limit).en = if nxF s most limit then 1 else s.en := by
  unfold nxS nxF
  rw [enS_en]
  by_cases h : nxN s most limit = 0
  · rw [if_pos h]
  · rw [if_neg h]; rfl
theorem nxS_sent {room : Int} {s : S} (h : Ok room s) (most limit : Int) : (nxS s most limit).sent = max s.sent (nxA s + nxN s most limit) := by
  unfold nxS
  rw [enS_sent]
  split
  · next hh =>
    rw [hh]
    unfold nxA
    split
    · next hf => have := fs_sent h hf; omega
    · omega
  · rfl
theorem bas_nx {room : Int} {s : S} (h : Ok room s) (most limit : Int) : bas (nxS s most limit) = bas s := by
  unfold bas
  rw [nxS_ms]
  exact ld3_rg (fun i h1 h2 h3 => by have := nx_mark h most limit i h1 h2; omega)
theorem ok_nx {room : Int} {s : S} (h : Ok room s) (most limit : Int) : Ok room (nxS s most limit) := by
  have hin := nx_in h most limit
  have hs := h.sent
  refine ⟨h.r0, h.r1, ?_, ?_, ?_, ?_, ?_, ?_, ?_⟩
  · rw [nxS_bs, nxS_ms, rg_len]; exact h.len
  · rw [nxS_sent h, nxS_ms, rg_len]; omega
  · intro i hi
    rw [nxS_ms, rg_len] at hi
    rw [nxS_ms, nxS_sent h, at_rg hi]
    have hf := h.fr i hi
    split
    · next c => omega
    · next c =>
      rw [hf]
      have : nxA s ≤ s.sent := by
        unfold nxA
        split
        · next hf => have := fs_sent h hf; omega
        · omega
      omega
  · intro i hi
    rw [nxS_ms, rg_len] at hi
    rw [nxS_ms, at_rg hi]
    have := h.mr i hi
    split <;> omega
  · rw [bas_nx h, nxS_ms, rg_len]; exact h.room
  · rw [nxS_en]; have := h.e0; split <;> omega
  · rw [nxS_fin, nxS_en]
    intro hf
    have : nxF s most limit = false := by unfold nxF eo opn; rw [hf]; rfl
    rw [this]
    exact h.ef hf

/-! ### Ack and Lose -/
def tm (ack : Bool) (v : Int) : Int := if ack then 3 else if v = 1 then 2 else v
def tuB (s : S) (a n : Int) (f : Bool) : Bool := decide (a < 0) || decide (n < 0) || decide ((s.sent : Int) < a + n) || (f && (!s.fin || s.en == 0))
def tuE (s : S) (a n : Int) (f : Bool) : Int := if tuB s a n f then 30 else 0
def tuS (s : S) (ack : Bool) (a n : Int) (f : Bool) : S :=
  if tuB s a n f then s else { s with ms := rg (tm ack) s.ms a.toNat (a + n).toNat, en := if f then tm ack s.en else s.en }
theorem tuB_f {s : S} {a n : Int} {f : Bool} (h : tuB s a n f = false) : 0 ≤ a ∧ 0 ≤ n ∧ a + n ≤ s.sent ∧ (f = true → s.fin = true ∧ s.en ≠ 0) := by
  unfold tuB at h
  simp only [Bool.or_eq_false_iff, Bool.and_eq_false_iff, decide_eq_false_iff_not, beq_eq_false_iff_ne, ne_eq] at h
  obtain ⟨⟨⟨h1, h2⟩, h3⟩, h4⟩ := h
  refine ⟨by omega, by omega, by omega, fun hf => ?_⟩
  rcases h4 with h4 | h4
  · rw [hf] at h4; cases h4
  · simpa using h4
theorem tu_len (s : S) (ack : Bool) (a n : Int) (f : Bool) : (tuS s ack a n f).ms.length = s.ms.length := by unfold tuS; split; rfl; exact rg_len _ _ _ _
theorem tu_sent (s : S) (ack : Bool) (a n : Int) (f : Bool) : (tuS s ack a n f).sent = s.sent := by unfold tuS; split <;> rfl
theorem tu_bs (s : S) (ack : Bool) (a n : Int) (f : Bool) : (tuS s ack a n f).bs = s.bs := by unfold tuS; split <;> rfl
theorem tu_fin (s : S) (ack : Bool) (a n : Int) (f : Bool) : (tuS s ack a n f).fin = s.fin := by unfold tuS; split <;> rfl
theorem tm_rng (ack : Bool) {v : Int} (h0 : 0 ≤ v) (h1 : v ≤ 3) : 0 ≤ tm ack v ∧ tm ack v ≤ 3 := by
  unfold tm
  cases ack
  · rw [if_neg (by simp)]; split <;> omega
  · rw [if_pos rfl]; omega
/-- What is done stays so. -/
theorem tu_stays {room : Int} {s : S} (h : Ok room s) (ack : Bool) (a n : Int) (f : Bool) (i : Nat) (hi : i < s.ms.length) (h3 : at_ s.ms i = 3) : at_ (tuS s ack a n f).ms i = 3 := by
  unfold tuS
  split
  · exact h3
  · show at_ (rg _ _ _ _) i = 3
    rw [at_rg hi, h3]
    split
    · cases ack <;> rfl
    · rfl
theorem bas_tu_ge {room : Int} {s : S} (h : Ok room s) (ack : Bool) (a n : Int) (f : Bool) : bas s ≤ bas (tuS s ack a n f) := by
  have hb := bas_le s
  have e := ld_drop (v := 3) (xs := (tuS s ack a n f).ms) (b := bas s) (by rw [tu_len]; exact hb) (fun i hi => tu_stays h ack a n f i (by omega) (ld_at 3 s.ms i hi))
  show bas s ≤ ld 3 _
  omega
theorem bas_tu_lose (s : S) (a n : Int) (f : Bool) : bas (tuS s false a n f) = bas s := by
  unfold tuS
  split
  · rfl
  · refine ld3_rg (fun i _ _ _ => ?_)
    unfold tm
    rw [if_neg (by simp)]
    split <;> omega
theorem ok_tu {room : Int} {s : S} (h : Ok room s) (ack : Bool) (a n : Int) (f : Bool) : Ok room (tuS s ack a n f) := by
  have hge := bas_tu_ge h ack a n f
  refine ⟨h.r0, h.r1, by rw [tu_bs, tu_len]; exact h.len, by rw [tu_sent, tu_len]; exact h.sent, ?_, ?_, by rw [tu_len]; have := h.room; omega, ?_, ?_⟩
  · intro i hi
    rw [tu_len] at hi
    rw [tu_sent, ← h.fr i hi]
    cases hB : tuB s a n f
    · obtain ⟨k1, k2, k3, _⟩ := tuB_f hB
      unfold tuS
      rw [if_neg (by rw [hB]; simp)]
      show at_ (rg _ _ _ _) i = 0 ↔ _
      rw [at_rg hi]
      split
      · next c =>
        have hf := h.fr i hi
        have : at_ s.ms i ≠ 0 := fun e => by have := hf.1 e; omega
        unfold tm
        cases ack
        · rw [if_neg (by simp)]; split <;> omega
        · rw [if_pos rfl]; omega
      · exact Iff.rfl
    · unfold tuS
      rw [if_pos hB]
  · intro i hi
    rw [tu_len] at hi
    have hm := h.mr i hi
    unfold tuS
    split
    · exact hm
    · show 0 ≤ at_ (rg _ _ _ _) i ∧ at_ (rg _ _ _ _) i ≤ 3
      rw [at_rg hi]
      split
      · exact tm_rng ack hm.1 hm.2
      · exact hm
  · have := h.e0
    unfold tuS
    split
    · exact this
    · show 0 ≤ (if f then tm ack s.en else s.en) ∧ (if f then tm ack s.en else s.en) ≤ 3
      split
      · exact tm_rng ack this.1 this.2
      · exact this
  · rw [tu_fin]
    intro hf
    have he := h.ef hf
    cases hB : tuB s a n f
    · obtain ⟨_, _, _, k4⟩ := tuB_f hB
      cases f
      · unfold tuS
        rw [if_neg (by rw [hB]; simp)]
        exact he
      · have := (k4 rfl).1; rw [hf] at this; cases this
    · unfold tuS
      rw [if_pos hB]; exact he
/-- Done. -/
def dnB (s : S) : Bool := s.en == 3 && bas s == s.ms.length
end Go.Proofs.Ytppemfdoogmeeaa
