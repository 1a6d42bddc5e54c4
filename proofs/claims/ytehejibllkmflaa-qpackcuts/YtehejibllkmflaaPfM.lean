/-
  Numbers behind a prefix, as plain mathematics: written, read, read back, in no more bytes. Nothing is proved of a statement here.
-/
namespace Go.Proofs.Ytehejibllkmflaa
set_option linter.unusedVariables false
set_option maxRecDepth 20000

/-- What follows the prefix: seven bits a byte, the lowest first. -/
def ctF : Nat → Int → List Int
  | 0, m => [m]
  | f + 1, m => if m < 128 then [m] else (128 + m % 128) :: ctF f (m / 128)
def mxN : Int := 4611686018427387903
/-- A number behind a prefix of k bits; z is 2 to the k, h what stands above it. -/
def pfP (n z h : Int) : List Int := if n < z - 1 then [h + n] else (h + z - 1) :: ctF 8 (n - (z - 1))
/-- What is read of the bytes that follow: the number, how many bytes with the first one, the error. -/
def gl (n u : Int) (i : Nat) : List Int → Int × Nat × Int
  | [] => (0, 0, 12)
  | y :: r => if 0 < y % 128 ∧ (9 < i ∨ (mxN - n) / u < y % 128) then (0, 0, 151) else if y < 128 then (n + y % 128 * u, i + 1, 0) else if i = 10 then (0, 0, 151) else gl (n + y % 128 * u) (if i < 9 then u * 128 else u) (i + 1) r
def pfG (zs : List Int) (p : Nat) (z : Int) : Int × Nat × Int :=
  match zs.drop p with
  | [] => (0, 0, 12)
  | y :: r => if y % z < z - 1 then (y % z, p + 1, 0) else match gl (y % z) 1 1 r with | (n, c, e) => if e = 0 then (n, p + c, 0) else (0, 0, e)

theorem mul_le_div {x u d : Int} (hu : 0 < u) (h : x * u ≤ d) : x ≤ d / u := Int.le_ediv_of_mul_le hu h
theorem div_mul_le' {x u d : Int} (hu : 0 < u) (h : x ≤ d / u) : x * u ≤ d := Int.mul_le_of_le_ediv hu h
theorem ct_bytes : ∀ (f : Nat) (m : Int), 0 ≤ m → m < 128 * 128 ^ f → ∀ y ∈ ctF f m, 0 ≤ y ∧ y < 256
  | 0, m, h0, h1, y, hy => by
    rw [ctF, List.mem_singleton] at hy
    subst hy
    omega
  | f + 1, m, h0, h1, y, hy => by
    rw [ctF] at hy
    split at hy
    · rw [List.mem_singleton] at hy; omega
    · rcases List.mem_cons.1 hy with rfl | hy
      · omega
      · refine ct_bytes f (m / 128) (by omega) ?_ y hy
        rw [Int.pow_succ] at h1
        have := Int.ediv_lt_of_lt_mul (a := m) (b := 128 * 128 ^ f) (c := 128) (by omega) (by rw [Int.mul_assoc]; exact h1)
        exact this
theorem ct_pos (f : Nat) (m : Int) : 0 < (ctF f m).length := by
  cases f with
  | zero => simp [ctF]
  | succ f => rw [ctF]; split <;> simp
theorem ct_len : ∀ (f : Nat) (m : Int), (ctF f m).length ≤ f + 1
  | 0, m => by simp [ctF]
  | f + 1, m => by
    rw [ctF]
    split
    · simp
    · have := ct_len f (m / 128)
      simp
      omega
/-- What was written is read. -/
theorem gl_ct (after : List Int) : ∀ (f i : Nat) (n u m : Int), i + f = 9 → 1 ≤ i → 0 ≤ m → 0 < u → m < 128 * 128 ^ f → n + m * u ≤ mxN → gl n u i (ctF f m ++ after) = (n + m * u, i + (ctF f m).length, 0)
  | 0, i, n, u, m, hi, h1, h0, hu, hm, hb => by
    have hm' : m < 128 := by simpa using hm
    have e : m % 128 = m := by omega
    have hd := mul_le_div hu (show m * u ≤ mxN - n by omega)
    show gl n u i (m :: after) = _
    rw [gl, e, if_neg (by omega), if_pos hm']
    rfl
  | f + 1, i, n, u, m, hi, h1, h0, hu, hm, hb => by
    by_cases hs : m < 128
    · have e : m % 128 = m := by omega
      have hd := mul_le_div hu (show m * u ≤ mxN - n by omega)
      rw [ctF, if_pos hs]
      show gl n u i (m :: after) = _
      rw [gl, e, if_neg (by omega), if_pos hs]
      rfl
    · have hx0 : 0 ≤ m % 128 := by omega
      have hxm : m % 128 * u ≤ m * u := Int.mul_le_mul_of_nonneg_right (by omega) (by omega)
      have hd := mul_le_div hu (show m % 128 * u ≤ mxN - n by omega)
      have e : (128 + m % 128) % 128 = m % 128 := by omega
      have es : n + m % 128 * u + m / 128 * (u * 128) = n + m * u := by
        have h := Int.emod_add_mul_ediv m 128
        have h2 : m / 128 * (u * 128) = 128 * (m / 128) * u := by rw [Int.mul_comm u 128, ← Int.mul_assoc, Int.mul_comm (m / 128) 128]
        rw [h2, Int.add_assoc, ← Int.add_mul, h]
      have hlt : m / 128 < 128 * 128 ^ f := Int.ediv_lt_of_lt_mul (by omega) (by rw [Int.pow_succ, ← Int.mul_assoc] at hm; exact hm)
      have ih := gl_ct after f (i + 1) (n + m % 128 * u) (u * 128) (m / 128) (by omega) (by omega) (by omega) (by omega) hlt (by rw [es]; exact hb)
      rw [ctF, if_neg hs, List.cons_append, gl, e, if_neg (by omega), if_neg (by omega), if_neg (by omega), if_pos (by omega), ih, es]
      simp
      omega
/-- What is read is written in no more bytes, and in the same ones if as many. -/
theorem gl_least : ∀ (zs : List Int) (i : Nat) (n u : Int) {v : Int} {c : Nat}, (∀ y ∈ zs, 0 ≤ y ∧ y < 256) → 1 ≤ i → i ≤ 10 → 0 < u → 0 ≤ n → n ≤ mxN → gl n u i zs = (v, c, 0) →
    ∃ (m : Int) (k : Nat), c = i + k ∧ 1 ≤ k ∧ k ≤ zs.length ∧ 0 ≤ m ∧ v = n + m * u ∧ v ≤ mxN ∧ (i = 10 → m = 0) ∧ (9 ≤ i → m < 128) ∧ (ctF (9 - i) m).length ≤ k ∧ ((ctF (9 - i) m).length = k → ctF (9 - i) m = zs.take k)
  | [], i, n, u, v, c, _, _, _, _, _, _, h => by rw [gl] at h; cases h
  | y :: r, i, n, u, v, c, hz, h1, h10, hu, hn0, hn, h => by
    have hy := hz y (by simp)
    have hx0 : 0 ≤ y % 128 := by omega
    rw [gl] at h
    split at h
    · cases h
    next hc =>
    have hx9 : 9 < i → y % 128 = 0 := fun h9 => by
      rcases Int.lt_or_le 0 (y % 128) with hp | hp
      · exact absurd ⟨hp, .inl h9⟩ hc
      · omega
    have hxd : y % 128 ≤ (mxN - n) / u := by
      rcases Int.lt_or_le 0 (y % 128) with hp | hp
      · exact Int.not_lt.1 (fun hh => hc ⟨hp, .inr hh⟩)
      · have := Int.ediv_nonneg (a := mxN - n) (b := u) (by omega) (by omega)
        omega
    have hxm := div_mul_le' hu hxd
    have hxp : 0 ≤ y % 128 * u := Int.mul_nonneg hx0 (by omega)
    split at h
    · next hl =>
      have e : y % 128 = y := by omega
      simp only [Prod.mk.injEq] at h
      rw [e] at hxm hxp h
      have one : ∀ f, ctF f y = [y] := by
        intro f
        cases f with
        | zero => rfl
        | succ f => rw [ctF, if_pos hl]
      refine ⟨y, 1, by omega, by omega, by simp, hy.1, h.1.symm, by rw [← h.1]; omega, fun h => by have := hx9 (by omega); omega, fun _ => hl, by rw [one]; simp, fun _ => by rw [one]; rfl⟩
    · next hl =>
      split at h
      · cases h
      next hi10 =>
      obtain ⟨m', k', g1, g2, g3, g4, g5, g6, g7, g8, g9, g10⟩ := gl_least r (i + 1) (n + y % 128 * u) (if i < 9 then u * 128 else u) (fun z hzz => hz z (by simp [hzz])) (by omega) (by omega) (by split <;> omega) (by omega) (by omega) h
      by_cases h9 : i < 9
      · rw [if_pos h9] at g5
        have es : n + y % 128 * u + m' * (u * 128) = n + (y % 128 + 128 * m') * u := by
          have h2 : m' * (u * 128) = 128 * m' * u := by rw [Int.mul_comm u 128, ← Int.mul_assoc, Int.mul_comm m' 128]
          rw [h2, Int.add_assoc, ← Int.add_mul]
        have hf : 9 - i = (9 - (i + 1)) + 1 := by omega
        refine ⟨y % 128 + 128 * m', k' + 1, by omega, by omega, by simp; omega, by omega, by rw [g5, es], g6, by omega, by omega, ?_, ?_⟩
        · rw [hf, ctF]
          split
          · simp
          · rw [List.length_cons, show (y % 128 + 128 * m') / 128 = m' by omega]; omega
        · rw [hf, ctF]
          split
          · intro hk; simp at hk; omega
          · rw [List.length_cons, show (y % 128 + 128 * m') / 128 = m' by omega, show 128 + (y % 128 + 128 * m') % 128 = y by omega]
            intro hk
            rw [g10 (by omega), List.take_succ_cons]
      · have hi9 : i = 9 := by omega
        subst hi9
        have hm0 := g7 rfl
        subst hm0
        have ev : v = n + y % 128 * u := by rw [g5]; simp
        have one : ctF (9 - 9) (y % 128) = [y % 128] := rfl
        refine ⟨y % 128, k' + 1, by omega, by omega, by simp; omega, hx0, ev, by rw [ev]; omega, by omega, fun _ => by omega, by rw [one]; simp, fun hk => by rw [one] at hk; simp at hk; omega⟩
/-- A number is read back from where it stands. -/
theorem pf_back (ahead after : List Int) (n z h : Int) (hz : 2 ≤ z) (h0 : 0 ≤ n) (hn : n ≤ mxN) (hh : h % z = 0) : pfG (ahead ++ (pfP n z h ++ after)) ahead.length z = (n, ahead.length + (pfP n z h).length, 0) := by
  obtain ⟨q, hq⟩ := Int.dvd_of_emod_eq_zero hh
  have hmod : ∀ t : Int, 0 ≤ t → t < z → (h + t) % z = t := by
    intro t t0 t1
    rw [hq, Int.add_comm, Int.add_mul_emod_self_left, Int.emod_eq_of_lt t0 t1]
  unfold pfG
  rw [List.drop_left']
  · unfold pfP
    by_cases hs : n < z - 1
    · rw [if_pos hs, List.cons_append]
      simp only
      rw [hmod n h0 (by omega), if_pos hs]
      rfl
    · rw [if_neg hs, List.cons_append]
      simp only
      have e : (h + z - 1) % z = z - 1 := by rw [show h + z - 1 = h + (z - 1) by omega]; exact hmod (z - 1) (by omega) (by omega)
      rw [e, if_neg (by omega)]
      have hmx : mxN = 4611686018427387903 := rfl
      have hg := gl_ct after 8 1 (z - 1) 1 (n - (z - 1)) (by omega) (by omega) (by omega) (by omega) (by rw [show (128 : Int) * 128 ^ 8 = 9223372036854775808 by decide]; omega) (by omega)
      rw [hg]
      simp only [if_true]
      rw [List.length_cons]
      simp
      omega
  · rfl
/-- What is read is written in no more bytes. -/
theorem pf_least (zs : List Int) (z : Int) (hz : 2 ≤ z) (h256 : z ≤ 256) (hb : ∀ y ∈ zs, 0 ≤ y ∧ y < 256) {n : Int} {c : Nat} (h : pfG zs 0 z = (n, c, 0)) : ∃ y r, zs = y :: r ∧ 0 ≤ n ∧ n ≤ mxN ∧ (pfP n z (y / z * z)).length ≤ c ∧ c ≤ zs.length ∧ ((pfP n z (y / z * z)).length = c → pfP n z (y / z * z) = zs.take c) := by
  cases zs with
  | nil => simp [pfG] at h
  | cons y r =>
    have hy := hb y (by simp)
    have hm0 := Int.emod_nonneg y (show z ≠ 0 by omega)
    have hm1 := Int.emod_lt_of_pos y (show 0 < z by omega)
    have hdm := Int.mul_ediv_add_emod y z
    have hcm : y / z * z = z * (y / z) := Int.mul_comm _ _
    refine ⟨y, r, rfl, ?_⟩
    unfold pfG at h
    rw [List.drop_zero] at h
    simp only at h
    by_cases hs : y % z < z - 1
    · rw [if_pos hs] at h
      simp only [Prod.mk.injEq] at h
      obtain ⟨rfl, rfl, _⟩ := h
      have hmx : mxN = 4611686018427387903 := rfl
      refine ⟨hm0, by omega, ?_, by simp, ?_⟩
      · unfold pfP; rw [if_pos hs]; simp
      · intro _
        unfold pfP
        rw [if_pos hs, show y / z * z + y % z = y by omega]
        rfl
    · rw [if_neg hs] at h
      have hyz : y % z = z - 1 := by omega
      cases hg : gl (y % z) 1 1 r with
      | mk v p =>
        obtain ⟨c', e⟩ := p
        rw [hg] at h
        simp only at h
        split at h
        · next he =>
          subst he
          simp only [Prod.mk.injEq] at h
          obtain ⟨rfl, rfl, _⟩ := h
          have hmx : mxN = 4611686018427387903 := rfl
          obtain ⟨m, k, g1, g2, g3, g4, g5, g6, _, _, g9, g10⟩ := gl_least r 1 (y % z) 1 (fun t ht => hb t (by simp [ht])) (by omega) (by omega) (by omega) hm0 (by omega) hg
          rw [Int.mul_one] at g5
          have hpf : pfP v z (y / z * z) = y :: ctF 8 m := by
            unfold pfP
            rw [if_neg (by omega), show y / z * z + z - 1 = y by omega, show v - (z - 1) = m by omega]
          rw [hpf]
          refine ⟨by omega, g6, ?_, ?_, ?_⟩
          · rw [List.length_cons]; have : (ctF 8 m).length ≤ k := g9; omega
          · rw [List.length_cons]; omega
          · rw [List.length_cons]
            intro hk
            have e2 := g10 (show (ctF 8 m).length = k by omega)
            have e3 : ctF 8 m = r.take k := e2
            rw [e3, show 0 + c' = k + 1 by omega, List.take_succ_cons]
        · cases h; omega
end Go.Proofs.Ytehejibllkmflaa
