/-
  Frames that are written one behind the other are read back: plain mathematics.
-/
import Derived.Test.YtdlefmlienfjhaaHfA
import Derived.Test.YtdlefmlienfjhaaWrM
namespace Go.Proofs.Ytdlefmlienfjhaa
set_option linter.unusedVariables false

theorem rd_form0 {n : Int} (h : okN n) (z2 : List Int) : rd (form n ++ z2) 0 = (n, ((form n).length : Int), 0) := by
  have := rd_form h.1 h.2 [] z2
  rw [List.nil_append] at this
  rw [form_length]
  simpa using this
theorem rd_formA {n : Int} (h : okN n) (z0 z2 : List Int) : rd (z0 ++ (form n ++ z2)) z0.length = (n, (z0.length : Int) + (form n).length, 0) := by
  have := rd_form h.1 h.2 z0 z2
  rw [List.append_assoc] at this
  rw [form_length]
  exact this
/-- A frame's bytes. -/
def frW (k : Int) (p : List Int) : List Int := form k ++ (form (p.length : Int) ++ p)
/-- A reader between two frames. -/
def Idl (st begun fr : Int) (held : List Int) : Hf := ⟨st, 1048576, held, false, begun, false, fr, 0, false, 0⟩
/-- .. at a frame's payload. -/
def Inn (st begun k : Int) (p r : List Int) : Hf := ⟨st, 1048576, p ++ r, false, begun, true, k, p.length, false, 0⟩
def nxB (k begun : Int) : Int := if k = 1 ∨ k = 4 then begun + 1 else begun
theorem idl_ok {st begun fr : Int} {held : List Int} (hs : st = 1 ∨ st = 2) (hb : 0 ≤ begun ∧ begun ≤ 2) (hf : okN fr) (hz : ∀ y ∈ held, 0 ≤ y ∧ y < 256) : Hok (Idl st begun fr held) :=
  ⟨hs, (by show (0 : Int) ≤ 1048576 ∧ (1048576 : Int) ≤ 1048576; omega), hz, hb, (fun h => by cases h), (by show (0 : Int) ≤ 0 ∧ (0 : Int) ≤ 4611686018427387903; omega), hf⟩
theorem ent_fr {st begun fr k : Int} {p r : List Int} (hk : okN k) (hp : okN (p.length : Int)) (hr : refu st 1048576 begun k p.length = 0) : ent (Idl st begun fr (frW k p ++ r)) = (true, Inn st (nxB k begun) k p r) := by
  have e : frW k p ++ r = form k ++ (form (p.length : Int) ++ (p ++ r)) := by unfold frW; simp
  have h1 := rd_form0 hk (form (p.length : Int) ++ (p ++ r))
  have h2 := rd_formA hp (form k) (p ++ r)
  unfold ent Idl
  dsimp only
  rw [e, h1]
  dsimp only
  rw [h2]
  dsimp only
  rw [if_neg (by simp), if_neg (by simp), if_neg (by rw [hr]; simp)]
  unfold Inn nxB
  have hd : (form k ++ (form (p.length : Int) ++ (p ++ r))).drop ((((form k).length : Int) + (form (p.length : Int)).length).toNat) = p ++ r := by
    rw [← List.append_assoc, show (((form k).length : Int) + (form (p.length : Int)).length).toNat = (form k ++ form (p.length : Int)).length by rw [List.length_append]; omega, List.drop_left]
  rw [hd]
theorem rdy_inn {st begun k : Int} {p r : List Int} : rdy (Inn st begun k p r) = true := by
  unfold rdy Inn
  dsimp only
  split
  · exact decide_eq_true (by rw [List.length_append]; omega)
  · exact decide_eq_true (by rw [List.length_append]; omega)
theorem tkN_inn {st begun k : Int} {p r : List Int} : tkN (Inn st begun k p r) = p.length := by
  unfold tkN Inn
  dsimp only
  rw [List.length_append]
  omega
/-- One frame: the event that it makes, and the reader behind it. -/
theorem runA_fr {st begun fr k : Int} {p r : List Int} {e : Option Ev} (hs : st = 1 ∨ st = 2) (hb : 0 ≤ begun ∧ begun ≤ 2) (hf : okN fr) (hk : okN k) (hp : okN (p.length : Int)) (hz : ∀ y ∈ p ++ r, 0 ≤ y ∧ y < 256) (hr : refu st 1048576 begun k p.length = 0)
    (ht : tak (Inn st (nxB k begun) k p r) = (e, Idl st (nxB k begun) k r)) : runA (Idl st begun fr (frW k p ++ r)) = (consE e (runA (Idl st (nxB k begun) k r)).1, (runA (Idl st (nxB k begun) k r)).2) := by
  have hok : Hok (Idl st begun fr (frW k p ++ r)) := idl_ok hs hb hf (fun y hy => by
    unfold frW at hy
    simp only [List.mem_append] at hy
    rcases hy with (hy | hy | hy) | hy
    · exact form_bytes _ y hy
    · exact form_bytes _ y hy
    · exact hz y (by simp [hy])
    · exact hz y (by simp [hy]))
  have he := ent_fr (fr := fr) (r := r) hk hp hr
  rw [runA_ent hok rfl rfl (by rw [he]), he]
  unfold runI
  rw [if_pos rdy_inn, ht]
theorem drop_p (p r : List Int) : (p ++ r).drop p.length = r := List.drop_left
theorem take_p (p r : List Int) : (p ++ r).take p.length = p := List.take_left
theorem tak_settings {st begun c b l : Int} {p r : List Int} (h : setE p = ((c, b, l), 0)) : tak (Inn st begun 4 p r) = (some ⟨3, [], c, b, l, 0⟩, Idl st begun 4 r) := by
  unfold tak
  rw [tkN_inn]
  unfold Inn Idl
  dsimp only
  rw [if_neg (by decide), if_neg (by decide), if_pos rfl, take_p, h, drop_p]
  simp
theorem tak_number {st begun n : Int} {p r : List Int} (h : numE p = (n, 0)) : tak (Inn st begun 7 p r) = (some ⟨4, [], 0, 0, 0, n⟩, Idl st begun 7 r) := by
  unfold tak
  rw [tkN_inn]
  unfold Inn Idl
  dsimp only
  rw [if_neg (by decide), if_neg (by decide), if_neg (by decide), if_pos (.inl rfl), take_p, h, drop_p]
  simp
theorem tak_head {st begun : Int} {p r : List Int} : tak (Inn st begun 1 p r) = (some ⟨1, p, 0, 0, 0, 0⟩, Idl st begun 1 r) := by
  unfold tak
  rw [tkN_inn]
  unfold Inn Idl
  dsimp only
  rw [if_neg (by decide), if_pos rfl, take_p, drop_p]
  simp
theorem tak_body {st begun : Int} {p r : List Int} : tak (Inn st begun 0 p r) = (if p = [] then none else some ⟨2, p, 0, 0, 0, 0⟩, Idl st begun 0 r) := by
  unfold tak
  rw [tkN_inn]
  unfold Inn Idl
  dsimp only
  rw [if_pos rfl, take_p, drop_p]
  cases p <;> simp
theorem tak_odd {st begun k : Int} {p r : List Int} (h : 13 < k) : tak (Inn st begun k p r) = (none, Idl st begun k r) := by
  unfold tak
  rw [tkN_inn]
  unfold Inn Idl
  dsimp only
  rw [if_neg (by omega), if_neg (by omega), if_neg (by omega), if_neg (by omega), drop_p]
  simp
/-- Nothing is there. -/
theorem runA_nil {st begun fr : Int} (hs : st = 1 ∨ st = 2) (hb : 0 ≤ begun ∧ begun ≤ 2) (hf : okN fr) : runA (Idl st begun fr []) = (([], []), Idl st begun fr []) := by
  have hok := idl_ok (held := []) hs hb hf (fun y hy => by cases hy)
  have he : ent (Idl st begun fr []) = (false, Idl st begun fr []) := by
    unfold ent Idl
    dsimp only
    rw [if_pos (by decide)]
  rw [runA_no hok rfl rfl (by rw [he]), he]
/-! ### settings -/
theorem sttL_pair {zs A B : List Int} {i v : Int} (hi : okN i) (hv : okN v) (hzs : zs = A ++ (form i ++ (form v ++ B))) (k : Nat) (m : Int → Option Int) (r : Bool) :
    sttL zs (k + 1) A.length m r = sttL zs k (A ++ (form i ++ form v)).length (upd m i v) (r || (m i).isSome || decide (2 ≤ i ∧ i ≤ 5)) := by
  have h1 : rd zs A.length = (i, (A.length : Int) + (form i).length, 0) := by rw [hzs]; exact rd_formA hi A _
  have h2 : rd zs ((A.length : Int) + (form i).length) = (v, ((A ++ (form i ++ form v)).length : Int), 0) := by
    have h := rd_formA hv (A ++ form i) B
    rw [hzs]
    have e : A ++ (form i ++ (form v ++ B)) = (A ++ form i) ++ (form v ++ B) := by simp
    rw [e]
    have e2 : ((A ++ form i).length : Int) = (A.length : Int) + (form i).length := by rw [List.length_append]; omega
    rw [e2] at h
    rw [h]
    have e3 : ((A ++ (form i ++ form v)).length : Int) = (A.length : Int) + (form i).length + (form v).length := by rw [List.length_append, List.length_append]; omega
    rw [e3]
  have hl : ¬ (zs.length : Int) ≤ A.length := by
    rw [hzs]
    have h3 := form_length i
    have h4 := sz_some hi.1 hi.2
    simp only [List.length_append]
    omega
  rw [sttL, if_neg hl, h1]
  dsimp only
  rw [h2]
  dsimp only
  rw [if_neg (by simp), if_neg (by simp)]
theorem sttL_stop {zs A : List Int} (hzs : zs = A) (k : Nat) (m : Int → Option Int) : sttL zs (k + 1) A.length m false = (((m 1).getD 0, (m 7).getD 0, (m 6).getD (-1)), 0) := by
  rw [sttL, if_pos (by rw [hzs]; exact Int.le_refl _)]
  rfl
theorem okv {c : Int} (h0 : ¬ c < 0) (h1 : ¬ 4611686018427387903 < c) : okN c := ⟨by omega, by omega⟩
theorem set_back {c b l : Int} (h : stE c b l = 0) : setE (nmB (stL c b l)) = ((c, b, l), 0) := by
  have he : nmE (stL c b l) = 0 := h
  have h' := stE_iff c b l
  rw [he] at h'
  have hc : ¬ (c < 0 ∨ b < 0 ∨ l < -1 ∨ 4611686018427387903 < c ∨ 4611686018427387903 < b ∨ 4611686018427387903 < l) := by
    intro hh
    rw [if_pos hh] at h'
    cases h'
  have o1 : okN 1 := by decide
  have o6 : okN 6 := by decide
  have o7 : okN 7 := by decide
  have e : nmB (stL c b l) = stP 1 c 0 ++ (stP 7 b 0 ++ stP 6 l (-1)) := by
    rw [nmB, if_pos he, stL_flat]
  rw [e]
  have len_pair : ∀ i v : Int, (i :: form v).length ≥ 1 := fun i v => by simp
  have f3 : ∀ (k : Nat) (A : List Int) (m : Int → Option Int), (stP 6 l (-1)).length ≤ k → m 6 = none → sttL (A ++ stP 6 l (-1)) (k + 1) A.length m false = (((m 1).getD 0, (m 7).getD 0, l), 0) := by
    intro k A m hk hm
    unfold stP at hk ⊢
    by_cases hl : l = -1
    · rw [if_pos hl, List.append_nil, sttL_stop rfl, hm, hl]; rfl
    · rw [if_neg hl] at hk ⊢
      obtain ⟨k, rfl⟩ : ∃ j, k = j + 1 := ⟨k - 1, by have := len_pair 6 l; omega⟩
      have e6 : A ++ 6 :: form l = A ++ (form 6 ++ (form l ++ [])) := by rw [form6]; simp
      rw [e6, sttL_pair o6 (okv (by omega) (by omega)) rfl, hm, show (false || (none : Option Int).isSome || decide ((2 : Int) ≤ 6 ∧ (6 : Int) ≤ 5)) = false from rfl, sttL_stop (by simp)]
      rfl
  have f2 : ∀ (k : Nat) (A : List Int) (m : Int → Option Int), (stP 7 b 0 ++ stP 6 l (-1)).length ≤ k → m 6 = none → m 7 = none → sttL (A ++ (stP 7 b 0 ++ stP 6 l (-1))) (k + 1) A.length m false = (((m 1).getD 0, b, l), 0) := by
    intro k A m hk hm hm7
    by_cases hb : b = 0
    · have e0 : stP 7 b 0 = [] := by unfold stP; rw [if_pos hb]
      rw [e0, List.nil_append] at hk ⊢
      rw [f3 k A m hk hm, hm7, hb]; rfl
    · have e0 : stP 7 b 0 = form 7 ++ form b := by unfold stP; rw [if_neg hb, form7]; rfl
      rw [e0] at hk ⊢
      have hl7 : (form 7).length = 1 := by rw [form7]; rfl
      rw [List.length_append, List.length_append, hl7] at hk
      obtain ⟨k, rfl⟩ : ∃ j, k = j + 1 := ⟨k - 1, by omega⟩
      have e7 : A ++ (form 7 ++ form b ++ stP 6 l (-1)) = A ++ (form 7 ++ (form b ++ stP 6 l (-1))) := by simp
      rw [e7, sttL_pair o7 (okv (by omega) (by omega)) rfl, hm7, show (false || (none : Option Int).isSome || decide ((2 : Int) ≤ 7 ∧ (7 : Int) ≤ 5)) = false from rfl]
      have e8 : A ++ (form 7 ++ (form b ++ stP 6 l (-1))) = (A ++ (form 7 ++ form b)) ++ stP 6 l (-1) := by simp
      rw [e8, f3 k _ _ (by omega) (by show upd m 7 b 6 = none; unfold upd; rw [if_neg (by decide)]; exact hm)]
      unfold upd
      simp
  have f1 : ∀ (k : Nat) (m : Int → Option Int), (stP 1 c 0 ++ (stP 7 b 0 ++ stP 6 l (-1))).length ≤ k → m 6 = none → m 7 = none → m 1 = none → sttL (stP 1 c 0 ++ (stP 7 b 0 ++ stP 6 l (-1))) (k + 1) 0 m false = ((c, b, l), 0) := by
    intro k m hk hm hm7 hm1
    by_cases hc0 : c = 0
    · have e0 : stP 1 c 0 = [] := by unfold stP; rw [if_pos hc0]
      rw [e0, List.nil_append] at hk ⊢
      have := f2 k [] m hk hm hm7
      rw [List.nil_append, hm1] at this
      rw [hc0]
      exact this
    · have e0 : stP 1 c 0 = form 1 ++ form c := by unfold stP; rw [if_neg hc0, form1]; rfl
      rw [e0] at hk ⊢
      have hl1 : (form 1).length = 1 := by rw [form1]; rfl
      rw [List.length_append, List.length_append, hl1] at hk
      obtain ⟨k, rfl⟩ : ∃ j, k = j + 1 := ⟨k - 1, by omega⟩
      have h := sttL_pair (zs := form 1 ++ form c ++ (stP 7 b 0 ++ stP 6 l (-1))) (A := []) (B := stP 7 b 0 ++ stP 6 l (-1)) o1 (okv (c := c) (by omega) (by omega)) (by simp) (k + 1) m false
      rw [List.length_nil, hm1, show (false || (none : Option Int).isSome || decide ((2 : Int) ≤ 1 ∧ (1 : Int) ≤ 5)) = false from rfl, List.nil_append] at h
      have h0 : ((0 : Nat) : Int) = 0 := rfl
      rw [h0] at h
      rw [h, f2 k _ _ (by omega) (by show upd m 1 c 6 = none; unfold upd; rw [if_neg (by decide)]; exact hm) (by show upd m 1 c 7 = none; unfold upd; rw [if_neg (by decide)]; exact hm7)]
      unfold upd
      simp
  unfold setE
  exact f1 _ _ (Nat.le_refl _) rfl rfl rfl
theorem num_back {n : Int} (h : okN n) : numE (form n) = (n, 0) := by
  have := rd_form0 h []
  rw [List.append_nil] at this
  unfold numE
  rw [this]
  simp
/-- What is read of settings and a goaway. -/
theorem settles_all {c b l n : Int} (h : stE c b l = 0) (hn : gaE n = 0) : allW 2 (stB c b l ++ gaB n) = (([⟨3, [], c, b, l, 0⟩, ⟨4, [], 0, 0, 0, n⟩], []), Idl 2 1 7 []) ∧ (allZ 2 (stB c b l ++ gaB n)).fault = 172 := by
  have hok : okN n := by
    rw [gaE_eq] at hn
    by_cases hh : n < 0 ∨ 4611686018427387903 < n
    · rw [if_pos hh] at hn; cases hn
    · exact ⟨by omega, by omega⟩
  have e1 : stB c b l = frW 4 (nmB (stL c b l)) := by
    unfold stB frB frW
    rw [if_pos h, fr4, if_pos rfl]
  have e2 : gaB n = frW 7 (form n) := by
    unfold gaB
    have := fr7 n
    rw [if_pos hn]
    unfold frB frW
    have e : nmB [n] = form n := by
      have h1 : nmE [n] = 0 := hn
      unfold nmB
      rw [if_pos h1]; simp
    rw [e] at this ⊢
    rw [this, if_pos rfl]
  have l1 := nmB_len (stL c b l)
  have l2 := stL_len c b l
  have l3 := form_length n
  have l4 := sz_le n
  have z1 : ∀ y ∈ nmB (stL c b l), 0 ≤ y ∧ y < 256 := by
    intro y hy
    unfold nmB at hy
    split at hy
    · exact flat_bytes _ y hy
    · cases hy
  have z2 : ∀ y ∈ frW 7 (form n), 0 ≤ y ∧ y < 256 := by
    intro y hy
    unfold frW at hy
    simp only [List.mem_append] at hy
    rcases hy with hy | hy | hy <;> exact form_bytes _ y hy
  have o4 : okN 4 := by decide
  have o7 : okN 7 := by decide
  have o0 : okN 0 := by decide
  have hW : allW 2 (stB c b l ++ gaB n) = runA (Idl 2 0 0 (frW 4 (nmB (stL c b l)) ++ (frW 7 (form n) ++ []))) := by
    rw [e1, e2, List.append_nil]; rfl
  have r1 : refu 2 1048576 0 4 ((nmB (stL c b l)).length : Int) = 0 := by
    unfold refu
    rw [if_neg (by decide), if_neg (by decide), if_neg (by unfold mostOf; simp; omega)]
  have r2 : refu 2 1048576 1 7 ((form n).length : Int) = 0 := by
    unfold refu
    rw [if_neg (by decide), if_neg (by decide), if_neg (by unfold mostOf; simp; omega)]
  have n4 : nxB 4 0 = 1 := rfl
  have n7 : nxB 7 1 = 1 := rfl
  have step1 := runA_fr (st := 2) (begun := 0) (fr := 0) (k := 4) (p := nmB (stL c b l)) (r := frW 7 (form n) ++ []) (.inr rfl) ⟨by omega, by omega⟩ o0 o4 ⟨by omega, by omega⟩ (fun y hy => by
    rw [List.append_nil] at hy
    rcases List.mem_append.1 hy with hy | hy
    · exact z1 y hy
    · exact z2 y hy) r1 (tak_settings (set_back h))
  have step2 := runA_fr (st := 2) (begun := 1) (fr := 4) (k := 7) (p := form n) (r := []) (.inr rfl) ⟨by omega, by omega⟩ o4 o7 ⟨by omega, by omega⟩ (fun y hy => by
    rw [List.append_nil] at hy
    exact form_bytes _ y hy) r2 (tak_number (num_back hok))
  rw [n4] at step1
  rw [n7, runA_nil (.inr rfl) ⟨by omega, by omega⟩ o7] at step2
  rw [step2] at step1
  have hA : allW 2 (stB c b l ++ gaB n) = (([⟨3, [], c, b, l, 0⟩, ⟨4, [], 0, 0, 0, n⟩], []), Idl 2 1 7 []) := by
    rw [hW, step1]; rfl
  refine ⟨hA, ?_⟩
  unfold allZ
  rw [hA]
  rfl
end Go.Proofs.Ytdlefmlienfjhaa
