/-
  A message that is written in frames is read back: plain mathematics.
-/
import Derived.Test.YtdlefmlienfjhaaFrM
namespace Go.Proofs.Ytdlefmlienfjhaa
set_option linter.unusedVariables false

abbrev byt (l : List Int) : Prop := ∀ y ∈ l, 0 ≤ y ∧ y < 256
theorem frW_byt {k : Int} {p : List Int} (h : byt p) : byt (frW k p) := by
  intro y hy
  unfold frW at hy
  simp only [List.mem_append] at hy
  rcases hy with hy | hy | hy
  · exact form_bytes _ y hy
  · exact form_bytes _ y hy
  · exact h y hy
theorem byt_app {a b : List Int} (h : byt a) (k : byt b) : byt (a ++ b) := fun y hy => (List.mem_append.1 hy).elim (h y) (k y)
theorem frW_len (k : Int) (p : List Int) : (frW k p).length ≤ 16 + p.length := by
  unfold frW
  have h1 := form_length k
  have h2 := sz_le k
  have h3 := form_length (p.length : Int)
  have h4 := sz_le (p.length : Int)
  simp only [List.length_append]
  omega
/-- Junk between frames: none, or a frame of a kind that nobody knows. -/
def Jnk (J : List Int) : Prop := J = [] ∨ ∃ k p, 13 < k ∧ okN k ∧ okN ((p : List Int).length : Int) ∧ byt p ∧ J = frW k p
theorem Jnk.byt {J : List Int} (h : Jnk J) : byt J := by
  rcases h with rfl | ⟨k, p, _, _, _, hp, rfl⟩
  · intro y hy; cases hy
  · exact frW_byt hp
theorem runA_junk {begun fr : Int} {J R : List Int} (hb : 0 ≤ begun ∧ begun ≤ 2) (hf : okN fr) (hJ : Jnk J) (hR : byt R) : ∃ fr', okN fr' ∧ runA (Idl 1 begun fr (J ++ R)) = runA (Idl 1 begun fr' R) := by
  rcases hJ with rfl | ⟨k, p, h13, hk, hp, hz, rfl⟩
  · exact ⟨fr, hf, rfl⟩
  · have hn : nxB k begun = begun := by unfold nxB; rw [if_neg (by omega)]
    have hr : refu 1 1048576 begun k p.length = 0 := by
      have hm : mayC 1 begun k = true := by
        unfold mayC
        rw [if_neg (by omega), if_neg (by omega), if_neg (by omega), if_neg (by omega)]
        exact decide_eq_true (by omega)
      have hbn : bnd k = false := decide_eq_false (by omega)
      unfold refu
      rw [if_neg (by omega), hm, hbn]
      simp
    have := runA_fr (st := 1) (begun := begun) (fr := fr) (k := k) (p := p) (r := R) (e := none) (.inl rfl) hb hf hk hp (byt_app hz hR) hr (tak_odd h13)
    rw [hn] at this
    exact ⟨k, hk, this⟩
theorem runA_head {begun fr : Int} {p R : List Int} (hb : 0 ≤ begun ∧ begun < 2) (hf : okN fr) (hp : p.length ≤ 1048576) (hz : byt p) (hR : byt R) :
    runA (Idl 1 begun fr (frW 1 p ++ R)) = ((⟨1, p, 0, 0, 0, 0⟩ :: (runA (Idl 1 (begun + 1) 1 R)).1.1, (runA (Idl 1 (begun + 1) 1 R)).1.2), (runA (Idl 1 (begun + 1) 1 R)).2) := by
  have o1 : okN 1 := by decide
  have hn : nxB 1 begun = begun + 1 := rfl
  have hr : refu 1 1048576 begun 1 p.length = 0 := by
    have hm : mayC 1 begun 1 = true := by
      unfold mayC
      rw [if_neg (by decide), if_pos rfl]
      exact decide_eq_true ⟨rfl, hb.2⟩
    unfold refu
    rw [if_neg (by omega), hm, if_neg (by decide), if_neg]
    unfold mostOf
    rw [if_pos rfl]
    omega
  have := runA_fr (st := 1) (begun := begun) (fr := fr) (k := 1) (p := p) (r := R) (.inl rfl) ⟨by omega, by omega⟩ hf o1 ⟨by omega, by omega⟩ (byt_app hz hR) hr tak_head
  rw [hn] at this
  rw [this]
  rfl
theorem runA_body {fr : Int} {p R : List Int} (hf : okN fr) (hp : p.length ≤ 1048576) (hz : byt p) (hR : byt R) :
    runA (Idl 1 1 fr (frW 0 p ++ R)) = (((runA (Idl 1 1 0 R)).1.1, p ++ (runA (Idl 1 1 0 R)).1.2), (runA (Idl 1 1 0 R)).2) := by
  have o0 : okN 0 := by decide
  have hn : nxB 0 1 = 1 := rfl
  have hr : refu 1 1048576 1 0 p.length = 0 := by
    unfold refu
    rw [if_neg (by decide), if_neg (by decide), if_neg (fun h => absurd h.1 (by decide))]
  have := runA_fr (st := 1) (begun := 1) (fr := fr) (k := 0) (p := p) (r := R) (.inl rfl) ⟨by omega, by omega⟩ hf o0 ⟨by omega, by omega⟩ (byt_app hz hR) hr tak_body
  rw [hn] at this
  rw [this]
  by_cases hp0 : p = []
  · subst hp0; rfl
  · rw [if_neg hp0]; rfl
/-- The pieces of a body, each behind the junk. -/
def bdW (J : List Int) (ps : List (List Int)) : List Int := ps.flatMap fun p => J ++ frW 0 p
theorem bdW_byt {J : List Int} {ps : List (List Int)} (hJ : byt J) (h : ∀ p ∈ ps, byt p) : byt (bdW J ps) := by
  intro y hy
  unfold bdW at hy
  obtain ⟨p, hp, hy⟩ := List.mem_flatMap.1 hy
  exact byt_app hJ (frW_byt (h p hp)) y hy
theorem runA_bodies {J : List Int} (hJ : Jnk J) : ∀ (ps : List (List Int)) (fr : Int) (R : List Int), okN fr → (∀ p ∈ ps, p.length ≤ 1048576 ∧ byt p) → byt R →
    ∃ fr', okN fr' ∧ runA (Idl 1 1 fr (bdW J ps ++ R)) = (((runA (Idl 1 1 fr' R)).1.1, ps.flatten ++ (runA (Idl 1 1 fr' R)).1.2), (runA (Idl 1 1 fr' R)).2)
  | [], fr, R, hf, _, hR => ⟨fr, hf, rfl⟩
  | p :: ps, fr, R, hf, hp, hR => by
    have e : bdW J (p :: ps) ++ R = J ++ (frW 0 p ++ (bdW J ps ++ R)) := by unfold bdW; simp
    have hb : byt (bdW J ps ++ R) := byt_app (bdW_byt hJ.byt (fun q hq => (hp q (by simp [hq])).2)) hR
    obtain ⟨f1, o1, e1⟩ := runA_junk (begun := 1) ⟨by omega, by omega⟩ hf hJ (byt_app (frW_byt (k := 0) (hp p (by simp)).2) hb)
    obtain ⟨f2, o2, e2⟩ := runA_bodies hJ ps 0 R (by decide) (fun q hq => hp q (by simp [hq])) hR
    refine ⟨f2, o2, ?_⟩
    rw [e, e1, runA_body o1 (hp p (by simp)).1 (hp p (by simp)).2 hb, e2]
    simp
/-- All bytes of a message. -/
def msW (J hd : List Int) (ps : List (List Int)) (has : Bool) (tr : List Int) : List Int := (J ++ frW 1 hd) ++ bdW J ps ++ (if has then J ++ frW 1 tr else []) ++ J
theorem msg_all {J hd tr : List Int} {ps : List (List Int)} {has : Bool} (hJ : Jnk J) (hh : hd.length ≤ 1048576 ∧ byt hd) (hp : ∀ p ∈ ps, p.length ≤ 1048576 ∧ byt p) (ht : tr.length ≤ 1048576 ∧ byt tr) :
    (allW 1 (msW J hd ps has tr)).1 = ((⟨1, hd, 0, 0, 0, 0⟩ :: (if has then [⟨1, tr, 0, 0, 0, 0⟩] else [])), ps.flatten) ∧ (allZ 1 (msW J hd ps has tr)).fault = 0 ∧ (allZ 1 (msW J hd ps has tr)).done = true := by
  have bJ := hJ.byt
  have bT : byt ((if has then J ++ frW 1 tr else []) ++ J) := by
    refine byt_app ?_ bJ
    cases has
    · intro y hy; cases hy
    · exact byt_app bJ (frW_byt ht.2)
  have bB : byt (bdW J ps) := bdW_byt bJ (fun p hq => (hp p hq).2)
  have e0 : allW 1 (msW J hd ps has tr) = runA (Idl 1 0 0 (J ++ (frW 1 hd ++ (bdW J ps ++ ((if has then J ++ frW 1 tr else []) ++ J))))) := by
    unfold msW
    simp only [List.append_assoc]
    rfl
  obtain ⟨f1, o1, e1⟩ := runA_junk (begun := 0) (fr := 0) (R := frW 1 hd ++ (bdW J ps ++ ((if has then J ++ frW 1 tr else []) ++ J))) ⟨by omega, by omega⟩ (by decide) hJ (byt_app (frW_byt hh.2) (byt_app bB bT))
  have e2 := runA_head (begun := 0) (fr := f1) (p := hd) (R := bdW J ps ++ ((if has then J ++ frW 1 tr else []) ++ J)) ⟨by omega, by omega⟩ o1 hh.1 hh.2 (byt_app bB bT)
  obtain ⟨f3, o3, e3⟩ := runA_bodies hJ ps 1 ((if has then J ++ frW 1 tr else []) ++ J) (by decide) hp bT
  have e01 : (0 : Int) + 1 = 1 := rfl
  rw [e01] at e2
  -- the tail
  have tail : ∃ g f4, (g = 1 ∨ g = 2) ∧ okN f4 ∧ runA (Idl 1 1 f3 ((if has then J ++ frW 1 tr else []) ++ J)) = ((if has then [⟨1, tr, 0, 0, 0, 0⟩] else [], []), Idl 1 g f4 []) := by
    have last : ∀ g f : Int, (g = 1 ∨ g = 2) → okN f → ∃ f', okN f' ∧ runA (Idl 1 g f J) = (([], []), Idl 1 g f' []) := by
      intro g f hg hf
      obtain ⟨f5, o5, e5⟩ := runA_junk (begun := g) (fr := f) (R := []) ⟨by omega, by omega⟩ hf hJ (fun y hy => by cases hy)
      rw [List.append_nil] at e5
      exact ⟨f5, o5, by rw [e5, runA_nil (.inl rfl) ⟨by omega, by omega⟩ o5]⟩
    cases has with
    | false =>
      obtain ⟨f', o', e'⟩ := last 1 f3 (.inl rfl) o3
      exact ⟨1, f', .inl rfl, o', by simpa using e'⟩
    | true =>
      obtain ⟨f5, o5, e5⟩ := runA_junk (begun := 1) (fr := f3) (R := frW 1 tr ++ J) ⟨by omega, by omega⟩ o3 hJ (byt_app (frW_byt ht.2) bJ)
      have e6 := runA_head (begun := 1) (fr := f5) (p := tr) (R := J) ⟨by omega, by omega⟩ o5 ht.1 ht.2 bJ
      obtain ⟨f', o', e'⟩ := last 2 1 (.inr rfl) (by decide)
      have e12 : (1 : Int) + 1 = 2 := rfl
      rw [e12, e'] at e6
      refine ⟨2, f', .inr rfl, o', ?_⟩
      have ea : (if true = true then J ++ frW 1 tr else []) ++ J = J ++ (frW 1 tr ++ J) := by simp
      rw [ea, e5, e6]
      rfl
  obtain ⟨g, f4, hg, o4, e4⟩ := tail
  have hA : allW 1 (msW J hd ps has tr) = ((⟨1, hd, 0, 0, 0, 0⟩ :: (if has then [⟨1, tr, 0, 0, 0, 0⟩] else []), ps.flatten), Idl 1 g f4 []) := by
    rw [e0, e1, e2, e3, e4]
    simp
  have hZ : (allZ 1 (msW J hd ps has tr)).fault = 0 ∧ (allZ 1 (msW J hd ps has tr)).done = true := by
    unfold allZ
    rw [hA]
    rcases hg with rfl | rfl <;> exact ⟨rfl, rfl⟩
  exact ⟨by rw [hA], hZ⟩
end Go.Proofs.Ytdlefmlienfjhaa
