/-
  Plain arithmetic for packet numbers told by their last bytes (layer 6): no Go, no program. Nothing is proved of a statement here.
-/
namespace Go.Proofs.Ytihmlfpfpadfpaa

/-- How many bytes tell a packet number. -/
def widM (n told : Int) : Int :=
  if n < 0 ∨ 4611686018427387903 < n ∨ told < -1 ∨ n ≤ told then 0
  else if n - told < 128 then 1 else if n - told < 32768 then 2 else if n - told < 8388608 then 3 else if n - told < 2147483648 then 4 else 0
def stp (w : Int) : Int := if w = 1 then 256 else if w = 2 then 65536 else if w = 3 then 16777216 else 4294967296
def farN (a b : Int) : Int := if a < b then b - a else a - b
/-- One candidate, downwards. -/
def ps (want b n : Int) : Int := if 0 ≤ n ∧ n ≤ 4611686018427387903 ∧ (b < 0 ∨ farN n want < farN b want) then n else b
/-- One candidate, upwards: the best and whether one was found. -/
def ds (want : Int) (b : Int × Bool) (n : Int) : Int × Bool := if n < 0 ∨ 4611686018427387903 < n then b else if b.2 = false ∨ farN n want ≤ farN b.1 want then (n, true) else b
def badE (high part width : Int) : Prop := width < 1 ∨ 4 < width ∨ high < -1 ∨ 4611686018427387903 < high ∨ part < 0 ∨ stp width ≤ part
def nearE (high part S : Int) : Int := (high + 1) / S * S + part
def expP (high part S : Int) : Int := ps (high + 1) (ps (high + 1) (ps (high + 1) (-1) (nearE high part S + S)) (nearE high part S)) (nearE high part S - S)
def expD (high part S : Int) : Int := (ds (high + 1) (ds (high + 1) (ds (high + 1) (0, false) (nearE high part S - S)) (nearE high part S)) (nearE high part S + S)).1

theorem ps_cases (want b n : Int) : (ps want b n = n ∧ 0 ≤ n ∧ n ≤ 4611686018427387903 ∧ (b < 0 ∨ farN n want < farN b want)) ∨ (ps want b n = b ∧ ¬ (0 ≤ n ∧ n ≤ 4611686018427387903 ∧ (b < 0 ∨ farN n want < farN b want))) := by
  unfold ps
  split
  · rename_i h; exact .inl ⟨rfl, h⟩
  · rename_i h; exact .inr ⟨rfl, h⟩
theorem ds_cases (want n : Int) (b : Int × Bool) : (ds want b n = (n, true) ∧ 0 ≤ n ∧ n ≤ 4611686018427387903 ∧ (b.2 = false ∨ farN n want ≤ farN b.1 want)) ∨ (ds want b n = b ∧ ¬ (0 ≤ n ∧ n ≤ 4611686018427387903 ∧ (b.2 = false ∨ farN n want ≤ farN b.1 want))) := by
  unfold ds
  split
  · exact .inr ⟨rfl, by omega⟩
  · split
    · rename_i h1 h2; exact .inl ⟨rfl, by omega, by omega, h2⟩
    · rename_i h1 h2; exact .inr ⟨rfl, fun h => h2 h.2.2⟩
theorem far_eq (a b : Int) : (a < b ∧ farN a b = b - a) ∨ (b ≤ a ∧ farN a b = a - b) := by
  unfold farN; split
  · exact .inl ⟨by assumption, rfl⟩
  · exact .inr ⟨by omega, rfl⟩

theorem stp_cases {w : Int} (h1 : 1 ≤ w) (h2 : w ≤ 4) : (w = 1 ∧ stp w = 256) ∨ (w = 2 ∧ stp w = 65536) ∨ (w = 3 ∧ stp w = 16777216) ∨ (w = 4 ∧ stp w = 4294967296) := by
  unfold stp
  by_cases a : w = 1
  · rw [if_pos a]; omega
  by_cases b : w = 2
  · rw [if_neg a, if_pos b]; omega
  by_cases c : w = 3
  · rw [if_neg a, if_neg b, if_pos c]; omega
  · rw [if_neg a, if_neg b, if_neg c]; omega

theorem exp_core {want near S : Int} (hS : 2 ≤ S) (h0 : 0 ≤ want) (hw : want ≤ 4611686018427387904) (h1 : want - S < near) (h2 : near < want + S) (h3 : 0 ≤ near) (h4 : near - S ≤ 4611686018427387903) (h5 : near ≤ 4611686018427387903 ∨ 0 ≤ near - S) :
    ps want (ps want (ps want (-1) (near + S)) near) (near - S) = (ds want (ds want (ds want (0, false) (near - S)) near) (near + S)).1 := by
  have f1 := far_eq (near + S) want
  have f2 := far_eq near want
  have f3 := far_eq (near - S) want
  rcases ps_cases want (-1) (near + S) with ⟨a, a'⟩ | ⟨a, a'⟩ <;> rw [a] <;>
  rcases ps_cases want _ near with ⟨b, b'⟩ | ⟨b, b'⟩ <;> rw [b] <;>
  rcases ps_cases want _ (near - S) with ⟨c, c'⟩ | ⟨c, c'⟩ <;> rw [c] <;>
  rcases ds_cases want (near - S) (0, false) with ⟨d, d'⟩ | ⟨d, d'⟩ <;> rw [d] <;>
  rcases ds_cases want near _ with ⟨e, e'⟩ | ⟨e, e'⟩ <;> rw [e] <;>
  rcases ds_cases want (near + S) _ with ⟨f, f'⟩ | ⟨f, f'⟩ <;> rw [f] <;> simp only [reduceCtorEq, false_or, true_or, and_true] at * <;> omega
theorem near_range {want part S : Int} (hS : S = 256 ∨ S = 65536 ∨ S = 16777216 ∨ S = 4294967296) (h0 : 0 ≤ want) (p0 : 0 ≤ part) (p1 : part < S) :
    want - S < want / S * S + part ∧ want / S * S + part < want + S ∧ 0 ≤ want / S * S + part ∧ (want / S = 0 → want / S * S + part < S) ∧ want / S * S ≤ want ∧ (1 ≤ want / S → S ≤ want / S * S) := by
  rcases hS with rfl | rfl | rfl | rfl <;> omega
theorem exp_eq {high part S : Int} (hS : S = 256 ∨ S = 65536 ∨ S = 16777216 ∨ S = 4294967296) (h0 : -1 ≤ high) (hw : high ≤ 4611686018427387903) (p0 : 0 ≤ part) (p1 : part < S) : expP high part S = expD high part S := by
  have hr := near_range (want := high + 1) hS (by omega) p0 p1
  have hd : 0 ≤ (high + 1) / S := by rcases hS with rfl | rfl | rfl | rfl <;> omega
  have h2 : 2 ≤ S ∧ S ≤ 4294967296 := by omega
  unfold expP expD nearE
  exact exp_core h2.1 (by omega) (by omega) hr.1 hr.2.1 hr.2.2.1 (by omega) (by
    by_cases h : (high + 1) / S = 0
    · have := hr.2.2.2.1 h; omega
    · have := hr.2.2.2.2.2 (by omega); omega)
/-- A number told in its last bytes is understood. -/
theorem told_core {want n near S : Int} (hS : 2 ≤ S) (h0 : 0 ≤ want) (h1 : want ≤ n) (h2 : 2 * (n - want) < S - 1) (h3 : n ≤ 4611686018427387903) (h4 : near = n ∨ near = n - S) :
    ps want (ps want (ps want (-1) (near + S)) near) (near - S) = n := by
  have f1 := far_eq (near + S) want
  have f2 := far_eq near want
  have f3 := far_eq (near - S) want
  rcases ps_cases want (-1) (near + S) with ⟨a, a'⟩ | ⟨a, a'⟩ <;> rw [a] <;>
  rcases ps_cases want _ near with ⟨b, b'⟩ | ⟨b, b'⟩ <;> rw [b] <;>
  rcases ps_cases want _ (near - S) with ⟨c, c'⟩ | ⟨c, c'⟩ <;> rw [c] <;> omega
theorem exp_told {high n S : Int} (hS : S = 256 ∨ S = 65536 ∨ S = 16777216 ∨ S = 4294967296) (h0 : -1 ≤ high) (h1 : high < n) (h2 : 2 * (n - (high + 1)) < S - 1) (h3 : n ≤ 4611686018427387903) : expP high (n % S) S = n := by
  unfold expP nearE
  refine told_core (by omega) (by omega) (by omega) h2 h3 ?_
  rcases hS with rfl | rfl | rfl | rfl <;> omega
end Go.Proofs.Ytihmlfpfpadfpaa
