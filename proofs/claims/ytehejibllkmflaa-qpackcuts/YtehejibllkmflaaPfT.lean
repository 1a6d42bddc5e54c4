/-
  Texts behind a prefix, as plain mathematics: written and read back. Nothing is proved of a statement here.
-/
import Derived.Test.YtehejibllkmflaaHufM
import Derived.Test.YtehejibllkmflaaPfM
namespace Go.Proofs.Ytehejibllkmflaa
set_option linter.unusedVariables false
set_option maxRecDepth 20000

/-- A text behind a prefix: coded where that is shorter. -/
def ptT (s : List Int) (z h : Int) : List Int := if hM (hN s) < s.length then pfP (hM (hN s) : Nat) z (h + z) ++ hE s else pfP (s.length : Nat) z h ++ s
/-- What is read of a text: the text, the place behind it, the error. -/
def gtT (zs : List Int) (p : Nat) (z : Int) : List Int × Nat × Int :=
  match pfG zs p z with
  | (n, c, e) => if e ≠ 0 then ([], 0, e) else if 16384 < n then ([], 0, 52) else if (zs.length : Int) - (c : Int) < n then ([], 0, 12) else if zs.getD p 0 / z % 2 = 0 then ((zs.drop c).take n.toNat, c + n.toNat, 0) else match hD ((zs.drop c).take n.toNat) with | (d, f) => if f ≠ 0 then ([], 0, f) else (d, c + n.toNat, 0)
theorem pf_head (n z h : Int) (hz : 2 ≤ z) (h0 : 0 ≤ n) : ∃ t r, pfP n z h = (h + t) :: r ∧ 0 ≤ t ∧ t < z := by
  unfold pfP
  by_cases hs : n < z - 1
  · exact ⟨n, [], by rw [if_pos hs], h0, by omega⟩
  · exact ⟨z - 1, ctF 8 (n - (z - 1)), by rw [if_neg hs, show h + z - 1 = h + (z - 1) by omega], by omega, by omega⟩
theorem head_bit {h t z : Int} (hz : 2 ≤ z) (hh : h % (2 * z) = 0) (t0 : 0 ≤ t) (t1 : t < z) : (h + t) / z % 2 = 0 ∧ (h + z + t) / z % 2 = 1 := by
  obtain ⟨q, hq⟩ := Int.dvd_of_emod_eq_zero hh
  have e1 : (h + t) / z = 2 * q := by
    rw [show h + t = t + z * (2 * q) by rw [hq, Int.mul_comm 2 z, Int.mul_assoc, Int.add_comm], Int.add_mul_ediv_left _ _ (by omega), Int.ediv_eq_zero_of_lt t0 t1]; omega
  have e2 : (h + z + t) / z = 2 * q + 1 := by
    rw [show h + z + t = t + z * (2 * q + 1) by rw [hq, Int.mul_add, Int.mul_one, Int.mul_comm 2 z, Int.mul_assoc]; omega, Int.add_mul_ediv_left _ _ (by omega), Int.ediv_eq_zero_of_lt t0 t1]; omega
  rw [e1, e2]
  omega
/-- A text is read back from where it stands. -/
theorem pt_back (ahead after s : List Int) (z h : Int) (hz : 2 ≤ z) (hh : h % (2 * z) = 0) (hs : ∀ y ∈ s, 0 ≤ y ∧ y < 256) (hl : s.length ≤ 16384) : gtT (ahead ++ (ptT s z h ++ after)) ahead.length z = (s, ahead.length + (ptT s z h).length, 0) := by
  obtain ⟨q, hq⟩ := Int.dvd_of_emod_eq_zero hh
  have hz0 : h % z = 0 := by rw [hq, Int.mul_comm 2 z, Int.mul_assoc]; exact Int.mul_emod_right _ _
  have hz1 : (h + z) % z = 0 := by rw [Int.add_emod_right]; exact hz0
  have hmx : mxN = 4611686018427387903 := rfl
  have key : ∀ (n h' : Int) (d : List Int), 0 ≤ n → n = (d.length : Nat) → d.length ≤ 16384 → h' % z = 0 → pfG (ahead ++ ((pfP n z h' ++ d) ++ after)) ahead.length z = (n, ahead.length + (pfP n z h').length, 0) ∧ ((ahead ++ ((pfP n z h' ++ d) ++ after)).drop (ahead.length + (pfP n z h').length)).take n.toNat = d ∧ ¬ ((ahead ++ ((pfP n z h' ++ d) ++ after)).length : Int) - ((ahead.length + (pfP n z h').length : Nat) : Int) < n := by
    intro n h' d n0 nd nl hh'
    refine ⟨?_, ?_, ?_⟩
    · rw [List.append_assoc]
      exact pf_back ahead (d ++ after) n z h' hz n0 (by omega) hh'
    · rw [List.append_assoc (pfP n z h'), ← List.append_assoc ahead, List.drop_left' (by rw [List.length_append]), nd, Int.toNat_natCast, List.take_left' rfl]
    · simp only [List.length_append]
      omega
  have hgd : ∀ (n h' : Int) (d : List Int), 0 ≤ n → ∃ t, (ahead ++ ((pfP n z h' ++ d) ++ after)).getD ahead.length 0 = h' + t ∧ 0 ≤ t ∧ t < z := by
    intro n h' d n0
    obtain ⟨t, r, e, t0, t1⟩ := pf_head n z h' hz n0
    refine ⟨t, ?_, t0, t1⟩
    rw [List.getD_eq_getElem?_getD, List.getElem?_append_right (Nat.le_refl _), Nat.sub_self, e]
    rfl
  unfold ptT
  by_cases hc : hM (hN s) < s.length
  · rw [if_pos hc]
    obtain ⟨k1, k2, k3⟩ := key (hM (hN s) : Nat) (h + z) (hE s) (by omega) (by rw [hE_len]) (by rw [hE_len]; omega) hz1
    obtain ⟨t, g1, g2, g3⟩ := hgd (hM (hN s) : Nat) (h + z) (hE s) (by omega)
    unfold gtT
    rw [k1]
    simp only
    rw [if_neg (by simp), if_neg (by omega), if_neg k3, g1, if_neg (by rw [(head_bit hz hh g2 g3).2]; decide), k2, back hs (by rw [hE_len]; omega)]
    simp only [ne_eq, not_true_eq_false, if_false]
    rw [List.length_append, hE_len, Int.toNat_natCast, Nat.add_assoc]
  · rw [if_neg hc]
    obtain ⟨k1, k2, k3⟩ := key (s.length : Nat) h s (by omega) rfl hl hz0
    obtain ⟨t, g1, g2, g3⟩ := hgd (s.length : Nat) h s (by omega)
    unfold gtT
    rw [k1]
    simp only
    rw [if_neg (by simp), if_neg (by omega), if_neg k3, g1, if_pos (head_bit hz hh g2 g3).1, k2]
    rw [List.length_append, Int.toNat_natCast, Nat.add_assoc]
end Go.Proofs.Ytehejibllkmflaa
