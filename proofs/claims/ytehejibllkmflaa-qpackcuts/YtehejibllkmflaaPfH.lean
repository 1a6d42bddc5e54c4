/-
  What prefix's GetText and the document's own answer. Contracts that the statements' walks use.
-/
import Derived.Test.YtehejibllkmflaaPfG
import Derived.Test.YtehejibllkmflaaDec
import Derived.BigQuiet
namespace Go.Proofs.Ytehejibllkmflaa
open Go.RowKit
set_option linter.unusedVariables false
set_option maxRecDepth 100000

theorem str_empty : (⟨#[]⟩ : ByteArray) = strOfNums [] := by kernel_rfl
theorem row_str_any {w : World} {x : Sv} {zs : List Int} (h : Row w x zs) : (convert 30 9 (.slice x.a x.n x.c)).run Try.prog w = .ok (.string (strOfNums zs)) w := by
  by_cases hn : 0 < x.n
  · exact row_str h hn
  · have hl := h.len
    have h0 : x.n = 0 := by omega
    have hz : zs = [] := List.length_eq_zero_iff.1 (by omega)
    subst hz
    rcases h.2 with ⟨h1, _, _⟩ | ⟨g, off, cur, ha, _⟩
    · rw [h1]
      exact run_convert_bytes_nil (P := Try.prog) (w := w) 30 5 Try.underlying30 Try.underlying5 x.n x.c 9 (by kernel_rfl)
    · rw [ha, h0]
      exact run_convert_bytes_arg (P := Try.prog) w 30 5 Try.underlying30 Try.underlying5 g off 0 x.c [] rfl (fun i hi => absurd hi (by omega)) 9 (by kernel_rfl)
theorem seg_str {w : World} {g o n c : Nat} {zs : List Int} (hs : Seg w (some ⟨g, o, none⟩) zs) (hl : zs.length = n) : (convert 30 9 (.slice (some ⟨g, o, none⟩) n c)).run Try.prog w = .ok (.string (strOfNums zs)) w := by
  refine run_convert_bytes_arg (P := Try.prog) w 30 5 Try.underlying30 Try.underlying5 g o n c zs hl (fun i hi => ?_) 9 (by kernel_rfl)
  have hne : zs ≠ [] := by intro e; rw [e] at hl; simp at hl; omega
  obtain ⟨b, off, e, hc⟩ := hs hne
  cases e
  exact hc i (by omega)
theorem seg_drop' {w : World} {g o : Nat} {zs : List Int} (hs : Seg w (some ⟨g, o, none⟩) zs) (k : Nat) : Seg w (some ⟨g, o + k, none⟩) (zs.drop k) := by
  intro hne
  have hk : k < zs.length := by
    rcases Nat.lt_or_ge k zs.length with h | h
    · exact h
    · exact absurd (List.drop_of_length_le h) hne
  obtain ⟨b, off, e, hc⟩ := hs (by intro e; rw [e] at hk; simp at hk)
  cases e
  refine ⟨g, o + k, rfl, fun i hi => ?_⟩
  rw [List.length_drop] at hi
  have := hc (k + i) (by omega)
  rw [Nat.add_assoc, this, List.getD_eq_getElem?_getD, List.getD_eq_getElem?_getD, List.getElem?_drop]
/-- A piece amid a row. -/
theorem sl_seg {w : World} {g o n c k m : Nat} {zs : List Int} (hs : Seg w (some ⟨g, o, none⟩) zs) (hl : zs.length = n) (hm : k + m ≤ n) (hc : n ≤ c) :
    ∃ o', (∀ u, (Instr.slice 30 (.slice (some ⟨g, o, none⟩) n c) (some (.int .i64 k)) (some (.int .i64 ((k : Int) + (m : Int)))) none).run Try.prog u = .ok (.slice (some ⟨g, o', none⟩) m (c - k)) u) ∧ Seg w (some ⟨g, o', none⟩) ((zs.drop k).take m) := by
  refine ⟨if c = k then o else o + k, fun u => ?_, ?_⟩
  · have h := run_slice_lh (P := Try.prog) u 30 (some ⟨g, o, none⟩) n c Try.underlying30 .i64 .i64 k ((k : Int) + (m : Int)) (by omega) (by omega) (by omega)
    have hsz : (sizeOf (Try.prog.elem 30)).run Try.prog u = .ok 1 u := by kernel_rfl
    rw [h, hsz]
    simp only [Result.andThen_ok, sliced, Int.toNat_natCast]
    rw [show ((k : Int) + (m : Int)).toNat - k = m by omega]
    by_cases e : c = k
    · rw [if_pos (by omega), if_pos e]
    · rw [if_neg (by omega), if_neg e, Nat.mul_one, Option.map_some, addr_add]
  · by_cases e : c = k
    · rw [List.drop_of_length_le (by omega), List.take_nil]; exact seg_nil _ _
    · rw [if_neg e]; exact seg_take (seg_drop' hs k) m
theorem pfG_ok {zs : List Int} {p : Nat} {z : Int} (hz2 : 2 ≤ z) (h256 : z ≤ 256) (hb : ∀ y ∈ zs, 0 ≤ y ∧ y < 256) {n : Int} {c : Nat} (h : pfG zs p z = (n, c, 0)) : p < zs.length ∧ 0 ≤ n ∧ c ≤ zs.length := by
  unfold pfG at h
  cases hd : zs.drop p with
  | nil => rw [hd] at h; cases h
  | cons y r =>
    have hlen : zs.length - p = r.length + 1 := by have := congrArg List.length hd; rw [List.length_drop] at this; simpa using this
    rw [hd] at h
    simp only at h
    have hm0 := Int.emod_nonneg y (show z ≠ 0 by omega)
    have hm1 := Int.emod_lt_of_pos y (show 0 < z by omega)
    have hmx : mxN = 4611686018427387903 := rfl
    by_cases hs : y % z < z - 1
    · rw [if_pos hs] at h
      cases h
      exact ⟨by omega, hm0, by omega⟩
    · rw [if_neg hs] at h
      rcases hg : gl (y % z) 1 1 r with ⟨v, c', e⟩
      rw [hg] at h
      simp only at h
      split at h
      · next he =>
        subst he
        obtain ⟨m, k, g1, g2, g3, g4, g5, _⟩ := gl_least r 1 (y % z) 1 (fun t ht => hb t (List.mem_of_mem_drop (by rw [hd]; simp [ht]))) (by omega) (by omega) (by omega) hm0 (by omega) hg
        cases h
        rw [Int.mul_one] at g5
        exact ⟨by omega, by omega, by omega⟩
      · cases h; omega
theorem pgA_ok' {zs : List Int} {p b : Int} (hb : ∀ y ∈ zs, 0 ≤ y ∧ y < 256) {n : Int} {c : Nat} (h : pgA zs p b = (n, c, 0)) : 0 ≤ p ∧ p < zs.length ∧ 0 ≤ n ∧ c ≤ zs.length := by
  unfold pgA at h
  split at h
  · cases h
  · next hbb =>
    split at h
    · cases h
    · next hp =>
      obtain ⟨k, rfl⟩ := Int.eq_ofNat_of_zero_le (show 0 ≤ b by omega)
      rw [Int.toNat_natCast] at h
      have := pfG_ok (two_k2 k (by omega)) (two_k k (by omega)).1 hb h
      omega
theorem and_tab : ∀ k : Fin 8, ∀ y : Fin 256, (bits .and .u8 (y.val : Int) ((2 : Int) ^ k.val) == 0) = decide ((y.val : Int) / 2 ^ k.val % 2 = 0) := by decide +kernel
theorem and_flag {k y : Nat} (hk : k ≤ 7) (hy : y < 256) : (bits .and .u8 (y : Int) ((2 : Int) ^ k) == 0) = decide ((y : Int) / 2 ^ k % 2 = 0) := and_tab ⟨k, by omega⟩ ⟨y, by omega⟩
def gtB (zs : List Int) (p b : Int) : List Int × Nat × Int :=
  if ¬ (1 ≤ b ∧ b ≤ 7) then ([], 0, 150) else
  match pgA zs p b with
  | (n, c, e) => if e ≠ 0 then ([], 0, e) else if 16384 < n then ([], 0, 52) else if (zs.length : Int) - (c : Int) < n then ([], 0, 12) else if zs.getD p.toNat 0 / 2 ^ b.toNat % 2 = 0 then ((zs.drop c).take n.toNat, c + n.toNat, 0) else match hD ((zs.drop c).take n.toNat) with | (d, f) => if f ≠ 0 then ([], 0, f) else (d, c + n.toNat, 0)
def ansT (r : List Int × Nat × Int) : Ending := .returned (.tuple #[.string (strOfNums r.1), .int .i64 (r.2.1 : Nat), .int .i64 r.2.2])

set_option maxHeartbeats 4000000 in
theorem getText_any (a : Option Addr) (n c : Nat) (zs : List Int) (p b : Int) (w : World) (hl : zs.length = n) (hn : n ≤ 140737488355328) (hcap : n ≤ c) (hz : ∀ y ∈ zs, 0 ≤ y ∧ y < 256) (hseg : Seg w a zs) :
    Calls Try.prog 55 #[.slice a n c, .int .i64 p, .int .i64 b] w fun e w' => e = ansT (gtB zs p b) ∧ Q w w' := by
  have HL := hid hl
  have HZ := hid hz
  have HS := hid hseg
  have HG := hid (get_any a n c zs p b w hl hn hz hseg)
  clear hl hz hseg
  have HP := hid (isT_any b)
  by_cases hb : 1 ≤ b ∧ b ≤ 7
  · obtain ⟨R, hR⟩ : ∃ R, pgA zs p b = R := ⟨_, rfl⟩
    obtain ⟨m, q, v⟩ := R
    have hB : gtB zs p b = if v ≠ 0 then ([], 0, v) else if 16384 < m then ([], 0, 52) else if (zs.length : Int) - (q : Int) < m then ([], 0, 12) else if zs.getD p.toNat 0 / 2 ^ b.toNat % 2 = 0 then ((zs.drop q).take m.toNat, q + m.toNat, 0) else match hD ((zs.drop q).take m.toNat) with | (d, f) => if f ≠ 0 then ([], 0, f) else (d, q + m.toNat, 0) := by
      unfold gtB; rw [if_neg (by simpa using hb), hR]
    rw [hB]
    rw [hR] at HG
    simp only [ans3] at HG
    rw [decide_eq_true hb] at HP
    by_cases hv : v ≠ 0
    · rw [if_pos hv]
      have hvb : (v != 0) = true := by simpa using hv
      clear hB hR hb
      go_enter Try.func55, Try.ntmps55
      go_wp2_with (first | (go_at_call 71; refine (HP.out _).mono ?_; rintro e w1 ⟨rfl, rfl⟩) | (go_at_call 58; refine HG.out.mono ?_; rintro e w1 ⟨rfl, rfl⟩))
      go_ret3
      exact ⟨by unfold ansT; rw [← str_empty]; rfl, Q.refl _⟩
    · obtain rfl : v = 0 := by simpa using hv
      rw [if_neg hv]
      obtain ⟨hp0, hpn, hm0, hqn⟩ := pgA_ok' HZ.out hR
      rw [HL.out] at hpn hqn ⊢
      obtain ⟨m, rfl⟩ := Int.eq_ofNat_of_zero_le hm0
      by_cases hh : 16384 < (m : Int)
      · rw [if_pos hh]
        clear hB hR hb hv
        go_enter Try.func55, Try.ntmps55
        go_wp2_with (first | (go_at_call 71; refine (HP.out _).mono ?_; rintro e w1 ⟨rfl, rfl⟩) | (go_at_call 58; refine HG.out.mono ?_; rintro e w1 ⟨rfl, rfl⟩))
        go_ret3
        exact ⟨by unfold ansT; rw [← str_empty]; rfl, Q.refl _⟩
      · rw [if_neg hh]
        by_cases hs : (n : Int) - (q : Int) < (m : Int)
        · rw [if_pos hs]
          clear hB hR hb hv
          go_enter Try.func55, Try.ntmps55
          go_wp2_with (first | (go_at_call 71; refine (HP.out _).mono ?_; rintro e w1 ⟨rfl, rfl⟩) | (go_at_call 58; refine HG.out.mono ?_; rintro e w1 ⟨rfl, rfl⟩))
          go_ret3
          exact ⟨by unfold ansT; rw [← str_empty]; rfl, Q.refl _⟩
        · rw [if_neg hs]
          have hsb : decide ((n : Int) - (q : Int) < (m : Int)) = false := decide_eq_false hs
          obtain ⟨r, rfl⟩ := Int.eq_ofNat_of_zero_le hp0
          obtain ⟨k, rfl⟩ := Int.eq_ofNat_of_zero_le (show 0 ≤ b by omega)
          have hk7 : k ≤ 7 := by omega
          have hz2 := two_k2 k (by omega)
          have hz7 := two_7 k hk7
          have hrn : r < n := by omega
          obtain ⟨y, hy, hgd, hdr⟩ := byte_at HZ.out (k := r) (by rw [HL.out]; omega)
          obtain ⟨ab, off, rfl, hc0⟩ := HS.out (by intro e; have := HL.out; rw [e] at this; simp at this; omega)
          have hc1 := hc0 r (by rw [HL.out]; omega)
          rw [hgd] at hc1
          rw [Int.toNat_natCast, Int.toNat_natCast, Int.toNat_natCast, hgd]
          have HF := hid (fun W => flag_any k W hk7)
          have haf := and_flag hk7 hy
          obtain ⟨o', hsl, hsg⟩ := sl_seg (k := q) (m := m) HS.out HL.out (by omega) hcap
          have HSG := hid hsg
          have HTL := hid (show ((zs.drop q).take m).length = m from by rw [List.length_take, List.length_drop, HL.out]; omega)
          have HTZ := hid (show ∀ y ∈ (zs.drop q).take m, 0 ≤ y ∧ y < 256 from fun y hy => HZ.out y (List.mem_of_mem_drop (List.mem_of_mem_take hy)))
          have hend : q + m ≤ n := by omega
          clear hB hR hb hv hdr hc0 hgd hsg hs
          generalize hT : (zs.drop q).take m = T at *
          clear hT
          by_cases hf : (y : Int) / 2 ^ k % 2 = 0
          · rw [if_pos hf]
            rw [decide_eq_true hf] at haf
            have hcv := fun i => seg_str (c := c - q) (HSG.out.q ((Q.refl w).drewN i)) HTL.out
            clear hf
            go_enter Try.func55, Try.ntmps55
            go_wp2_with (first | (go_at_call 71; refine (HP.out _).mono ?_; rintro e w1 ⟨rfl, rfl⟩) | (go_at_call 58; refine HG.out.mono ?_; rintro e w1 ⟨rfl, rfl⟩))
            go_quiet ((go_at_call 72; exact Calls.quiet_of_same ((HF.out _).mono (by rintro e w2 ⟨rfl, rfl⟩; exact ⟨rfl, rfl⟩))))
            go_wp2_with fail
            go_ret3
            exact ⟨rfl, (Q.refl w).drewN _⟩
          · rw [if_neg hf]
            rw [decide_eq_false hf] at haf
            have HD := hid (fun i => decode_any (some ⟨ab, o', none⟩) m (c - q) T (w.drewN i) HTL.out HTZ.out (by omega) (HSG.out.q ((Q.refl w).drewN i)))
            clear hf
            obtain ⟨D, hDD⟩ : ∃ D, hD T = D := ⟨_, rfl⟩
            rw [hDD] at HD ⊢
            clear hDD
            obtain ⟨d, f⟩ := D
            simp only
            by_cases hf0 : f ≠ 0
            · rw [if_pos hf0]
              have hfb2 : (f != 0) = true := by simpa using hf0
              clear hf0
              go_enter Try.func55, Try.ntmps55
              go_wp2_with (first | (go_at_call 71; refine (HP.out _).mono ?_; rintro e w1 ⟨rfl, rfl⟩) | (go_at_call 58; refine HG.out.mono ?_; rintro e w1 ⟨rfl, rfl⟩))
              go_quiet ((go_at_call 72; exact Calls.quiet_of_same ((HF.out _).mono (by rintro e w2 ⟨rfl, rfl⟩; exact ⟨rfl, rfl⟩))))
              go_wp2_with (go_at_call 73; refine (HD.out _).mono ?_; rintro e w3 ⟨⟨xa, xn, xc⟩, rfl, q3, r3, n3⟩; have Q3 := hid (((Q.refl w).drewN _).trans q3); clear q3 r3 n3)
              go_ret3
              exact ⟨by unfold ansT; rw [← str_empty]; rfl, Q3.out⟩
            · obtain rfl : f = 0 := by simpa using hf0
              rw [if_neg hf0]
              clear hf0
              go_enter Try.func55, Try.ntmps55
              go_wp2_with (first | (go_at_call 71; refine (HP.out _).mono ?_; rintro e w1 ⟨rfl, rfl⟩) | (go_at_call 58; refine HG.out.mono ?_; rintro e w1 ⟨rfl, rfl⟩))
              go_quiet ((go_at_call 72; exact Calls.quiet_of_same ((HF.out _).mono (by rintro e w2 ⟨rfl, rfl⟩; exact ⟨rfl, rfl⟩))))
              go_wp2_with (go_at_call 73; refine (HD.out _).mono ?_; rintro e w3 ⟨⟨xa, xn, xc⟩, rfl, q3, r3, n3⟩; have hcv := row_str_any r3; have Q3 := hid (((Q.refl w).drewN _).trans q3); clear q3 r3 n3)
              go_ret3
              exact ⟨rfl, Q3.out⟩
  · have hB : gtB zs p b = ([], 0, 150) := by unfold gtB; rw [if_pos hb]
    rw [hB]
    rw [decide_eq_false hb] at HP
    clear hb
    go_enter Try.func55, Try.ntmps55
    go_wp2_with (go_at_call 71; refine (HP.out _).mono ?_; rintro e w1 ⟨rfl, rfl⟩)
    go_ret3
    exact ⟨by unfold ansT; rw [← str_empty]; rfl, Q.refl _⟩

end Go.Proofs.Ytehejibllkmflaa
