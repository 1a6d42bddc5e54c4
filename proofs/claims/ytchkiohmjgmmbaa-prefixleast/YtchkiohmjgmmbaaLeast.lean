/-
  Whatever bytes and bits there are: what Get reads at their beginning, Put writes in no more bytes, and in the same ones if as many; what is not read brings no number and no end.
-/
import Derived.Test.YtchkiohmjgmmbaaRows
import Derived.Test.YtchkiohmjgmmbaaPfD
import Derived.Test.YtchkiohmjgmmbaaSame
import Derived.Test.YtchkiohmjgmmbaaOpen
import Derived.WalkKit
import Derived.ProofKit
import Derived.OpenShut
import Derived.ShutString
import Derived.ChangeOld
import Derived.Below
import Derived.SizedLaws
namespace Go.Proofs.Ytchkiohmjgmmbaa.prefixLeast
open Go.ChangeShapes Go.WideShapes Go.ChangeAt Go.RowKit
open Go.ChangeMaps (open_string shut_string)
set_option linter.unusedVariables false

theorem pgA_bad {zs : List Int} {b : Int} {r1 : Int} {r2 : Nat} {r3 : Int} (h : pgA zs 0 b = (r1, r2, r3)) (h3 : r3 ≠ 0) : r1 = 0 ∧ r2 = 0 := by
  unfold pgA at h
  split at h
  · cases h; exact ⟨rfl, rfl⟩
  · split at h
    · cases h; exact ⟨rfl, rfl⟩
    · unfold pfG at h
      cases hd : zs.drop (0 : Int).toNat with
      | nil => rw [hd] at h; cases h; exact ⟨rfl, rfl⟩
      | cons y r =>
        rw [hd] at h
        simp only at h
        split at h
        · cases h; exact absurd rfl h3
        · rcases hg : gl (y % 2 ^ b.toNat) 1 1 r with ⟨v, c, e⟩
          rw [hg] at h
          simp only at h
          split at h
          · cases h; exact absurd rfl h3
          · cases h; exact ⟨rfl, rfl⟩
theorem pgA_ok {zs : List Int} {b : Int} {r1 : Int} {r2 : Nat} (h : pgA zs 0 b = (r1, r2, 0)) : 1 ≤ b ∧ b ≤ 8 ∧ pfG zs 0 (2 ^ b.toNat) = (r1, r2, 0) := by
  unfold pgA at h
  split at h
  · cases h
  · next hb =>
    split at h
    · cases h
    · exact ⟨by omega, by omega, h⟩
set_option maxRecDepth 20000 in
set_option maxHeartbeats 4000000 in
theorem walk (a : Option Addr) (n c : Nat) (zs : List Int) (b : Int) (w : World) (hl : zs.length = n) (hn : n ≤ 140737488355328) (hcap : n ≤ c) (hz : ∀ y ∈ zs, 0 ≤ y ∧ y < 256) (hseg : Seg w a zs) :
    Calls Try.prog 8 #[.slice a n c, .int .i64 b] w fun r w' => r = .returned (.bool true) ∧ Below w.heap.size w w' := by
  have HL := hid hl
  have HS := hid hseg
  have HZ := hid hz
  have HAW := hid awake_any
  have HG := hid (fun g W (hs : Seg W (some ⟨g, 0, none⟩) zs) => get_any (some ⟨g, 0, none⟩) n n zs 0 b W hl hn hz hs)
  clear hl hseg hz
  obtain ⟨R, hR⟩ : ∃ R, pgA zs 0 b = R := ⟨_, rfl⟩
  rw [hR] at HG
  obtain ⟨r1, r2, r3⟩ := R
  simp only [ans3] at HG
  by_cases h3 : r3 = 0
  · subst h3
    obtain ⟨hb1, hb8, hpf⟩ := pgA_ok hR
    obtain ⟨k, rfl⟩ := Int.eq_ofNat_of_zero_le (show 0 ≤ b by omega)
    rw [Int.toNat_natCast] at hpf
    obtain ⟨y, r, hzs, hr0, hr1, hle, hlen, hsame⟩ := pf_least zs (2 ^ k) (two_k2 k (by omega)) (two_k k (by omega)).1 HZ.out hpf
    have hyb := HZ.out y (by rw [hzs]; simp)
    have hpe : puE r1 k = 0 := by unfold puE; rw [if_neg (by simp; omega), if_neg (by omega)]
    have hpb : puB r1 k y = pfP r1 (2 ^ k) (y / 2 ^ k * 2 ^ k) := by unfold puB; rw [hpe, if_pos rfl, Int.toNat_natCast]
    have HP := hid (fun W => put_any r1 k y W hyb.1 hyb.2)
    rw [hpe, hpb] at HP
    obtain ⟨B, hB⟩ : ∃ B, pfP r1 (2 ^ k) (y / 2 ^ k * 2 ^ k) = B := ⟨_, rfl⟩
    have HBL := hid (show B.length ≤ 10 from by rw [← hB]; exact (pfP_len _ _ _).1)
    rw [hB] at hle hsame HP
    obtain ⟨ab, off, rfl, hc0⟩ := HS.out (by rw [hzs]; simp)
    have hc1 := hc0 0 (by rw [hzs]; simp)
    rw [hzs] at hc1
    have hc2 : w.cell? ⟨ab, off, none⟩ = some (.int .u8 y) := by simpa using hc1
    rw [HL.out] at hlen
    have HSA := hid hsame
    have hn0 : 0 < n := by rw [← HL.out, hzs]; simp
    have HLT := hid (lt_of_cell hc2)
    clear hR hpf hpe hpb hc0 hc1 hB hsame
    obtain ⟨bl, hbl⟩ : ∃ bl, B.length = bl := ⟨_, rfl⟩
    have HBE := hid hbl
    rw [hbl] at hle HBL
    by_cases hlt : bl < r2
    · clear HSA hbl
      have hlti : (bl : Int) < (r2 : Int) := by omega
      go_enter Try.func8, Try.ntmps8
      go_wp2_with (first
      | (go_at_call 13; refine (rcopy_any _ n c zs w HL.out hn HS.out).mono ?_; rintro e w1 ⟨g, rfl, q1, o1, g1⟩; have hc3 := q1.cell (p := ⟨ab, off, none⟩) HLT.out; rw [hc2] at hc3; have Q1 := hid q1; have O1 := hid o1.seg; have S1 := hid (HS.out.q q1); clear q1 o1 g1)
      | (go_at_call 14; refine (HG.out g w1 O1.out).mono ?_; rintro e w2 ⟨rfl, rfl⟩)
      | (go_at_call 9; refine (HP.out _).mono ?_; rintro e w2 ⟨⟨xa, xn, xc⟩, rfl, q2, rr2, n2⟩; obtain rfl : xn = bl := ((Row.len rr2).symm.trans HBE.out); have Q2 := hid (Q1.out.trans q2); have S2 := hid (S1.out.q q2); have R2 := hid (Row.seg rr2); clear q2 rr2 n2)
      | (go_at_call 11; refine (HAW.out _).mono ?_; rintro e w3 ⟨rfl, q3⟩; have Q3 := hid (Q2.out.trans q3); clear q3))
      go_ret
      exact ⟨rfl, Q3.out⟩
    · obtain rfl : bl = r2 := by omega
      have HSB := hid (show B = zs.take bl from by have h := HSA.out hbl; rw [h])
      have HTL := hid (show (zs.take bl).length = bl from by rw [List.length_take, HL.out]; omega)
      have hlti : ¬ (bl : Int) < (bl : Int) := by omega
      have hblc : bl ≤ c := by omega
      clear HSA hbl hlt hle
      go_enter Try.func8, Try.ntmps8
      go_wp2_with (first
      | (go_at_call 13; refine (rcopy_any _ n c zs w HL.out hn HS.out).mono ?_; rintro e w1 ⟨g, rfl, q1, o1, g1⟩; have hc3 := q1.cell (p := ⟨ab, off, none⟩) HLT.out; rw [hc2] at hc3; have Q1 := hid q1; have O1 := hid o1.seg; have S1 := hid (HS.out.q q1); clear q1 o1 g1)
      | (go_at_call 14; refine (HG.out g w1 O1.out).mono ?_; rintro e w2 ⟨rfl, rfl⟩)
      | (go_at_call 9; refine (HP.out _).mono ?_; rintro e w2 ⟨⟨xa, xn, xc⟩, rfl, q2, rr2, n2⟩; obtain rfl : xn = bl := ((Row.len rr2).symm.trans HBE.out); have Q2 := hid (Q1.out.trans q2); have S2 := hid (S1.out.q q2); have R2 := hid (Row.seg rr2); clear q2 rr2 n2)
      | (go_at_call 12; refine (same_any xa (some ⟨ab, off, none⟩) xn xn xc c B (zs.take xn) _ HBE.out HTL.out (by have := HBL.out; omega) (by have := HBL.out; omega) R2.out (seg_take S2.out _)).mono ?_; rintro e w4 ⟨rfl, q4⟩; rw [decide_eq_true HSB.out]; have Q4 := hid (Q2.out.trans q4); clear q4)
      | (go_at_call 11; refine (HAW.out _).mono ?_; rintro e w3 ⟨rfl, q3⟩; have Q3 := hid (Q4.out.trans q3); clear q3))
      go_ret
      exact ⟨rfl, Q3.out⟩
  · obtain ⟨rfl, rfl⟩ := pgA_bad hR h3
    have h3b : (r3 != 0) = true := by simpa using h3
    clear hR
    go_enter Try.func8, Try.ntmps8
    go_wp2_with (first
      | (go_at_call 13; refine (rcopy_any a n c zs w HL.out hn HS.out).mono ?_; rintro e w1 ⟨g, rfl, q1, o1, g1⟩; have Q1 := hid q1; have O1 := hid o1.seg; have S1 := hid (HS.out.q q1); clear q1 o1 g1)
      | (go_at_call 14; refine (HG.out g w1 O1.out).mono ?_; rintro e w2 ⟨rfl, rfl⟩)
      | (go_at_call 11; refine (HAW.out _).mono ?_; rintro e w3 ⟨rfl, q3⟩; have Q3 := hid (Q1.out.trans q3); clear q3))
    go_ret
    exact ⟨rfl, Q3.out⟩

set_option maxRecDepth 100000 in
theorem lifted (os : Os) (started : os.Started) (H : Type) (enc : TypeId × Value → H) :
    ReturnsInHanded {} Try.checked os 8 .any (Rows.prefixLeastSpec.pre6 enc Try.prog Try.f8 Rows.prefixLeastRow.domain false) (Rows.prefixLeastSpec.post enc Try.prog Try.f8 false true false false) := by
  refine returnsInHanded_of_change_sized (C := Try.checked) own_knob started (by kernel_rfl) Try.func8
    (ChangeSpec.witness6 (enc := enc) (C := Try.checked) false ⟨#[], #[.slice none 0 0, .int .i64 0], []⟩ 8 (by kernel_rfl) (by kernel_rfl) (by kernel_rfl) (by kernel_rfl)) ?_
  intro W base args ds gs before hval0 hW hcnd hsz0 _
  have hval : ∀ (j : Nat) t v, Try.f8.params[j]? = some t → args[j]? = some v → Value.okWide Try.prog W .any base t v := hval0
  have hsz : (DataW.weightsEach Try.prog (Try.f8.params.toList ++ Rows.prefixLeastSpec.plain.varTypes Try.prog) (ds ++ gs)).all (· ≤ reachBytes) = true := hsz0
  have hW' := hW
  obtain ⟨p, q, hA0, hV, rfl, hfz, hnd⟩ := hW
  have hA : DataW.TrodAll enc Try.prog W 0 (fun _ => true) true Try.f8.params.toList args.toList ds p := hA0
  rw [Try.params8] at hA hval hsz
  obtain ⟨v0, vs0, d0, ds0, p0, q0, hargs, rfl, rfl, h0, r0⟩ := trodAll_cons hA
  obtain ⟨v1, vs1, d1, ds1, p1, q1, rfl, rfl, rfl, h1, r1⟩ := trodAll_cons r0
  obtain ⟨rfl, rfl, rfl⟩ := trodAll_nil r1
  obtain rfl : args = #[v0, v1] := by cases args; simp_all
  obtain ⟨rfl, rfl⟩ := trodVars_none hV
  obtain ⟨a0, len0, cap0, rfl⟩ := okWide_slice Try.underlying22 (hval 0 22 v0 rfl rfl)
  have k0 := h0
  have lt0 : ∀ x ∈ p0, x.block < W.heap.size := by obtain ⟨m, hm⟩ := k0; exact DataW.trod_lt m _ _ _ hm
  obtain ⟨z0, zl0, zs0, zb0, zc0, ze0, zd0⟩ := open_bytes h0
  have zn0 := len_le_bytes hsz (j := 0) rfl rfl zd0
  obtain ⟨a1, rfl, rfl, rfl, w1⟩ := open_int Try.underlying3 (hval 1 3 v1 rfl rfl) h1
  clear hA0 hval0
  refine (walk a0 len0 cap0 z0 a1 W zl0 (by omega) (by omega) zb0 zs0).mono fun e W' ⟨he, bel⟩ => ?_
  subst he
  exact ⟨_, rfl, _, _, _, [], _, [], hW', trodAll_mk1 (shut_bool Try.underlying4 _), (trodAll_cons_mk (Below.trod laid_out (by kernel_rfl) (of_decide_eq_true (by kernel_rfl)) k0 bel lt0) (trodAll_cons_mk (shut_int Try.underlying3 w1) trodAll_mk0)), rfl, bel.frame _, fun h => by cases h⟩

theorem over : Rows.prefixLeastRow.holds Try.pinned (OpenSpec.ofChange Rows.prefixLeastSpec) :=
  OpenClaim.holds_of_wide 8 Try.f8 rfl rfl rfl rfl rfl rfl rfl ⟨rfl, rfl, rfl, rfl, rfl⟩ rfl rfl rfl rfl rfl (by kernel_rfl) Try.func8 (by kernel_rfl)
    (of_decide_eq_true (by kernel_rfl)) (by unfold Func.isWrapper; first | (rw [if_pos (by decide +kernel)]; kernel_rfl) | (rw [if_neg (by decide +kernel)]; exact ⟨rfl, rfl⟩))
    (fun os started H enc _ => lifted os started H enc)

end Go.Proofs.Ytchkiohmjgmmbaa.prefixLeast
namespace Go.Proofs.Ytchkiohmjgmmbaa

/-- The statement. -/
theorem prefixLeast_holds : Rows.PrefixLeastSaid := prefixLeast.over
#print axioms prefixLeast_holds
end Go.Proofs.Ytchkiohmjgmmbaa
