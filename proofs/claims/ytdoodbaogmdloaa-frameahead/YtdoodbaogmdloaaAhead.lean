/-
  FrameAhead holds for every slice of bytes: where Decode tells an error at a place behind the beginning, the bytes ahead of that place are read as frames; no condition.
-/
import Derived.Test.YtdoodbaogmdloaaRows
import Derived.Test.YtdoodbaogmdloaaAwake
import Derived.Test.YtdoodbaogmdloaaTakeM
import Derived.Test.YtdoodbaogmdloaaOpen
import Derived.Test.YtdoodbaogmdloaaCopy
import Derived.WalkKit
import Derived.ProofKit
import Derived.OpenShut
import Derived.ShutString
import Derived.ChangeOld
import Derived.Below
import Derived.SizedLaws
namespace Go.Proofs.Ytdoodbaogmdloaa.frameAhead
open Go.ChangeShapes Go.WideShapes Go.ChangeAt Go.RowKit
open Go.ChangeMaps (open_string shut_string)
set_option linter.unusedVariables false
set_option maxRecDepth 20000

set_option maxHeartbeats 4000000 in
theorem walk (a : Option Addr) (n c : Nat) (zs : List Int) (w : World) (hl : zs.length = n) (hn : n ≤ 140737488351232) (hz : ∀ y ∈ zs, 0 ≤ y ∧ y < 256) (hs : Seg w a zs) (hnc : n ≤ c) :
    Calls Try.prog 7 #[.slice a n c] w fun e w' => e = .returned (.bool true) ∧ Below w.heap.size w w' := by
  have HL := hid hl
  have HZ := hid hz
  have HS := hid hs
  clear hl hz hs
  go_enter Try.func7, Try.ntmps7
  go_wp2_with fail
  refine (rcopy_any a n c zs w HL.out (by omega) HS.out).mono ?_
  rintro e w1 ⟨g, rfl, hq1, hown, _⟩
  have Q1 := hid hq1
  have S1 := hid hown.seg
  clear hq1 hown
  go_wp2_with fail
  refine (decode_any ⟨some ⟨g, 0, none⟩, n, n⟩ zs w1 HL.out HZ.out S1.out (by show n ≤ _; omega)).mono ?_
  rintro e w2 ⟨x, fds, rfl, hq2, hf, hm⟩
  have Q2 := hid (Q1.out.trans hq2)
  have hxl := hf.len
  obtain ⟨⟨fs, at_, er⟩, hD⟩ : ∃ D, decA zs = D := ⟨_, rfl⟩
  rw [hD] at hm ⊢
  dsimp only at hm ⊢
  have hml : fs.length = x.n := by rw [← hm, List.length_map]; exact hxl
  have HC := hid (decA_cases HZ.out hD)
  clear hf hm hxl hq2 Q1 S1 hD
  rcases HC.out with ⟨rfl, rfl, hne⟩ | ⟨he, rfl, hfs⟩ | ⟨he, hfs, S, rfl, hS0, hSl, l, hdl, hln⟩
  · have hpos : (0 : Int) < (x.n : Int) := by
      cases fs with
      | nil => exact absurd rfl hne
      | cons y r => simp at hml; omega
    have hdec : decide ((0 : Int) < (x.n : Int)) = true := by simp only [decide_eq_true_eq]; exact hpos
    have hpos' : 0 < x.n := by omega
    clear hne hml HC
    go_wp2_with fail
    refine (awake_any _).mono ?_
    rintro e w3 ⟨rfl, hq3⟩
    have Q3 := hid (Q2.out.trans hq3)
    clear hq3
    go_wp2
    go_ret
    exact ⟨by first | rfl | simp, Q3.out⟩
  · have hb : (er == 0) = false := by simp [he]
    have hb2 : (er != 0) = true := by simp [he]
    clear hml HC he
    go_wp2_with fail
    refine (awake_any _).mono ?_
    rintro e w3 ⟨rfl, hq3⟩
    have Q3 := hid (Q2.out.trans hq3)
    clear hq3
    go_wp2
    go_ret
    exact ⟨by first | rfl | simp, Q3.out⟩
  · have hb : (er == 0) = false := by simp [he]
    have hb2 : ((S : Int) == 0) = false := by simp; omega
    have hb3 : decide ((S : Int) < 0) = false := by simp
    have hb4 : ¬ (n : Int) < (S : Int) := by rw [HL.out] at hSl; omega
    have hb5 : decide ((n : Int) < (S : Int)) = false := by simp only [decide_eq_false_iff_not]; exact hb4
    have hb6 : (S : Int) ≤ (c : Int) := by omega
    have hb7 : (0 : Int) ≤ (S : Int) := by omega
    have hb8 : decide (n < S) = false := by simp; omega
    have HSL := hid hSl
    have HDL := hid hdl
    have HLN := hid hln
    have HS0 := hid hS0
    have hSn : S ≤ n := by omega
    clear hml HC he hfs hSl hdl hln hS0
    go_wp2_with fail
    refine (rcopy_any a S c (zs.take S) w2 (by rw [List.length_take]; have := HSL.out; omega) (by omega) (seg_take (HS.out.q Q2.out) S)).mono ?_
    rintro e w3 ⟨g3, rfl, hq3, hown3, _⟩
    have Q3 := hid (Q2.out.trans hq3)
    have S3 := hid hown3.seg
    clear hq3 hown3
    go_wp2_with fail
    refine (decode_any ⟨some ⟨g3, 0, none⟩, S, S⟩ (zs.take S) w3 (by rw [List.length_take]; have := HSL.out; show _ = S; omega) (fun y hy => HZ.out y (List.mem_of_mem_take hy)) S3.out (by show S ≤ _; omega)).mono ?_
    rintro e w4 ⟨y, fds4, rfl, hq4, hf4, hm4⟩
    rw [HDL.out] at hm4 ⊢
    dsimp only at hm4 ⊢
    have Q4 := hid (Q3.out.trans hq4)
    have hyl := hf4.len
    have hpos : 0 < y.n := by
      have h1 := congrArg List.length hm4
      rw [List.length_map] at h1
      have h2 := HLN.out
      cases l with
      | nil => exact absurd rfl h2
      | cons u r => simp at h1; omega
    have hpos' : (0 : Int) < (y.n : Int) := by omega
    have hdec : decide ((0 : Int) < (y.n : Int)) = true := by simp only [decide_eq_true_eq]; exact hpos'
    clear hf4 hm4 hq4 hyl
    go_wp2_with fail
    refine (awake_any _).mono ?_
    rintro e w5 ⟨rfl, hq5⟩
    have Q5 := hid (Q4.out.trans hq5)
    clear hq5
    go_wp2
    go_ret
    exact ⟨by first | rfl | simp, Q5.out⟩

set_option maxRecDepth 100000 in
theorem lifted (os : Os) (started : os.Started) (H : Type) (enc : TypeId × Value → H) :
    ReturnsInHanded {} Try.checked os 7 .any (Rows.frameAheadSpec.pre6 enc Try.prog Try.f7 Rows.frameAheadRow.domain false) (Rows.frameAheadSpec.post enc Try.prog Try.f7 false true false false) := by
  refine returnsInHanded_of_change_sized (C := Try.checked) own_knob started (by kernel_rfl) Try.func7
    (ChangeSpec.witness6 (enc := enc) (C := Try.checked) false ⟨#[], #[.slice none 0 0], []⟩ 8 (by kernel_rfl) (by kernel_rfl) (by kernel_rfl) (by kernel_rfl)) ?_
  intro W base args ds gs before hval0 hW hcnd hsz0 _
  have hval : ∀ (j : Nat) t v, Try.f7.params[j]? = some t → args[j]? = some v → Value.okWide Try.prog W .any base t v := hval0
  have hsz : (DataW.weightsEach Try.prog (Try.f7.params.toList ++ Rows.frameAheadSpec.plain.varTypes Try.prog) (ds ++ gs)).all (· ≤ reachBytes) = true := hsz0
  have hW' := hW
  obtain ⟨p, q, hA0, hV, rfl, hfz, hnd⟩ := hW
  have hA : DataW.TrodAll enc Try.prog W 0 (fun _ => true) true Try.f7.params.toList args.toList ds p := hA0
  rw [Try.params7] at hA hval hsz
  obtain ⟨v0, vs0, d0, ds0, p0, q0, hargs, rfl, rfl, h0, r0⟩ := trodAll_cons hA
  obtain ⟨rfl, rfl, rfl⟩ := trodAll_nil r0
  obtain rfl : args = #[v0] := by cases args; simp_all
  obtain ⟨rfl, rfl⟩ := trodVars_none hV
  obtain ⟨a0, len0, cap0, rfl⟩ := okWide_slice Try.underlying22 (hval 0 22 v0 rfl rfl)
  have k0 := h0
  have lt0 : ∀ x ∈ p0, x.block < W.heap.size := by obtain ⟨m, hm⟩ := k0; exact DataW.trod_lt m _ _ _ hm
  obtain ⟨z0, zl0, zs0, zb0, zc0, ze0, zd0⟩ := open_bytes h0
  have zn0 := len_le_bytes hsz (j := 0) rfl rfl zd0
  clear hA0 hval0
  refine (walk a0 len0 cap0 z0 W zl0 zn0 zb0 zs0 zc0).mono fun e W' ⟨he, bel⟩ => ?_
  subst he
  exact ⟨_, rfl, _, _, _, [], _, [], hW', trodAll_mk1 (shut_bool Try.underlying4 _), (trodAll_cons_mk (Below.trod laid_out (by kernel_rfl) (of_decide_eq_true (by kernel_rfl)) k0 bel lt0) trodAll_mk0), rfl, bel.frame _, fun h => by cases h⟩

theorem over : Rows.frameAheadRow.holds Try.pinned (OpenSpec.ofChange Rows.frameAheadSpec) :=
  OpenClaim.holds_of_wide 7 Try.f7 rfl rfl rfl rfl rfl rfl rfl ⟨rfl, rfl, rfl, rfl, rfl⟩ rfl rfl rfl rfl rfl (by kernel_rfl) Try.func7 (by kernel_rfl)
    (of_decide_eq_true (by kernel_rfl)) (by unfold Func.isWrapper; first | (rw [if_pos (by decide +kernel)]; kernel_rfl) | (rw [if_neg (by decide +kernel)]; exact ⟨rfl, rfl⟩))
    (fun os started H enc _ => lifted os started H enc)

end Go.Proofs.Ytdoodbaogmdloaa.frameAhead
namespace Go.Proofs.Ytdoodbaogmdloaa

/-- The statement. -/
theorem frameAhead_holds : Rows.FrameAheadSaid := frameAhead.over
#print axioms frameAhead_holds
end Go.Proofs.Ytdoodbaogmdloaa
