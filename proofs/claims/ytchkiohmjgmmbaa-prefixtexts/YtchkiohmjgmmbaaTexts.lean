/-
  Whatever text, bits and first byte there are: PutText answers as the document does, bytes and error.
-/
import Derived.Test.YtchkiohmjgmmbaaRows
import Derived.Test.YtchkiohmjgmmbaaPfG
import Derived.Test.YtchkiohmjgmmbaaSame
import Derived.Test.YtchkiohmjgmmbaaOpen
import Derived.WalkKit
import Derived.ProofKit
import Derived.OpenShut
import Derived.ShutString
import Derived.ChangeOld
import Derived.Below
import Derived.SizedLaws
namespace Go.Proofs.Ytchkiohmjgmmbaa.prefixTexts
open Go.ChangeShapes Go.WideShapes Go.ChangeAt Go.RowKit
open Go.ChangeMaps (open_string shut_string)
set_option linter.unusedVariables false

theorem ptB_len (s : List Int) (b f : Int) : (ptB s b f).length ≤ 100000 := by
  unfold ptB
  split
  · next h =>
    have hl : s.length ≤ 16384 := by
      rcases Nat.lt_or_ge 16384 s.length with hh | hh
      · unfold ptE at h
        split at h
        · cases h
        · cases h
      · exact hh
    unfold ptT
    split
    · have h1 := (pfP_len (hM (hN s) : Nat) (2 ^ b.toNat) (f / (2 * 2 ^ b.toNat) * (2 * 2 ^ b.toNat) + 2 ^ b.toNat)).1
      have h2 := hE_len s
      rw [List.length_append]; omega
    · have h1 := (pfP_len (s.length : Nat) (2 ^ b.toNat) (f / (2 * 2 ^ b.toNat) * (2 * 2 ^ b.toNat))).1
      rw [List.length_append]; omega
  · simp
set_option maxRecDepth 20000 in
set_option maxHeartbeats 4000000 in
theorem walk (s : ByteArray) (b f : Int) (w : World) (h0 : 0 ≤ f) (h1 : f < 256) (hms : s.size ≤ 9223372036854775807) :
    Calls Try.prog 5 #[.string s, .int .i64 b, .int .u8 f] w fun r w' => r = .returned (.bool true) ∧ Below w.heap.size w w' := by
  have HAW := hid awake_any
  have HP := hid (fun W => putText_any s b f W h0 h1 hms)
  have HR := hid (fun W => rputText_any s b f W h0 h1 hms)
  have HPL := hid (ptB_len (sb s) b f)
  generalize ptB (sb s) b f = B at *
  generalize ptE (sb s) b = E at *
  go_enter Try.func5, Try.ntmps5
  go_wp2_with (first
    | (go_at_call 16; refine (HP.out _).mono ?_; rintro e w1 ⟨⟨xa, xn, xc⟩, rfl, q1, r1, n1⟩; have Q1 := hid q1; have S1 := hid (Row.seg r1); have L1 := hid (show B.length = xn from Row.len r1); clear q1 r1 n1)
    | (go_at_call 17; refine (HR.out _).mono ?_; rintro e w2 ⟨⟨ya, yn, yc⟩, rfl, q2, r2, n2⟩; have Q2 := hid (Q1.out.trans q2); have S2 := hid (Row.seg r2); have T1 := hid (S1.out.q q2); have L2 := hid (show B.length = yn from Row.len r2); clear q2 r2 n2)
    | (go_at_call 11; refine (HAW.out _).mono ?_; rintro e w3 ⟨rfl, q3⟩; have Q3 := hid (Q2.out.trans q3); have S3 := hid (S2.out.q q3); have T3 := hid (T1.out.q q3); clear q3)
    | (go_at_call 12; refine (same_any xa ya xn yn xc yc B B _ L1.out L2.out (by have := L1.out; have := HPL.out; omega) (by have := L2.out; have := HPL.out; omega) T3.out S3.out).mono ?_; rintro e w4 ⟨rfl, q4⟩; rw [decide_eq_true rfl]; have Q4 := hid (Q3.out.trans q4); clear q4))
  go_ret
  exact ⟨rfl, Q4.out⟩

set_option maxRecDepth 100000 in
theorem lifted (os : Os) (started : os.Started) (H : Type) (enc : TypeId × Value → H) :
    ReturnsInHanded {} Try.checked os 5 .any (Rows.prefixTextsSpec.pre6 enc Try.prog Try.f5 Rows.prefixTextsRow.domain false) (Rows.prefixTextsSpec.post enc Try.prog Try.f5 false true false false) := by
  refine returnsInHanded_of_change_sized (C := Try.checked) own_knob started (by kernel_rfl) Try.func5
    (ChangeSpec.witness6 (enc := enc) (C := Try.checked) false ⟨#[], #[.string ⟨#[]⟩, .int .i64 0, .int .u8 0], []⟩ 8 (by kernel_rfl) (by kernel_rfl) (by kernel_rfl) (by kernel_rfl)) ?_
  intro W base args ds gs before hval0 hW hcnd hsz0 _
  have hval : ∀ (j : Nat) t v, Try.f5.params[j]? = some t → args[j]? = some v → Value.okWide Try.prog W .any base t v := hval0
  have hsz : (DataW.weightsEach Try.prog (Try.f5.params.toList ++ Rows.prefixTextsSpec.plain.varTypes Try.prog) (ds ++ gs)).all (· ≤ reachBytes) = true := hsz0
  have hW' := hW
  obtain ⟨p, q, hA0, hV, rfl, hfz, hnd⟩ := hW
  have hA : DataW.TrodAll enc Try.prog W 0 (fun _ => true) true Try.f5.params.toList args.toList ds p := hA0
  rw [Try.params5] at hA hval hsz
  obtain ⟨v0, vs0, d0, ds0, p0, q0, hargs, rfl, rfl, h0, r0⟩ := trodAll_cons hA
  obtain ⟨v1, vs1, d1, ds1, p1, q1, rfl, rfl, rfl, h1, r1⟩ := trodAll_cons r0
  obtain ⟨v2, vs2, d2, ds2, p2, q2, rfl, rfl, rfl, h2, r2⟩ := trodAll_cons r1
  obtain ⟨rfl, rfl, rfl⟩ := trodAll_nil r2
  obtain rfl : args = #[v0, v1, v2] := by cases args; simp_all
  obtain ⟨rfl, rfl⟩ := trodVars_none hV
  obtain ⟨a0, rfl, rfl, rfl, w0⟩ := open_string Try.underlying9 (hval 0 9 v0 rfl rfl) h0
  obtain ⟨a1, rfl, rfl, rfl, w1⟩ := open_int Try.underlying3 (hval 1 3 v1 rfl rfl) h1
  obtain ⟨a2, rfl, rfl, rfl, w2⟩ := open_int Try.underlying5 (hval 2 5 v2 rfl rfl) h2
  clear hA0 hval0
  refine (walk a0 a1 a2 W (wf_u8 w2).1 (wf_u8 w2).2 (by unfold maxLen at w0; omega)).mono fun e W' ⟨he, bel⟩ => ?_
  subst he
  exact ⟨_, rfl, _, _, _, [], _, [], hW', trodAll_mk1 (shut_bool Try.underlying4 _), (trodAll_cons_mk (shut_string Try.underlying9 w0) (trodAll_cons_mk (shut_int Try.underlying3 w1) (trodAll_cons_mk (shut_int Try.underlying5 w2) trodAll_mk0))), rfl, bel.frame _, fun h => by cases h⟩

theorem over : Rows.prefixTextsRow.holds Try.pinned (OpenSpec.ofChange Rows.prefixTextsSpec) :=
  OpenClaim.holds_of_wide 5 Try.f5 rfl rfl rfl rfl rfl rfl rfl ⟨rfl, rfl, rfl, rfl, rfl⟩ rfl rfl rfl rfl rfl (by kernel_rfl) Try.func5 (by kernel_rfl)
    (of_decide_eq_true (by kernel_rfl)) (by unfold Func.isWrapper; first | (rw [if_pos (by decide +kernel)]; kernel_rfl) | (rw [if_neg (by decide +kernel)]; exact ⟨rfl, rfl⟩))
    (fun os started H enc _ => lifted os started H enc)

end Go.Proofs.Ytchkiohmjgmmbaa.prefixTexts
namespace Go.Proofs.Ytchkiohmjgmmbaa

/-- The statement. -/
theorem prefixTexts_holds : Rows.PrefixTextsSaid := prefixTexts.over
#print axioms prefixTexts_holds
end Go.Proofs.Ytchkiohmjgmmbaa
