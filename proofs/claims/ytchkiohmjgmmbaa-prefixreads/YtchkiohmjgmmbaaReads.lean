/-
  Whatever bytes, place and bits there are: GetText answers as the document does, text, end and error, and leaves the bytes as they were.
-/
import Derived.Test.YtchkiohmjgmmbaaRows
import Derived.Test.YtchkiohmjgmmbaaPfH
import Derived.Test.YtchkiohmjgmmbaaSame
import Derived.Test.YtchkiohmjgmmbaaOpen
import Derived.WalkKit
import Derived.ProofKit
import Derived.OpenShut
import Derived.ShutString
import Derived.ChangeOld
import Derived.Below
import Derived.SizedLaws
namespace Go.Proofs.Ytchkiohmjgmmbaa.prefixReads
open Go.ChangeShapes Go.WideShapes Go.ChangeAt Go.RowKit
open Go.ChangeMaps (open_string shut_string)
set_option linter.unusedVariables false

set_option maxRecDepth 20000 in
set_option maxHeartbeats 4000000 in
theorem walk (a : Option Addr) (n c : Nat) (zs : List Int) (p b : Int) (w : World) (hl : zs.length = n) (hn : n ≤ 140737488355328) (hcap : n ≤ c) (hz : ∀ y ∈ zs, 0 ≤ y ∧ y < 256) (hseg : Seg w a zs) :
    Calls Try.prog 6 #[.slice a n c, .int .i64 p, .int .i64 b] w fun r w' => r = .returned (.bool true) ∧ Below w.heap.size w w' := by
  have HL := hid hl
  have HS := hid hseg
  have HZ := hid hz
  have HAW := hid awake_any
  have HG := hid (fun g W (hs : Seg W (some ⟨g, 0, none⟩) zs) => getText_any (some ⟨g, 0, none⟩) n n zs p b W hl hn (Nat.le_refl _) hz hs)
  have HR := hid (fun W (hs : Seg W a zs) => rgetText_any a n c zs p b W hl hn hcap hz hs)
  generalize gtB zs p b = R at *
  obtain ⟨r1, r2, r3⟩ := R
  simp only [ansT] at HG HR
  generalize strOfNums r1 = s1 at *
  clear hl hseg hz
  go_enter Try.func6, Try.ntmps6
  go_wp2_with (first
    | (go_at_call 13; refine (rcopy_any a n c zs w HL.out hn HS.out).mono ?_; rintro e w1 ⟨g, rfl, q1, o1, g1⟩; have Q1 := hid q1; have O1 := hid o1.seg; have S1 := hid (HS.out.q q1); clear q1 o1 g1)
    | (go_at_call 18; refine (HG.out g w1 O1.out).mono ?_; rintro e w2 ⟨rfl, q2⟩; have Q2 := hid (Q1.out.trans q2); have S2 := hid (S1.out.q q2); have O2 := hid (O1.out.q q2); clear q2)
    | (go_at_call 19; refine (HR.out w2 S2.out).mono ?_; rintro e w3 ⟨rfl, q3⟩; have Q3 := hid (Q2.out.trans q3); have S3 := hid (S2.out.q q3); have O3 := hid (O2.out.q q3); clear q3)
    | (go_at_call 11; refine (HAW.out _).mono ?_; rintro e w4 ⟨rfl, q4⟩; have Q4 := hid (Q3.out.trans q4); have S4 := hid (S3.out.q q4); have O4 := hid (O3.out.q q4); clear q4)
    | (go_at_call 12; refine (same_any (some ⟨g, 0, none⟩) a n n n c zs zs _ HL.out HL.out (by omega) (by omega) O4.out S4.out).mono ?_; rintro e w5 ⟨rfl, q5⟩; rw [decide_eq_true rfl]; have Q5 := hid (Q4.out.trans q5); clear q5))
  go_ret
  exact ⟨rfl, Q5.out⟩

set_option maxRecDepth 100000 in
theorem lifted (os : Os) (started : os.Started) (H : Type) (enc : TypeId × Value → H) :
    ReturnsInHanded {} Try.checked os 6 .any (Rows.prefixReadsSpec.pre6 enc Try.prog Try.f6 Rows.prefixReadsRow.domain false) (Rows.prefixReadsSpec.post enc Try.prog Try.f6 false true false false) := by
  refine returnsInHanded_of_change_sized (C := Try.checked) own_knob started (by kernel_rfl) Try.func6
    (ChangeSpec.witness6 (enc := enc) (C := Try.checked) false ⟨#[], #[.slice none 0 0, .int .i64 0, .int .i64 0], []⟩ 8 (by kernel_rfl) (by kernel_rfl) (by kernel_rfl) (by kernel_rfl)) ?_
  intro W base args ds gs before hval0 hW hcnd hsz0 _
  have hval : ∀ (j : Nat) t v, Try.f6.params[j]? = some t → args[j]? = some v → Value.okWide Try.prog W .any base t v := hval0
  have hsz : (DataW.weightsEach Try.prog (Try.f6.params.toList ++ Rows.prefixReadsSpec.plain.varTypes Try.prog) (ds ++ gs)).all (· ≤ reachBytes) = true := hsz0
  have hW' := hW
  obtain ⟨p, q, hA0, hV, rfl, hfz, hnd⟩ := hW
  have hA : DataW.TrodAll enc Try.prog W 0 (fun _ => true) true Try.f6.params.toList args.toList ds p := hA0
  rw [Try.params6] at hA hval hsz
  obtain ⟨v0, vs0, d0, ds0, p0, q0, hargs, rfl, rfl, h0, r0⟩ := trodAll_cons hA
  obtain ⟨v1, vs1, d1, ds1, p1, q1, rfl, rfl, rfl, h1, r1⟩ := trodAll_cons r0
  obtain ⟨v2, vs2, d2, ds2, p2, q2, rfl, rfl, rfl, h2, r2⟩ := trodAll_cons r1
  obtain ⟨rfl, rfl, rfl⟩ := trodAll_nil r2
  obtain rfl : args = #[v0, v1, v2] := by cases args; simp_all
  obtain ⟨rfl, rfl⟩ := trodVars_none hV
  obtain ⟨a0, len0, cap0, rfl⟩ := okWide_slice Try.underlying22 (hval 0 22 v0 rfl rfl)
  have k0 := h0
  have lt0 : ∀ x ∈ p0, x.block < W.heap.size := by obtain ⟨m, hm⟩ := k0; exact DataW.trod_lt m _ _ _ hm
  obtain ⟨z0, zl0, zs0, zb0, zc0, ze0, zd0⟩ := open_bytes h0
  have zn0 := len_le_bytes hsz (j := 0) rfl rfl zd0
  obtain ⟨a1, rfl, rfl, rfl, w1⟩ := open_int Try.underlying3 (hval 1 3 v1 rfl rfl) h1
  obtain ⟨a2, rfl, rfl, rfl, w2⟩ := open_int Try.underlying3 (hval 2 3 v2 rfl rfl) h2
  clear hA0 hval0
  refine (walk a0 len0 cap0 z0 a1 a2 W zl0 (by omega) zc0 zb0 zs0).mono fun e W' ⟨he, bel⟩ => ?_
  subst he
  exact ⟨_, rfl, _, _, _, [], _, [], hW', trodAll_mk1 (shut_bool Try.underlying4 _), (trodAll_cons_mk (Below.trod laid_out (by kernel_rfl) (of_decide_eq_true (by kernel_rfl)) k0 bel lt0) (trodAll_cons_mk (shut_int Try.underlying3 w1) (trodAll_cons_mk (shut_int Try.underlying3 w2) trodAll_mk0))), rfl, bel.frame _, fun h => by cases h⟩

theorem over : Rows.prefixReadsRow.holds Try.pinned (OpenSpec.ofChange Rows.prefixReadsSpec) :=
  OpenClaim.holds_of_wide 6 Try.f6 rfl rfl rfl rfl rfl rfl rfl ⟨rfl, rfl, rfl, rfl, rfl⟩ rfl rfl rfl rfl rfl (by kernel_rfl) Try.func6 (by kernel_rfl)
    (of_decide_eq_true (by kernel_rfl)) (by unfold Func.isWrapper; first | (rw [if_pos (by decide +kernel)]; kernel_rfl) | (rw [if_neg (by decide +kernel)]; exact ⟨rfl, rfl⟩))
    (fun os started H enc _ => lifted os started H enc)

end Go.Proofs.Ytchkiohmjgmmbaa.prefixReads
namespace Go.Proofs.Ytchkiohmjgmmbaa

/-- The statement. -/
theorem prefixReads_holds : Rows.PrefixReadsSaid := prefixReads.over
#print axioms prefixReads_holds
end Go.Proofs.Ytchkiohmjgmmbaa
