/-
  Decode tells the text of any bytes, or why they are none, as the document says; the bytes stay as they were.
-/
import Derived.Test.YtbbpcaeacfhilaaRows
import Derived.Test.YtbbpcaeacfhilaaRDc
import Derived.Test.YtbbpcaeacfhilaaAwk
import Derived.Test.YtbbpcaeacfhilaaOpen
import Derived.WalkKit
import Derived.ProofKit
import Derived.OpenShut
import Derived.ShutString
import Derived.ChangeOld
import Derived.Below
import Derived.SizedLaws
namespace Go.Proofs.Ytbbpcaeacfhilaa.huffDecodes
open Go.ChangeShapes Go.WideShapes Go.ChangeAt Go.RowKit
open Go.ChangeMaps (open_string shut_string)
set_option linter.unusedVariables false

set_option maxRecDepth 20000
theorem row_small {w : World} {d : Sv} {zs : List Int} (h : Row w d zs) : d.n ≤ 9223372036854775807 := by
  rcases h.2 with ⟨_, h1, _⟩ | ⟨_, _, _, _, _, h1, h2, _⟩
  · omega
  · unfold maxLen at h2; omega
set_option maxRecDepth 20000 in
set_option maxHeartbeats 4000000 in
theorem walk (a : Option Addr) (n c : Nat) (zs : List Int) (w : World) (hl : zs.length = n) (hn : n ≤ 140737488355328) (hz : ∀ y ∈ zs, 0 ≤ y ∧ y < 256) (hseg : Seg w a zs) :
    Calls Try.prog 4 #[.slice a n c] w fun r w' => r = .returned (.bool true) ∧ Below w.heap.size w w' := by
  have HL := hid hl
  have HS := hid hseg
  have HZ := hid hz
  have HAW := hid awake_any
  clear hl hseg hz
  go_enter Try.func4, Try.ntmps4
  go_wp2_with fail
  refine (rcopy_any a n c zs w HL.out hn HS.out).mono ?_
  rintro e w1 ⟨g, rfl, q1, o1, g1⟩
  have Q1 := hid q1
  have O1 := hid o1.seg
  clear q1 o1 g1
  go_wp2_with fail
  refine (decode_any (some ⟨g, 0, none⟩) n n zs w1 HL.out HZ.out (by omega) O1.out).mono ?_
  rintro e w2 ⟨⟨xa, xn, xc⟩, rfl, q2, r2, _⟩
  have Q2 := hid (Q1.out.trans q2)
  have O2 := hid (O1.out.q q2)
  have R2 := hid r2
  clear q2 r2 O1 Q1
  go_wp2_with fail
  refine (rdecode_any a n c zs w2 HL.out HZ.out (by omega) (HS.out.q Q2.out)).mono ?_
  rintro e w3 ⟨⟨ya, yn, yc⟩, rfl, q3, r3, _⟩
  have Q3 := hid (Q2.out.trans q3)
  have O3 := hid (O2.out.q q3)
  have RX := hid (Row.seg (Sub.q R2.out q3))
  have RY := hid (Row.seg r3)
  have LX := hid (show (hD zs).1.length = xn from Row.len R2.out)
  have LY := hid (show (hD zs).1.length = yn from Row.len r3)
  have BX := hid (show xn ≤ 9223372036854775807 from row_small R2.out)
  clear q3 r3 O2 Q2 R2
  generalize (hD zs).1 = d at *
  generalize (hD zs).2 = v at *
  have hvv : (v == v) = true := by simp
  go_wp2_with fail
  refine (HAW.out _).mono ?_
  rintro e w4 ⟨rfl, q4⟩
  have Q4 := hid (Q3.out.trans q4)
  have O4 := hid (O3.out.q q4)
  have SM := hid (same_any xa ya xn yn xc yc d d w4 LX.out LY.out BX.out (by have h1 := LX.out; have h2 := LY.out; have h3 := BX.out; omega) (RX.out.q q4) (RY.out.q q4))
  rw [decide_eq_true rfl] at SM
  clear q4 Q3 O3
  go_wp2_with fail
  refine SM.out.mono ?_
  rintro e w5 ⟨rfl, q5⟩
  have Q5 := hid (Q4.out.trans q5)
  have SN := hid (same_any (some ⟨g, 0, none⟩) a n n n c zs zs w5 HL.out HL.out (by omega) (by omega) (O4.out.q q5) (HS.out.q Q5.out))
  rw [decide_eq_true rfl] at SN
  clear q5
  go_wp2_with fail
  refine SN.out.mono ?_
  rintro e w6 ⟨rfl, q6⟩
  have Q6 := hid (Q5.out.trans q6)
  clear q6
  go_wp2
  go_ret
  exact ⟨rfl, Q6.out⟩

set_option maxRecDepth 100000 in
theorem lifted (os : Os) (started : os.Started) (H : Type) (enc : TypeId × Value → H) :
    ReturnsInHanded {} Try.checked os 4 .any (Rows.huffDecodesSpec.pre6 enc Try.prog Try.f4 Rows.huffDecodesRow.domain false) (Rows.huffDecodesSpec.post enc Try.prog Try.f4 false true false false) := by
  refine returnsInHanded_of_change_sized (C := Try.checked) own_knob started (by kernel_rfl) Try.func4
    (ChangeSpec.witness6 (enc := enc) (C := Try.checked) false ⟨#[], #[.slice none 0 0], []⟩ 8 (by kernel_rfl) (by kernel_rfl) (by kernel_rfl) (by kernel_rfl)) ?_
  intro W base args ds gs before hval0 hW hcnd hsz0 _
  have hval : ∀ (j : Nat) t v, Try.f4.params[j]? = some t → args[j]? = some v → Value.okWide Try.prog W .any base t v := hval0
  have hsz : (DataW.weightsEach Try.prog (Try.f4.params.toList ++ Rows.huffDecodesSpec.plain.varTypes Try.prog) (ds ++ gs)).all (· ≤ reachBytes) = true := hsz0
  have hW' := hW
  obtain ⟨p, q, hA0, hV, rfl, hfz, hnd⟩ := hW
  have hA : DataW.TrodAll enc Try.prog W 0 (fun _ => true) true Try.f4.params.toList args.toList ds p := hA0
  rw [Try.params4] at hA hval hsz
  obtain ⟨v0, vs0, d0, ds0, p0, q0, hargs, rfl, rfl, h0, r0⟩ := trodAll_cons hA
  obtain ⟨rfl, rfl, rfl⟩ := trodAll_nil r0
  obtain rfl : args = #[v0] := by cases args; simp_all
  obtain ⟨rfl, rfl⟩ := trodVars_none hV
  obtain ⟨a0, len0, cap0, rfl⟩ := okWide_slice Try.underlying22 (hval 0 22 v0 rfl rfl)
  have k0 := h0
  have lt0 : ∀ x ∈ p0, x.block < W.heap.size := by obtain ⟨m, hm⟩ := k0; exact DataW.trod_lt m _ _ _ hm
  obtain ⟨z0, zl0, zs0, zb0, zc0, ze0, zd0⟩ := open_bytes h0
  have zn0 := len_le_bytes hsz (j := 0) rfl rfl zd0
  clear hA0 hval0
  refine (walk a0 len0 cap0 z0 W zl0 (by omega) zb0 zs0).mono fun e W' ⟨he, bel⟩ => ?_
  subst he
  exact ⟨_, rfl, _, _, _, [], _, [], hW', trodAll_mk1 (shut_bool Try.underlying4 _), (trodAll_cons_mk (Below.trod laid_out (by kernel_rfl) (of_decide_eq_true (by kernel_rfl)) k0 bel lt0) trodAll_mk0), rfl, bel.frame _, fun h => by cases h⟩

theorem over : Rows.huffDecodesRow.holds Try.pinned (OpenSpec.ofChange Rows.huffDecodesSpec) :=
  OpenClaim.holds_of_wide 4 Try.f4 rfl rfl rfl rfl rfl rfl rfl ⟨rfl, rfl, rfl, rfl, rfl⟩ rfl rfl rfl rfl rfl (by kernel_rfl) Try.func4 (by kernel_rfl)
    (of_decide_eq_true (by kernel_rfl)) (by unfold Func.isWrapper; first | (rw [if_pos (by decide +kernel)]; kernel_rfl) | (rw [if_neg (by decide +kernel)]; exact ⟨rfl, rfl⟩))
    (fun os started H enc _ => lifted os started H enc)

end Go.Proofs.Ytbbpcaeacfhilaa.huffDecodes
namespace Go.Proofs.Ytbbpcaeacfhilaa

/-- The statement. -/
theorem huffDecodes_holds : Rows.HuffDecodesSaid := huffDecodes.over
#print axioms huffDecodes_holds
end Go.Proofs.Ytbbpcaeacfhilaa
