/-
  Any text, of whatever bytes, is read back from its coded form, if that has at most 16384 bytes; else it is refused.
-/
import Derived.Test.YtbbpcaeacfhilaaRows
import Derived.Test.YtbbpcaeacfhilaaDec
import Derived.Test.YtbbpcaeacfhilaaAwk
import Derived.Test.YtbbpcaeacfhilaaOpen
import Derived.Test.YtbbpcaeacfhilaaByE
import Derived.WalkKit
import Derived.ProofKit
import Derived.OpenShut
import Derived.ShutString
import Derived.ChangeOld
import Derived.Below
import Derived.SizedLaws
namespace Go.Proofs.Ytbbpcaeacfhilaa.huffBack
open Go.ChangeShapes Go.WideShapes Go.ChangeAt Go.RowKit
open Go.ChangeMaps (open_string shut_string)
set_option linter.unusedVariables false

set_option maxRecDepth 20000
set_option maxRecDepth 20000 in
set_option maxHeartbeats 4000000 in
theorem walk (a : Option Addr) (n c : Nat) (zs : List Int) (w : World) (hl : zs.length = n) (hn : n ≤ 140737488355328) (hz : ∀ y ∈ zs, 0 ≤ y ∧ y < 256) (hseg : Seg w a zs) :
    Calls Try.prog 5 #[.slice a n c] w fun r w' => r = .returned (.bool true) ∧ Below w.heap.size w w' := by
  have HL := hid hl
  have HS := hid hseg
  have HZ := hid hz
  have HAW := hid awake_any
  clear hl hseg hz
  go_enter Try.func5, Try.ntmps5
  go_wp2_with fail
  refine (rcopy_any a n c zs w HL.out hn HS.out).mono ?_
  rintro e w1 ⟨g, rfl, q1, o1, g1⟩
  have Q1 := hid q1
  have O1 := hid o1
  clear q1 o1 g1
  go_wp2_with fail
  refine (encode_any (some ⟨g, 0, none⟩) n n zs w1 HL.out hn HZ.out O1.out.seg).mono ?_
  rintro e w2 ⟨g2, m2, c2, rfl, q2, r2, _⟩
  have Q2 := hid (Q1.out.trans q2)
  have R2 := hid r2
  have L2 := hid (show (hE zs).length = m2 from Row.len r2)
  have hbd := (hN_bd zs).2
  have hel := hE_len zs
  have hm2 : m2 ≤ 281474976710656 := by have h1 := L2.out; have h2 := HL.out; unfold hM at hel; omega
  have HEB := hid (show ∀ y ∈ hE zs, 0 ≤ y ∧ y < 256 from bytes_hE zs)
  have HSZ := hid (show hM (hN zs) = m2 from hel.symm.trans L2.out)
  clear q2 r2 Q1 O1 hbd hel
  go_wp2_with fail
  refine (decode_any (some ⟨g2, 0, none⟩) m2 c2 (hE zs) w2 L2.out HEB.out (by omega) (Row.seg R2.out)).mono ?_
  rintro e w3 ⟨⟨xa, xn, xc⟩, rfl, q3, r3, _⟩
  have Q3 := hid (Q2.out.trans q3)
  have R3 := hid r3
  clear q3 r3 R2
  by_cases hm : m2 ≤ 16384
  · have hb := back HZ.out (show (hE zs).length ≤ 16384 by rw [L2.out]; exact hm)
    rw [hb] at R3 ⊢
    have LX := hid (show zs.length = xn from Row.len R3.out)
    have HCP := hid (fun (W : World) (h : Q w W) => rcopy_any a n c zs W HL.out hn (HS.out.q h))
    have HSI := hid (fun (W : World) (g4 : Nat) (s : Seg W (some ⟨g4, 0, none⟩) zs) => size_any (some ⟨g4, 0, none⟩) n n zs W HL.out hn HZ.out s)
    rw [HSZ.out] at HSI
    have hmi : ¬ (m2 : Int) > 16384 := by omega
    clear hb
    go_wp2_with (first
      | (go_at_call 12; refine (same_any xa a xn n xc c zs zs _ LX.out HL.out (by have := LX.out; have := HL.out; omega) (by omega) (Row.seg R3.out) (HS.out.q Q3.out)).mono ?_; rintro e w4 ⟨rfl, q4⟩; rw [decide_eq_true rfl]; have Q4 := hid (Q3.out.trans q4); clear q4)
      | (go_at_call 9; refine (HCP.out _ Q4.out).mono ?_; rintro e w5 ⟨g5, rfl, q5, o5, _⟩; have Q5 := hid (Q4.out.trans q5); have S5 := hid o5.seg; clear q5 o5)
      | (go_at_call 14; refine (HSI.out _ g5 S5.out).mono ?_; rintro e w6 ⟨rfl, q6⟩; have Q6 := hid (Q5.out.trans q6); clear q6)
      | (go_at_call 11; refine (HAW.out _).mono ?_; rintro e w7 ⟨rfl, q7⟩; have Q7 := hid (Q6.out.trans q7); clear q7))
    go_ret
    exact ⟨rfl, Q7.out⟩
  · have hd : hD (hE zs) = ([], 52) := by unfold hD; rw [if_pos (by rw [L2.out]; omega)]
    rw [hd] at R3 ⊢
    have hmi : (m2 : Int) > 16384 := by omega
    clear hd
    go_wp2_with (go_at_call 11; refine (HAW.out _).mono ?_; rintro e w7 ⟨rfl, q7⟩; have Q7 := hid (Q3.out.trans q7); clear q7)
    go_ret
    exact ⟨rfl, Q7.out⟩

set_option maxRecDepth 100000 in
theorem lifted (os : Os) (started : os.Started) (H : Type) (enc : TypeId × Value → H) :
    ReturnsInHanded {} Try.checked os 5 .any (Rows.huffBackSpec.pre6 enc Try.prog Try.f5 Rows.huffBackRow.domain false) (Rows.huffBackSpec.post enc Try.prog Try.f5 false true false false) := by
  refine returnsInHanded_of_change_sized (C := Try.checked) own_knob started (by kernel_rfl) Try.func5
    (ChangeSpec.witness6 (enc := enc) (C := Try.checked) false ⟨#[], #[.slice none 0 0], []⟩ 8 (by kernel_rfl) (by kernel_rfl) (by kernel_rfl) (by kernel_rfl)) ?_
  intro W base args ds gs before hval0 hW hcnd hsz0 _
  have hval : ∀ (j : Nat) t v, Try.f5.params[j]? = some t → args[j]? = some v → Value.okWide Try.prog W .any base t v := hval0
  have hsz : (DataW.weightsEach Try.prog (Try.f5.params.toList ++ Rows.huffBackSpec.plain.varTypes Try.prog) (ds ++ gs)).all (· ≤ reachBytes) = true := hsz0
  have hW' := hW
  obtain ⟨p, q, hA0, hV, rfl, hfz, hnd⟩ := hW
  have hA : DataW.TrodAll enc Try.prog W 0 (fun _ => true) true Try.f5.params.toList args.toList ds p := hA0
  rw [Try.params5] at hA hval hsz
  obtain ⟨v0, vs0, d0, ds0, p0, q0, hargs, rfl, rfl, h0, r0⟩ := trodAll_cons hA
  obtain ⟨rfl, rfl, rfl⟩ := trodAll_nil r0
  obtain rfl : args = #[v0] := by cases args; simp_all
  obtain ⟨rfl, rfl⟩ := trodVars_none hV
  obtain ⟨a0, len0, cap0, rfl⟩ := okWide_slice Try.underlying22 (hval 0 22 v0 rfl rfl)
  have k0 := h0
  have lt0 : ∀ x ∈ p0, x.block < W.heap.size := by obtain ⟨m, hm⟩ := k0; exact DataW.trod_lt m _ _ _ hm
  obtain ⟨z0, zl0, zs0, zb0, zc0, ze0, zd0⟩ := open_bytes h0
  have zn0 := len_le_bytes hsz (j := 0) rfl rfl zd0
  clear hA0 hval0
  refine (walk a0 len0 cap0 z0 W zl0 (by omega) zb0 zs0).mono fun e W' ⟨he, bel⟩ => ?_
  subst he
  exact ⟨_, rfl, _, _, _, [], _, [], hW', trodAll_mk1 (shut_bool Try.underlying4 _), (trodAll_cons_mk (Below.trod laid_out (by kernel_rfl) (of_decide_eq_true (by kernel_rfl)) k0 bel lt0) trodAll_mk0), rfl, bel.frame _, fun h => by cases h⟩

theorem over : Rows.huffBackRow.holds Try.pinned (OpenSpec.ofChange Rows.huffBackSpec) :=
  OpenClaim.holds_of_wide 5 Try.f5 rfl rfl rfl rfl rfl rfl rfl ⟨rfl, rfl, rfl, rfl, rfl⟩ rfl rfl rfl rfl rfl (by kernel_rfl) Try.func5 (by kernel_rfl)
    (of_decide_eq_true (by kernel_rfl)) (by unfold Func.isWrapper; first | (rw [if_pos (by decide +kernel)]; kernel_rfl) | (rw [if_neg (by decide +kernel)]; exact ⟨rfl, rfl⟩))
    (fun os started H enc _ => lifted os started H enc)

end Go.Proofs.Ytbbpcaeacfhilaa.huffBack
namespace Go.Proofs.Ytbbpcaeacfhilaa

/-- The statement. -/
theorem huffBack_holds : Rows.HuffBackSaid := huffBack.over
#print axioms huffBack_holds
end Go.Proofs.Ytbbpcaeacfhilaa
