/-
  Whatever bytes there are: if they are read as a coded text, they are the coded form of the text that they tell; if not, no text is told.
-/
import Derived.Test.YtbbpcaeacfhilaaRows
import Derived.Test.YtbbpcaeacfhilaaDec
import Derived.Test.YtbbpcaeacfhilaaAwk
import Derived.Test.YtbbpcaeacfhilaaOpen
import Derived.WalkKit
import Derived.ProofKit
import Derived.OpenShut
import Derived.ShutString
import Derived.ChangeOld
import Derived.Below
import Derived.SizedLaws
namespace Go.Proofs.Ytbbpcaeacfhilaa.huffOnce
open Go.ChangeShapes Go.WideShapes Go.ChangeAt Go.RowKit
open Go.ChangeMaps (open_string shut_string)
set_option linter.unusedVariables false

set_option maxRecDepth 20000
theorem ok_len {zs : List Int} (h : (hD zs).2 = 0) : zs.length ≤ 16384 := by
  by_cases hh : 16384 < zs.length
  · unfold hD at h; rw [if_pos hh] at h; cases h
  · omega
set_option maxRecDepth 20000 in
set_option maxHeartbeats 4000000 in
theorem walk (a : Option Addr) (n c : Nat) (zs : List Int) (w : World) (hl : zs.length = n) (hn : n ≤ 140737488355328) (hz : ∀ y ∈ zs, 0 ≤ y ∧ y < 256) (hseg : Seg w a zs) :
    Calls Try.prog 6 #[.slice a n c] w fun r w' => r = .returned (.bool true) ∧ Below w.heap.size w w' := by
  have HL := hid hl
  have HS := hid hseg
  have HZ := hid hz
  have HAW := hid awake_any
  clear hl hseg hz
  go_enter Try.func6, Try.ntmps6
  go_wp2_with fail
  refine (rcopy_any a n c zs w HL.out hn HS.out).mono ?_
  rintro e w1 ⟨g, rfl, q1, o1, g1⟩
  have Q1 := hid q1
  have O1 := hid o1
  clear q1 o1 g1
  go_wp2_with fail
  refine (decode_any (some ⟨g, 0, none⟩) n n zs w1 HL.out HZ.out (by omega) O1.out.seg).mono ?_
  rintro e w2 ⟨⟨xa, xn, xc⟩, rfl, q2, r2, _⟩
  have Q2 := hid (Q1.out.trans q2)
  have R2 := hid r2
  clear q2 r2
  by_cases hv : (hD zs).2 = 0
  · obtain ⟨d, hd⟩ : ∃ d, (hD zs).1 = d := ⟨_, rfl⟩
    have he : hD zs = (d, 0) := by rw [← hd, ← hv]
    have ho := once HZ.out he
    have hlz := ok_len hv
    have hbd := (hN_bd d).1
    have hel := hE_len d
    rw [ho.1] at hel
    rw [hd] at R2
    have hdl : d.length = xn := Row.len R2.out
    have hxn : xn ≤ 140737488355328 := by unfold hM at hel; omega
    have HE := hid (encode_any xa xn xc d w2 hdl hxn ho.2 (Row.seg R2.out))
    rw [ho.1] at HE
    rw [hv]
    clear hv hd he ho hlz hbd hel hdl R2
    go_wp2_with (first
      | (go_at_call 10; refine HE.out.mono ?_; rintro e w3 ⟨g3, m3, c3, rfl, q3, r3, _⟩; have Q3 := hid (Q2.out.trans q3); have R3 := hid r3; have L3 := hid (show zs.length = m3 from Row.len r3); clear q3 r3)
      | (go_at_call 12; refine (same_any (some ⟨g3, 0, none⟩) a m3 n c3 c zs zs _ L3.out HL.out (by have := L3.out; have := HL.out; omega) (by omega) (Row.seg R3.out) (HS.out.q Q3.out)).mono ?_; rintro e w4 ⟨rfl, q4⟩; rw [decide_eq_true rfl]; have Q4 := hid (Q3.out.trans q4); clear q4)
      | (go_at_call 11; refine (HAW.out _).mono ?_; rintro e w5 ⟨rfl, q5⟩; have Q5 := hid (Q4.out.trans q5); clear q5))
    go_ret
    exact ⟨rfl, Q5.out⟩
  · have hb := hD_bad hv
    rw [hb] at R2
    have hxn : xn = 0 := (Row.len R2.out).symm
    subst hxn
    have hne : ((hD zs).2 != 0) = true := by simpa using hv
    generalize (hD zs).2 = v at *
    clear hb hv R2
    go_wp2_with (go_at_call 11; refine (HAW.out _).mono ?_; rintro e w5 ⟨rfl, q5⟩; have Q5 := hid (Q2.out.trans q5); clear q5)
    go_ret
    exact ⟨rfl, Q5.out⟩

set_option maxRecDepth 100000 in
theorem lifted (os : Os) (started : os.Started) (H : Type) (enc : TypeId × Value → H) :
    ReturnsInHanded {} Try.checked os 6 .any (Rows.huffOnceSpec.pre6 enc Try.prog Try.f6 Rows.huffOnceRow.domain false) (Rows.huffOnceSpec.post enc Try.prog Try.f6 false true false false) := by
  refine returnsInHanded_of_change_sized (C := Try.checked) own_knob started (by kernel_rfl) Try.func6
    (ChangeSpec.witness6 (enc := enc) (C := Try.checked) false ⟨#[], #[.slice none 0 0], []⟩ 8 (by kernel_rfl) (by kernel_rfl) (by kernel_rfl) (by kernel_rfl)) ?_
  intro W base args ds gs before hval0 hW hcnd hsz0 _
  have hval : ∀ (j : Nat) t v, Try.f6.params[j]? = some t → args[j]? = some v → Value.okWide Try.prog W .any base t v := hval0
  have hsz : (DataW.weightsEach Try.prog (Try.f6.params.toList ++ Rows.huffOnceSpec.plain.varTypes Try.prog) (ds ++ gs)).all (· ≤ reachBytes) = true := hsz0
  have hW' := hW
  obtain ⟨p, q, hA0, hV, rfl, hfz, hnd⟩ := hW
  have hA : DataW.TrodAll enc Try.prog W 0 (fun _ => true) true Try.f6.params.toList args.toList ds p := hA0
  rw [Try.params6] at hA hval hsz
  obtain ⟨v0, vs0, d0, ds0, p0, q0, hargs, rfl, rfl, h0, r0⟩ := trodAll_cons hA
  obtain ⟨rfl, rfl, rfl⟩ := trodAll_nil r0
  obtain rfl : args = #[v0] := by cases args; simp_all
  obtain ⟨rfl, rfl⟩ := trodVars_none hV
  obtain ⟨a0, len0, cap0, rfl⟩ := okWide_slice Try.underlying22 (hval 0 22 v0 rfl rfl)
  have k0 := h0
  have lt0 : ∀ x ∈ p0, x.block < W.heap.size := by obtain ⟨m, hm⟩ := k0; exact DataW.trod_lt m _ _ _ hm
  obtain ⟨z0, zl0, zs0, zb0, zc0, ze0, zd0⟩ := open_bytes h0
  have zn0 := len_le_bytes hsz (j := 0) rfl rfl zd0
  clear hA0 hval0
  refine (walk a0 len0 cap0 z0 W zl0 (by omega) zb0 zs0).mono fun e W' ⟨he, bel⟩ => ?_
  subst he
  exact ⟨_, rfl, _, _, _, [], _, [], hW', trodAll_mk1 (shut_bool Try.underlying4 _), (trodAll_cons_mk (Below.trod laid_out (by kernel_rfl) (of_decide_eq_true (by kernel_rfl)) k0 bel lt0) trodAll_mk0), rfl, bel.frame _, fun h => by cases h⟩

theorem over : Rows.huffOnceRow.holds Try.pinned (OpenSpec.ofChange Rows.huffOnceSpec) :=
  OpenClaim.holds_of_wide 6 Try.f6 rfl rfl rfl rfl rfl rfl rfl ⟨rfl, rfl, rfl, rfl, rfl⟩ rfl rfl rfl rfl rfl (by kernel_rfl) Try.func6 (by kernel_rfl)
    (of_decide_eq_true (by kernel_rfl)) (by unfold Func.isWrapper; first | (rw [if_pos (by decide +kernel)]; kernel_rfl) | (rw [if_neg (by decide +kernel)]; exact ⟨rfl, rfl⟩))
    (fun os started H enc _ => lifted os started H enc)

end Go.Proofs.Ytbbpcaeacfhilaa.huffOnce
namespace Go.Proofs.Ytbbpcaeacfhilaa

/-- The statement. -/
theorem huffOnce_holds : Rows.HuffOnceSaid := huffOnce.over
#print axioms huffOnce_holds
end Go.Proofs.Ytbbpcaeacfhilaa
