/-
  Encode is the coded text of any bytes, of at most about a million, as the document says, and Size its length; the bytes stay as they were.
-/
import Derived.Test.YtbbpcaeacfhilaaRows
import Derived.Test.YtbbpcaeacfhilaaREn
import Derived.Test.YtbbpcaeacfhilaaAwk
import Derived.Test.YtbbpcaeacfhilaaOpen
import Derived.WalkKit
import Derived.ProofKit
import Derived.OpenShut
import Derived.ShutString
import Derived.ChangeOld
import Derived.Below
import Derived.SizedLaws
namespace Go.Proofs.Ytbbpcaeacfhilaa.huffEncodes
open Go.ChangeShapes Go.WideShapes Go.ChangeAt Go.RowKit
open Go.ChangeMaps (open_string shut_string)
set_option linter.unusedVariables false

set_option maxRecDepth 20000
theorem row_small {w : World} {d : Sv} {zs : List Int} (h : Row w d zs) : d.n ≤ 9223372036854775807 := by
  rcases h.2 with ⟨_, h1, _⟩ | ⟨_, _, _, _, _, h1, h2, _⟩
  · omega
  · unfold maxLen at h2; omega
set_option maxRecDepth 20000 in
set_option maxHeartbeats 4000000 in
theorem walk (a : Option Addr) (n c : Nat) (zs : List Int) (w : World) (hl : zs.length = n) (hn : n ≤ 1048576) (hz : ∀ y ∈ zs, 0 ≤ y ∧ y < 256) (hseg : Seg w a zs) :
    Calls Try.prog 3 #[.slice a n c] w fun r w' => r = .returned (.bool true) ∧ Below w.heap.size w w' := by
  have HL := hid hl
  have HS := hid hseg
  have HZ := hid hz
  have HAW := hid awake_any
  clear hl hseg hz
  go_enter Try.func3, Try.ntmps3
  go_wp2_with fail
  refine (rcopy_any a n c zs w HL.out (by omega) HS.out).mono ?_
  rintro e w1 ⟨g, rfl, q1, o1, g1⟩
  have Q1 := hid q1
  have O1 := hid o1.seg
  clear q1 o1 g1
  go_wp2_with fail
  refine (encode_any (some ⟨g, 0, none⟩) n n zs w1 HL.out (by omega) HZ.out O1.out).mono ?_
  rintro e w2 ⟨g2, m2, c2, rfl, q2, r2, _⟩
  have Q2 := hid (Q1.out.trans q2)
  have O2 := hid (O1.out.q q2)
  have R2 := hid r2
  have LX := hid (show (hE zs).length = m2 from Row.len r2)
  have BX := hid (show m2 ≤ 9223372036854775807 from row_small r2)
  clear q2 r2 O1 Q1
  go_wp2_with fail
  refine (HAW.out _).mono ?_
  rintro e w3 ⟨rfl, q3⟩
  have Q3 := hid (Q2.out.trans q3)
  have O3 := hid (O2.out.q q3)
  have S3 := hid (Row.seg (Sub.q R2.out q3))
  clear q3 Q2 O2 R2
  go_wp2_with fail
  refine (rencode_any a n c zs w3 HL.out hn HZ.out (HS.out.q Q3.out)).mono ?_
  rintro e w4 ⟨⟨ya, yn, yc⟩, rfl, q4, r4, _⟩
  have Q4 := hid (Q3.out.trans q4)
  have O4 := hid (O3.out.q q4)
  have S4 := hid (S3.out.q q4)
  have R4 := hid (Row.seg r4)
  have LY := hid (show (hE zs).length = yn from Row.len r4)
  have SM := hid (same_any (some ⟨g2, 0, none⟩) ya m2 yn c2 yc (hE zs) (hE zs) w4 LX.out LY.out BX.out (by have h1 := LX.out; have h2 := LY.out; have h3 := BX.out; omega) S4.out R4.out)
  rw [decide_eq_true rfl] at SM
  clear q4 r4 Q3 O3 S3
  go_wp2_with fail
  refine SM.out.mono ?_
  rintro e w5 ⟨rfl, q5⟩
  have Q5 := hid (Q4.out.trans q5)
  have O5 := hid (O4.out.q q5)
  clear q5 SM Q4 O4
  go_wp2_with fail
  refine (size_any (some ⟨g, 0, none⟩) n n zs w5 HL.out (by omega) HZ.out O5.out).mono ?_
  rintro e w6 ⟨rfl, q6⟩
  have Q6 := hid (Q5.out.trans q6)
  have O6 := hid (O5.out.q q6)
  clear q6 Q5 O5
  have RS := hid (rsize_any a n c zs w6 HL.out (by omega) HZ.out (HS.out.q Q6.out))
  generalize hM (hN zs) = mz at *
  have hmm : ((mz : Int) == (mz : Int)) = true := by simp
  go_wp2_with fail
  refine RS.out.mono ?_
  rintro e w7 ⟨rfl, rfl⟩
  have SN := hid (same_any (some ⟨g, 0, none⟩) a n n n c zs zs w6 HL.out HL.out (by omega) (by omega) O6.out (HS.out.q Q6.out))
  rw [decide_eq_true rfl] at SN
  go_wp2_with fail
  refine SN.out.mono ?_
  rintro e w8 ⟨rfl, q8⟩
  have Q8 := hid (Q6.out.trans q8)
  clear q8
  go_wp2
  go_ret
  exact ⟨rfl, Q8.out⟩

theorem contract (H : Type) (enc : TypeId × Value → H) (W : World) (base : Nat) (args : Array Value) (ds gs : List (DataW H)) (before : List MemPlace)
    (hval : ∀ (j : Nat) t v, Try.f3.params[j]? = some t → args[j]? = some v → Value.okWide Try.prog W .any base t v)
    (hW : DataW.Whole enc Try.prog Try.f3.params.toList Rows.huffEncodesSpec.vars false W args.toList ds gs before) (hk : Rows.uptoSmall H (ds ++ gs) = true) :
    Calls Try.prog 3 args W fun e W' => ∃ v, e = .returned v ∧ Rows.huffEncodesSpec.post enc Try.prog Try.f3 false true false false W args v W' := by
  have hW' := hW
  obtain ⟨p, q, hA0, hV, rfl, hfz, hnd⟩ := hW
  have hA : DataW.TrodAll enc Try.prog W 0 (fun _ => true) true Try.f3.params.toList args.toList ds p := hA0
  rw [Try.params3] at hA hval
  obtain ⟨v0, vs0, d0, ds0, p0, q0, hargs, rfl, rfl, h0, r0⟩ := trodAll_cons hA
  obtain ⟨rfl, rfl, rfl⟩ := trodAll_nil r0
  obtain rfl : args = #[v0] := by cases args; simp_all
  obtain ⟨rfl, rfl⟩ := trodVars_none hV
  obtain ⟨a0, len0, cap0, rfl⟩ := okWide_slice Try.underlying22 (hval 0 22 v0 rfl rfl)
  have k0 := h0
  have lt0 : ∀ x ∈ p0, x.block < W.heap.size := by obtain ⟨m, hm⟩ := k0; exact DataW.trod_lt m _ _ _ hm
  obtain ⟨z0, zl0, zs0, zb0, zc0, ze0, zd0⟩ := open_bytes h0
  have zn0 := bulk_len hk (d := d0) (by simp) zd0
  clear hA0
  refine (walk a0 len0 cap0 z0 W zl0 zn0 zb0 zs0).mono fun e W' ⟨he, bel⟩ => ?_
  subst he
  exact ⟨_, rfl, _, _, _, [], _, [], hW', trodAll_mk1 (shut_bool Try.underlying4 _), (trodAll_cons_mk (Below.trod laid_out (by kernel_rfl) (of_decide_eq_true (by kernel_rfl)) k0 bel lt0) trodAll_mk0), rfl, bel.frame _, fun h => by cases h⟩

set_option maxRecDepth 100000 in
theorem lifted (os : Os) (started : os.Started) (H : Type) (enc : TypeId × Value → H) (F : Stop.Interp) :
    ReturnsInHanded {} Try.checked os 3 .any ((Rows.OpenSpec.upto Rows.huffEncodesSpec).pre6 enc Try.prog Try.f3 Rows.huffEncodesUptoRow.domain false) (((Rows.OpenSpec.upto Rows.huffEncodesSpec).at F).post enc Try.prog Try.f3 false true false false) := by
  refine returnsInHanded_of_cond (C := Try.checked) (s := Rows.OpenSpec.upto Rows.huffEncodesSpec) (k := Rows.uptoSmall) rfl own_knob started (by kernel_rfl) Try.func3
    (OpenSpec.witness (enc := enc) (C := Try.checked) (s := Rows.OpenSpec.upto Rows.huffEncodesSpec) (k := Rows.uptoSmall) rfl false ⟨#[], #[.slice none 0 0], []⟩ 8 (by kernel_rfl) (by kernel_rfl) (by kernel_rfl)
      (x := ([.nil], [], [])) (by kernel_rfl) rfl (by kernel_rfl)) ?_
  intro W base args ds gs before hval hW _ hk _
  exact contract H enc W base args ds gs before hval hW hk

theorem over : Rows.huffEncodesUptoRow.holds Try.pinned (Rows.OpenSpec.upto Rows.huffEncodesSpec) :=
  OpenClaim.holds_of_cond 3 Try.f3 rfl rfl rfl rfl rfl rfl rfl ⟨rfl, rfl, rfl, rfl, rfl⟩ rfl rfl rfl rfl rfl (by kernel_rfl) Try.func3 (by kernel_rfl)
    (of_decide_eq_true (by kernel_rfl)) (by unfold Func.isWrapper; first | (rw [if_pos (by decide +kernel)]; kernel_rfl) | (rw [if_neg (by decide +kernel)]; exact ⟨rfl, rfl⟩))
    (fun os started H enc _ F => lifted os started H enc F)

end Go.Proofs.Ytbbpcaeacfhilaa.huffEncodes
namespace Go.Proofs.Ytbbpcaeacfhilaa

/-- The statement. -/
theorem huffEncodesUpto_holds : Rows.HuffEncodesUptoSaid := huffEncodes.over
#print axioms huffEncodesUpto_holds
end Go.Proofs.Ytbbpcaeacfhilaa
