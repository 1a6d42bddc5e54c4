/-
  Two texts together, of at most about a million bytes, are coded in no more bytes than each of them, and in at most one less; and a coded text has five to fifteen bits a byte.
-/
import Derived.Test.YtbbpcaeacfhilaaRows
import Derived.Test.YtbbpcaeacfhilaaAwk
import Derived.Test.YtbbpcaeacfhilaaOpen
import Derived.Test.YtbbpcaeacfhilaaJnT
import Derived.WalkKit
import Derived.ProofKit
import Derived.OpenShut
import Derived.ShutString
import Derived.ChangeOld
import Derived.Below
import Derived.SizedLaws
namespace Go.Proofs.Ytbbpcaeacfhilaa.huffSizes
open Go.ChangeShapes Go.WideShapes Go.ChangeAt Go.RowKit
open Go.ChangeMaps (open_string shut_string)
set_option linter.unusedVariables false

set_option maxRecDepth 20000
set_option maxRecDepth 20000 in
set_option maxHeartbeats 4000000 in
theorem walk (a b : Option Addr) (n c m d : Nat) (zs ys : List Int) (w : World) (hl : zs.length = n) (hn : n ≤ 1048576) (hz : ∀ y ∈ zs, 0 ≤ y ∧ y < 256) (hseg : Seg w a zs) (hl2 : ys.length = m) (hm : m ≤ 1048576) (hy : ∀ y ∈ ys, 0 ≤ y ∧ y < 256) (hseg2 : Seg w b ys) :
    Calls Try.prog 7 #[.slice a n c, .slice b m d] w fun r w' => r = .returned (.bool true) ∧ Below w.heap.size w w' := by
  have HAW := hid awake_any
  have HC1 := hid (fun (W : World) (h : Q w W) => rcopy_any a n c zs W hl (by omega) (hseg.q h))
  have HC2 := hid (fun (W : World) (h : Q w W) => rcopy_any b m d ys W hl2 (by omega) (hseg2.q h))
  have HS1 := hid (fun (W : World) (g : Nat) (s : Seg W (some ⟨g, 0, none⟩) zs) => size_any (some ⟨g, 0, none⟩) n n zs W hl (by omega) hz s)
  have HS2 := hid (fun (W : World) (g : Nat) (s : Seg W (some ⟨g, 0, none⟩) ys) => size_any (some ⟨g, 0, none⟩) m m ys W hl2 (by omega) hy s)
  have HJ := hid (fun (W : World) (h : Q w W) => join_two w W ⟨a, n, c⟩ ⟨b, m, d⟩ zs ys h hseg hl hseg2 hl2 (by show n + m ≤ _; omega))
  have hzy : ∀ y ∈ zs ++ ys, 0 ≤ y ∧ y < 256 := fun y h => (List.mem_append.1 h).elim (hz y) (hy y)
  have hlzy : (zs ++ ys).length = n + m := by rw [List.length_append, hl, hl2]
  have HS3 := hid (fun (W : World) (z : Sv) (r : Row W z (zs ++ ys)) => size_any z.a z.n z.c (zs ++ ys) W (Row.len r) (by rw [← Row.len r, hlzy]; omega) hzy (Row.seg r))
  have hsz := sizes zs ys
  have hsy := (sizes ys ys).2.2.2
  rw [hl2] at hsy
  rw [hl] at hsz
  clear hl hz hseg hl2 hy hseg2 hzy hlzy
  generalize hM (hN zs) = x at *
  generalize hM (hN ys) = y at *
  generalize hM (hN (zs ++ ys)) = z at *
  have t1 : (z : Int) ≤ (x : Int) + (y : Int) := by omega
  have t2 : (x : Int) + (y : Int) - 1 ≤ (z : Int) := by omega
  have t3 : (5 : Int) * (n : Int) ≤ 8 * (x : Int) := by omega
  have t4 : (8 : Int) * (x : Int) ≤ 15 * (n : Int) + 7 := by omega
  have b1 : x ≤ 4000000 := by omega
  have b2 : y ≤ 4000000 := by omega
  clear hsz hsy
  go_enter Try.func7, Try.ntmps7
  go_wp2_with fail
  refine (HC1.out _ (Q.refl _)).mono ?_
  rintro e w1 ⟨g1, rfl, q1, o1, _⟩
  have Q1 := hid q1
  have O1 := hid o1.seg
  clear q1 o1
  go_wp2_with fail
  refine (HS1.out _ g1 O1.out).mono ?_
  rintro e w2 ⟨rfl, q2⟩
  have Q2 := hid (Q1.out.trans q2)
  clear q2
  go_wp2_with fail
  refine (HC2.out _ Q2.out).mono ?_
  rintro e w3 ⟨g3, rfl, q3, o3, _⟩
  have Q3 := hid (Q2.out.trans q3)
  have O3 := hid o3.seg
  clear q3 o3
  go_wp2_with fail
  refine (HS2.out _ g3 O3.out).mono ?_
  rintro e w4 ⟨rfl, q4⟩
  have Q4 := hid (Q3.out.trans q4)
  clear q4
  go_wp2_with fail
  refine (HJ.out _ Q4.out).mono ?_
  rintro e w5 ⟨⟨ja, jn, jc⟩, rfl, q5, r5, _⟩
  have Q5 := hid q5
  have R5 := hid r5
  clear q5 r5
  go_wp2_with fail
  refine (HS3.out _ ⟨ja, jn, jc⟩ R5.out).mono ?_
  rintro e w6 ⟨rfl, q6⟩
  have Q6 := hid (Q5.out.trans q6)
  clear q6
  go_wp2_with fail
  refine (HAW.out _).mono ?_
  rintro e w7 ⟨rfl, q7⟩
  have Q7 := hid (Q6.out.trans q7)
  clear q7
  go_wp2
  go_ret
  exact ⟨rfl, Q7.out⟩

theorem contract (H : Type) (enc : TypeId × Value → H) (W : World) (base : Nat) (args : Array Value) (ds gs : List (DataW H)) (before : List MemPlace)
    (hval : ∀ (j : Nat) t v, Try.f7.params[j]? = some t → args[j]? = some v → Value.okWide Try.prog W .any base t v)
    (hW : DataW.Whole enc Try.prog Try.f7.params.toList Rows.huffSizesSpec.vars false W args.toList ds gs before) (hk : Rows.uptoSmall H (ds ++ gs) = true) :
    Calls Try.prog 7 args W fun e W' => ∃ v, e = .returned v ∧ Rows.huffSizesSpec.post enc Try.prog Try.f7 false true false false W args v W' := by
  have hW' := hW
  obtain ⟨p, q, hA0, hV, rfl, hfz, hnd⟩ := hW
  have hA : DataW.TrodAll enc Try.prog W 0 (fun _ => true) true Try.f7.params.toList args.toList ds p := hA0
  rw [Try.params7] at hA hval
  obtain ⟨v0, vs0, d0, ds0, p0, q0, hargs, rfl, rfl, h0, r0⟩ := trodAll_cons hA
  obtain ⟨v1, vs1, d1, ds1, p1, q1, rfl, rfl, rfl, h1, r1⟩ := trodAll_cons r0
  obtain ⟨rfl, rfl, rfl⟩ := trodAll_nil r1
  obtain rfl : args = #[v0, v1] := by cases args; simp_all
  obtain ⟨rfl, rfl⟩ := trodVars_none hV
  obtain ⟨a0, len0, cap0, rfl⟩ := okWide_slice Try.underlying22 (hval 0 22 v0 rfl rfl)
  have k0 := h0
  have lt0 : ∀ x ∈ p0, x.block < W.heap.size := by obtain ⟨m, hm⟩ := k0; exact DataW.trod_lt m _ _ _ hm
  obtain ⟨z0, zl0, zs0, zb0, zc0, ze0, zd0⟩ := open_bytes h0
  have zn0 := bulk_len hk (d := d0) (by simp) zd0
  obtain ⟨a1, len1, cap1, rfl⟩ := okWide_slice Try.underlying22 (hval 1 22 v1 rfl rfl)
  have k1 := h1
  have lt1 : ∀ x ∈ p1, x.block < W.heap.size := by obtain ⟨m, hm⟩ := k1; exact DataW.trod_lt m _ _ _ hm
  obtain ⟨z1, zl1, zs1, zb1, zc1, ze1, zd1⟩ := open_bytes h1
  have zn1 := bulk_len hk (d := d1) (by simp) zd1
  clear hA0
  refine (walk a0 a1 len0 cap0 len1 cap1 z0 z1 W zl0 zn0 zb0 zs0 zl1 zn1 zb1 zs1).mono fun e W' ⟨he, bel⟩ => ?_
  subst he
  exact ⟨_, rfl, _, _, _, [], _, [], hW', trodAll_mk1 (shut_bool Try.underlying4 _), (trodAll_cons_mk (Below.trod laid_out (by kernel_rfl) (of_decide_eq_true (by kernel_rfl)) k0 bel lt0) (trodAll_cons_mk (Below.trod laid_out (by kernel_rfl) (of_decide_eq_true (by kernel_rfl)) k1 bel lt1) trodAll_mk0)), rfl, bel.frame _, fun h => by cases h⟩

set_option maxRecDepth 100000 in
theorem lifted (os : Os) (started : os.Started) (H : Type) (enc : TypeId × Value → H) (F : Stop.Interp) :
    ReturnsInHanded {} Try.checked os 7 .any ((Rows.OpenSpec.upto Rows.huffSizesSpec).pre6 enc Try.prog Try.f7 Rows.huffSizesUptoRow.domain false) (((Rows.OpenSpec.upto Rows.huffSizesSpec).at F).post enc Try.prog Try.f7 false true false false) := by
  refine returnsInHanded_of_cond (C := Try.checked) (s := Rows.OpenSpec.upto Rows.huffSizesSpec) (k := Rows.uptoSmall) rfl own_knob started (by kernel_rfl) Try.func7
    (OpenSpec.witness (enc := enc) (C := Try.checked) (s := Rows.OpenSpec.upto Rows.huffSizesSpec) (k := Rows.uptoSmall) rfl false ⟨#[], #[.slice none 0 0, .slice none 0 0], []⟩ 8 (by kernel_rfl) (by kernel_rfl) (by kernel_rfl)
      (x := ([.nil, .nil], [], [])) (by kernel_rfl) rfl (by kernel_rfl)) ?_
  intro W base args ds gs before hval hW _ hk _
  exact contract H enc W base args ds gs before hval hW hk

theorem over : Rows.huffSizesUptoRow.holds Try.pinned (Rows.OpenSpec.upto Rows.huffSizesSpec) :=
  OpenClaim.holds_of_cond 7 Try.f7 rfl rfl rfl rfl rfl rfl rfl ⟨rfl, rfl, rfl, rfl, rfl⟩ rfl rfl rfl rfl rfl (by kernel_rfl) Try.func7 (by kernel_rfl)
    (of_decide_eq_true (by kernel_rfl)) (by unfold Func.isWrapper; first | (rw [if_pos (by decide +kernel)]; kernel_rfl) | (rw [if_neg (by decide +kernel)]; exact ⟨rfl, rfl⟩))
    (fun os started H enc _ F => lifted os started H enc F)

end Go.Proofs.Ytbbpcaeacfhilaa.huffSizes
namespace Go.Proofs.Ytbbpcaeacfhilaa

/-- The statement. -/
theorem huffSizesUpto_holds : Rows.HuffSizesUptoSaid := huffSizes.over
#print axioms huffSizesUpto_holds
end Go.Proofs.Ytbbpcaeacfhilaa
