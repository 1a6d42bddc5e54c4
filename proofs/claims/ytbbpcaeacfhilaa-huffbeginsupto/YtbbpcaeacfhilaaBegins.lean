/-
  The coded form of a text is, but for its last byte, the beginning of that of any longer text; both texts of at most about a million bytes.
-/
import Derived.Test.YtbbpcaeacfhilaaRows
import Derived.Test.YtbbpcaeacfhilaaAwk
import Derived.Test.YtbbpcaeacfhilaaOpen
import Derived.Test.YtbbpcaeacfhilaaJnT
import Derived.WalkKit
import Derived.ProofKit
import Derived.OpenShut
import Derived.ShutString
import Derived.ChangeOld
import Derived.Below
import Derived.SizedLaws
namespace Go.Proofs.Ytbbpcaeacfhilaa.huffBegins
open Go.ChangeShapes Go.WideShapes Go.ChangeAt Go.RowKit
open Go.ChangeMaps (open_string shut_string)
set_option linter.unusedVariables false

set_option maxRecDepth 20000
theorem sub_le {w : World} {e size n cap : Nat} {a : Option Addr} {vs : List Value} (h : Sub w e size a n cap vs) : n ≤ cap := by
  rcases h.2 with ⟨_, h1, h2⟩ | ⟨_, _, _, _, _, h3, _⟩ <;> omega
set_option maxRecDepth 100000 in
set_option maxHeartbeats 8000000 in
theorem walk (a b : Option Addr) (n c m d : Nat) (zs ys : List Int) (w : World) (hl : zs.length = n) (hn : n ≤ 1048576) (hz : ∀ y ∈ zs, 0 ≤ y ∧ y < 256) (hseg : Seg w a zs) (hl2 : ys.length = m) (hm : m ≤ 1048576) (hy : ∀ y ∈ ys, 0 ≤ y ∧ y < 256) (hseg2 : Seg w b ys) :
    Calls Try.prog 8 #[.slice a n c, .slice b m d] w fun r w' => r = .returned (.bool true) ∧ Below w.heap.size w w' := by
  have HAW := hid awake_any
  have HC1 := hid (fun (W : World) (h : Q w W) => rcopy_any a n c zs W hl (by omega) (hseg.q h))
  have HS1 := hid (fun (W : World) (g : Nat) (s : Seg W (some ⟨g, 0, none⟩) zs) => encode_any (some ⟨g, 0, none⟩) n n zs W hl (by omega) hz s)
  have HJ := hid (fun (W0 W : World) (h : Q w W0) (k : Q W0 W) => join_two W0 W ⟨a, n, c⟩ ⟨b, m, d⟩ zs ys k (hseg.q h) hl (hseg2.q h) hl2 (by show n + m ≤ _; omega))
  have hzy : ∀ y ∈ zs ++ ys, 0 ≤ y ∧ y < 256 := fun y h => (List.mem_append.1 h).elim (hz y) (hy y)
  have hlzy : (zs ++ ys).length = n + m := by rw [List.length_append, hl, hl2]
  have HS3 := hid (fun (W : World) (z : Sv) (r : Row W z (zs ++ ys)) => encode_any z.a z.n z.c (zs ++ ys) W (Row.len r) (by rw [← Row.len r, hlzy]; omega) hzy (Row.seg r))
  have HBT := hid (begins_take zs ys)
  have HLE := hid (show (hE zs).length ≤ (hE (zs ++ ys)).length from by rw [hE_len, hE_len, hN_app]; unfold hM; omega)
  have HUB := hid (show (hE (zs ++ ys)).length ≤ 100000000 from by rw [hE_len]; have := (hN_bd (zs ++ ys)).2; unfold hM; omega)
  clear hl hz hseg hl2 hy hseg2 hzy hlzy
  generalize hE zs = xs at *
  generalize hE (zs ++ ys) = vs at *
  go_enter Try.func8, Try.ntmps8
  go_wp2_with fail
  refine (HC1.out _ (Q.refl _)).mono ?_
  rintro e w1 ⟨g1, rfl, q1, o1, _⟩
  have Q1 := hid q1
  have O1 := hid o1.seg
  clear q1 o1
  go_wp2_with fail
  refine (HS1.out _ g1 O1.out).mono ?_
  rintro e w2 ⟨gx, mx, cx, rfl, q2, r2, _⟩
  have Q2 := hid (Q1.out.trans q2)
  have R2 := hid r2
  have LX := hid (show xs.length = mx from Row.len r2)
  clear q2 r2
  go_wp2_with fail
  refine (HJ.out w2 _ Q2.out (Q.refl _)).mono ?_
  rintro e w5 ⟨⟨ja, jn, jc⟩, rfl, q5, r5, _⟩
  have Q5 := hid (Q2.out.trans q5)
  have RX5 := hid (Sub.q R2.out q5)
  have R5 := hid r5
  clear q5 r5
  go_wp2_with fail
  refine (HS3.out _ ⟨ja, jn, jc⟩ R5.out).mono ?_
  rintro e w6 ⟨gy, my, cy, rfl, q6, r6, _⟩
  have Q6 := hid (Q5.out.trans q6)
  have RX := hid (show Row w6 ⟨some ⟨gx, 0, none⟩, mx, cx⟩ xs from Sub.q RX5.out q6)
  have RY := hid r6
  have LY := hid (show vs.length = my from Row.len r6)
  clear q6 r6
  have hmn : mx ≤ my := by have h1 := LX.out; have h2 := LY.out; have h3 := HLE.out; omega
  have hmy : my ≤ 100000000 := by have h2 := LY.out; have h3 := HUB.out; omega
  have hcx : mx ≤ cx := sub_le RX.out
  have hcy : my ≤ cy := sub_le RY.out
  have SX := hid (Row.seg RX.out)
  have SY := hid (Row.seg RY.out)
  clear RX RY HC1 HS1 HJ HS3
  by_cases h0 : mx = 0
  · subst h0
    go_wp2_with fail
    refine (HAW.out _).mono ?_
    rintro e w7 ⟨rfl, q7⟩
    have Q7 := hid (Q6.out.trans q7)
    go_wp2
    go_ret
    exact ⟨rfl, Q7.out⟩
  · obtain ⟨k, rfl⟩ : ∃ k, mx = k + 1 := ⟨mx - 1, by omega⟩
    have HBK := hid (show xs.take k = vs.take k from by have h := HBT.out; rw [LX.out] at h; exact h)
    have HLX := hid (show (xs.take k).length = k from by rw [List.length_take, LX.out]; omega)
    have hge : (k : Int) + 1 ≤ (my : Int) := by omega
    have hge2 : decide ((k : Int) + 1 ≤ (my : Int)) = true := decide_eq_true hge
    have hk1 : IntKind.i64.wrap (((k + 1 : Nat) : Int) - 1) = (k : Int) := by rw [wrap_i64]; omega
    have hk2 : IntKind.i64.wrap (k : Int) = (k : Int) := by rw [wrap_i64]; omega
    have hkx : (k : Int) ≤ (cx : Int) := by omega
    have hky : (k : Int) ≤ (cy : Int) := by omega
    have hk0 : (0 : Int) ≤ (k : Int) := by omega
    have HKB := hid (show k ≤ 9223372036854775807 by omega)
    have HSM := hid (fun (W : World) (h : Q w6 W) => same_any (some ⟨gx, 0, none⟩) (some ⟨gy, 0, none⟩) k k cx cy (xs.take k) (xs.take k) W HLX.out HLX.out HKB.out HKB.out (seg_take (SX.out.q h) k) (by rw [HBK.out]; exact seg_take (SY.out.q h) k))
    simp only [decide_true] at HSM
    clear hmn hcx hcy h0
    go_wp2_with fail
    have s0 : Q w6 w6 := Q.refl _
    go_region_held3 (fun w' => Q w6 w') (first | assumption | (apply Q.drew; assumption) | (apply Q.drewN; assumption))
      (first
        | (go_at_call 12; refine (HSM.out _ (by assumption)).mono ?_; rintro e w8 ⟨rfl, q8⟩; have k8 : Q w6 w8 := Q.trans (by assumption) q8; clear q8)
        | (go_at_call 11; refine (HAW.out _).mono ?_; rintro e w9 ⟨rfl, q9⟩; have k9 : Q w6 w9 := Q.trans (by assumption) q9; clear q9))
    have K9 := hid (Q6.out.trans k9)
    go_wp2
    go_ret
    exact ⟨by first | rfl | simp, K9.out⟩

theorem contract (H : Type) (enc : TypeId × Value → H) (W : World) (base : Nat) (args : Array Value) (ds gs : List (DataW H)) (before : List MemPlace)
    (hval : ∀ (j : Nat) t v, Try.f8.params[j]? = some t → args[j]? = some v → Value.okWide Try.prog W .any base t v)
    (hW : DataW.Whole enc Try.prog Try.f8.params.toList Rows.huffBeginsSpec.vars false W args.toList ds gs before) (hk : Rows.uptoSmall H (ds ++ gs) = true) :
    Calls Try.prog 8 args W fun e W' => ∃ v, e = .returned v ∧ Rows.huffBeginsSpec.post enc Try.prog Try.f8 false true false false W args v W' := by
  have hW' := hW
  obtain ⟨p, q, hA0, hV, rfl, hfz, hnd⟩ := hW
  have hA : DataW.TrodAll enc Try.prog W 0 (fun _ => true) true Try.f8.params.toList args.toList ds p := hA0
  rw [Try.params8] at hA hval
  obtain ⟨v0, vs0, d0, ds0, p0, q0, hargs, rfl, rfl, h0, r0⟩ := trodAll_cons hA
  obtain ⟨v1, vs1, d1, ds1, p1, q1, rfl, rfl, rfl, h1, r1⟩ := trodAll_cons r0
  obtain ⟨rfl, rfl, rfl⟩ := trodAll_nil r1
  obtain rfl : args = #[v0, v1] := by cases args; simp_all
  obtain ⟨rfl, rfl⟩ := trodVars_none hV
  obtain ⟨a0, len0, cap0, rfl⟩ := okWide_slice Try.underlying22 (hval 0 22 v0 rfl rfl)
  have k0 := h0
  have lt0 : ∀ x ∈ p0, x.block < W.heap.size := by obtain ⟨m, hm⟩ := k0; exact DataW.trod_lt m _ _ _ hm
  obtain ⟨z0, zl0, zs0, zb0, zc0, ze0, zd0⟩ := open_bytes h0
  have zn0 := bulk_len hk (d := d0) (by simp) zd0
  obtain ⟨a1, len1, cap1, rfl⟩ := okWide_slice Try.underlying22 (hval 1 22 v1 rfl rfl)
  have k1 := h1
  have lt1 : ∀ x ∈ p1, x.block < W.heap.size := by obtain ⟨m, hm⟩ := k1; exact DataW.trod_lt m _ _ _ hm
  obtain ⟨z1, zl1, zs1, zb1, zc1, ze1, zd1⟩ := open_bytes h1
  have zn1 := bulk_len hk (d := d1) (by simp) zd1
  clear hA0
  refine (walk a0 a1 len0 cap0 len1 cap1 z0 z1 W zl0 zn0 zb0 zs0 zl1 zn1 zb1 zs1).mono fun e W' ⟨he, bel⟩ => ?_
  subst he
  exact ⟨_, rfl, _, _, _, [], _, [], hW', trodAll_mk1 (shut_bool Try.underlying4 _), (trodAll_cons_mk (Below.trod laid_out (by kernel_rfl) (of_decide_eq_true (by kernel_rfl)) k0 bel lt0) (trodAll_cons_mk (Below.trod laid_out (by kernel_rfl) (of_decide_eq_true (by kernel_rfl)) k1 bel lt1) trodAll_mk0)), rfl, bel.frame _, fun h => by cases h⟩

set_option maxRecDepth 100000 in
theorem lifted (os : Os) (started : os.Started) (H : Type) (enc : TypeId × Value → H) (F : Stop.Interp) :
    ReturnsInHanded {} Try.checked os 8 .any ((Rows.OpenSpec.upto Rows.huffBeginsSpec).pre6 enc Try.prog Try.f8 Rows.huffBeginsUptoRow.domain false) (((Rows.OpenSpec.upto Rows.huffBeginsSpec).at F).post enc Try.prog Try.f8 false true false false) := by
  refine returnsInHanded_of_cond (C := Try.checked) (s := Rows.OpenSpec.upto Rows.huffBeginsSpec) (k := Rows.uptoSmall) rfl own_knob started (by kernel_rfl) Try.func8
    (OpenSpec.witness (enc := enc) (C := Try.checked) (s := Rows.OpenSpec.upto Rows.huffBeginsSpec) (k := Rows.uptoSmall) rfl false ⟨#[], #[.slice none 0 0, .slice none 0 0], []⟩ 8 (by kernel_rfl) (by kernel_rfl) (by kernel_rfl)
      (x := ([.nil, .nil], [], [])) (by kernel_rfl) rfl (by kernel_rfl)) ?_
  intro W base args ds gs before hval hW _ hk _
  exact contract H enc W base args ds gs before hval hW hk

theorem over : Rows.huffBeginsUptoRow.holds Try.pinned (Rows.OpenSpec.upto Rows.huffBeginsSpec) :=
  OpenClaim.holds_of_cond 8 Try.f8 rfl rfl rfl rfl rfl rfl rfl ⟨rfl, rfl, rfl, rfl, rfl⟩ rfl rfl rfl rfl rfl (by kernel_rfl) Try.func8 (by kernel_rfl)
    (of_decide_eq_true (by kernel_rfl)) (by unfold Func.isWrapper; first | (rw [if_pos (by decide +kernel)]; kernel_rfl) | (rw [if_neg (by decide +kernel)]; exact ⟨rfl, rfl⟩))
    (fun os started H enc _ F => lifted os started H enc F)

end Go.Proofs.Ytbbpcaeacfhilaa.huffBegins
namespace Go.Proofs.Ytbbpcaeacfhilaa

/-- The statement. -/
theorem huffBeginsUpto_holds : Rows.HuffBeginsUptoSaid := huffBegins.over
#print axioms huffBeginsUpto_holds
end Go.Proofs.Ytbbpcaeacfhilaa
