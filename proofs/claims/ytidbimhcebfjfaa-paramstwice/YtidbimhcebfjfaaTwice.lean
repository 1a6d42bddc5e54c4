/-
  Parameters that were read once can't be read with any of their own behind them again: whatever the bytes and the side.
-/
import Derived.Test.YtidbimhcebfjfaaRows
import Derived.Test.YtidbimhcebfjfaaAwk
import Derived.Test.YtidbimhcebfjfaaTwiM
import Derived.Test.YtidbimhcebfjfaaJoin
import Derived.Test.YtidbimhcebfjfaaOpen
import Derived.WalkKit
import Derived.ProofKit
import Derived.OpenShut
import Derived.ShutString
import Derived.ChangeOld
import Derived.Below
import Derived.SizedLaws
namespace Go.Proofs.Ytidbimhcebfjfaa.paramsTwice
open Go.ChangeShapes Go.WideShapes Go.ChangeAt Go.RowKit
open Go.ChangeMaps (open_string shut_string)
set_option linter.unusedVariables false

set_option maxRecDepth 20000
def two (x y : Sv) (j : Nat) : Sv := if j = 0 then x else y
def twoZ (x y : List Int) (j : Nat) : List Int := if j = 0 then x else y
set_option maxHeartbeats 8000000 in
theorem walk (a : Option Addr) (n c : Nat) (zs : List Int) (srv : Bool) (w : World) (hl : zs.length = n) (hn : n ≤ 140737488355328) (hz : ∀ y ∈ zs, 0 ≤ y ∧ y < 256) (hs : Seg w a zs) :
    Calls Try.prog 7 #[.slice a n c, .bool srv] w fun r w' => r = .returned (.bool true) ∧ Below w.heap.size w w' := by
  have HL := hid hl
  have HZ := hid hz
  have HS := hid hs
  clear hl hz hs
  have HAW := hid awake_any
  have HD := hid (fun (W : World) (a' : Option Addr) (c' : Nat) (h : Seg W a' zs) => decode_any a' n c' zs srv W HL.out hn HZ.out h)
  unfold AnsD at HD
  have HTW := hid (fun (h0 : 0 < n) (h1 : n ≤ 8192) (h : (decA zs srv).2.2 = 0) => dec_twice (zs := zs) (srv := srv) HZ.out (by rw [HL.out]; exact h0) (by rw [HL.out]; exact h1) h)
  rw [HL.out] at HTW
  generalize (decA zs srv).1 = M at *
  generalize (decA zs srv).2.1 = at1 at *
  generalize (decA zs srv).2.2 = er at *
  by_cases hc : er ≠ 0 ∨ n = 0 ∨ 8192 < n
  · have hb1 : (er != 0) = true ∨ ((er != 0) = false ∧ (((n : Int) == 0) = true ∨ (((n : Int) == 0) = false ∧ decide ((8192 : Int) < (n : Int)) = true))) := by
      by_cases h1 : er = 0
      · subst h1
        refine .inr ⟨rfl, ?_⟩
        by_cases h2 : n = 0
        · exact .inl (by simp [h2])
        · exact .inr ⟨by simp; omega, by simp; omega⟩
      · exact .inl (by simp [h1])
    clear hc
    rcases hb1 with hb1 | ⟨hb1, hb2 | ⟨hb2, hb3⟩⟩
    all_goals
      go_enter Try.func7, Try.ntmps7
      go_wp2_with (first
        | (go_at_call 18; refine (rcopy_any a n c zs _ HL.out (by omega) HS.out).mono ?_; rintro e w1 ⟨g, rfl, q1, o1, -⟩; have Q1 := hid q1; have O1 := hid o1; clear q1 o1)
        | (go_at_call 19; refine (HD.out _ _ _ O1.out.seg).mono ?_; rintro e w2 ⟨s, rfl, q2, -⟩; have Q2 := hid (Q1.out.trans q2); clear q2)
        | (refine wpList_store_row rfl 24 _ _ rfl w2.heap.size (pc M s) rfl rfl 24 _ (heap_alloc_new w2 _) (pc_info M s) rfl (pc_one M s) ?_; refine Hid.out ?_))
      refine hid ?_
      generalize hw3 : World.setRow _ _ _ = w3
      have q3 : Q w2 w3 := by rw [← hw3]; exact (((Keep.refl (fun _ => False) w2).alloc _).setRow _ _ (.inr (Nat.le_refl _))).toQ (fun _ _ => id)
      clear hw3
      have Q3 := hid (Q2.out.trans q3)
      clear q3
      go_wp2_with (go_at_call 13; refine (HAW.out _).mono ?_; rintro e w4 ⟨rfl, q4⟩; have Q4 := hid (Q3.out.trans q4); clear q4)
      go_ret
      exact ⟨rfl, Q4.out⟩
  · have h1 : er = 0 := by omega
    have h2 : 0 < n := by omega
    have h3 : n ≤ 8192 := by omega
    subst h1
    have hb2 : ((n : Int) == 0) = false := by simp; omega
    have hb3 : decide ((8192 : Int) < (n : Int)) = false := by simp; omega
    have HDD := hid (fun (W : World) (x : Sv) (h : Row W x (zs ++ zs)) => decode_any x.a x.n x.c (zs ++ zs) srv W (Row.len h) (by rw [← Row.len h, List.length_append, HL.out]; omega) (fun y hy => by rcases List.mem_append.1 hy with h | h <;> exact HZ.out y h) h.seg)
    unfold AnsD at HDD
    rw [HTW.out h2 h3 rfl] at HDD
    clear hc HTW
    go_enter Try.func7, Try.ntmps7
    go_wp2_with (first
      | (go_at_call 18; refine (rcopy_any a n c zs _ HL.out (by omega) HS.out).mono ?_; rintro e w1 ⟨g, rfl, q1, o1, -⟩; have Q1 := hid q1; have O1 := hid o1; clear q1 o1)
      | (go_at_call 19; refine (HD.out _ _ _ O1.out.seg).mono ?_; rintro e w2 ⟨s, rfl, q2, -⟩; have Q2 := hid (Q1.out.trans q2); clear q2)
      | (refine wpList_store_row rfl 24 _ _ rfl w2.heap.size (pc M s) rfl rfl 24 _ (heap_alloc_new w2 _) (pc_info M s) rfl (pc_one M s) ?_; refine Hid.out ?_))
    refine hid ?_
    generalize hw3 : World.setRow _ _ _ = w3
    have q3 : Q w2 w3 := by rw [← hw3]; exact (((Keep.refl (fun _ => False) w2).alloc _).setRow _ _ (.inr (Nat.le_refl _))).toQ (fun _ _ => id)
    clear hw3
    have Q3 := hid (Q2.out.trans q3)
    clear q3
    clear Q1 O1 Q2
    generalize w2.heap.size = xb at *
    clear w2
    have HJ := hid (join_any w3.heap.size 2 2 (two ⟨a, n, c⟩ ⟨a, n, c⟩) (twoZ zs zs) (w3.alloc (.cells #[.slice a n c, .slice a n c] 22))
      (fun j hj => by
        rw [cell_of_row _ w3.heap.size j _ 22 (0, 0) (heap_alloc_new w3 _)]
        rcases (show j = 0 ∨ j = 1 by omega) with rfl | rfl <;> rfl)
      (fun j hj => by
        rcases (show j = 0 ∨ j = 1 by omega) with rfl | rfl
        · exact ⟨(HS.out.q Q3.out).q ((Q.refl w3).alloc _), HL.out⟩
        · exact ⟨(HS.out.q Q3.out).q ((Q.refl w3).alloc _), HL.out⟩) (by omega)
      (by show (([] ++ zs) ++ zs).length ≤ 1000000; rw [List.nil_append, List.length_append, HL.out]; omega))
    go_wp2_with (first
      | (go_at_call 21; refine HJ.out.mono ?_; rintro e w4 ⟨x, rfl, q4, r4, -⟩; have r5 : Row w4 x (zs ++ zs) := (by have := r4; rw [show cat (twoZ zs zs) 2 = zs ++ zs from by show ([] ++ zs) ++ zs = _; rw [List.nil_append]] at this; exact this); have Q4 := hid ((Q3.out.trans ((Q.refl w3).alloc _)).trans q4); have R4 := hid r5; clear q4 r4 r5)
      | (go_at_call 19; refine (HDD.out _ _ R4.out).mono ?_; rintro e w5 ⟨s5, rfl, q5, -⟩; have Q5 := hid (Q4.out.trans q5); clear q5)
      | (refine wpList_store_row rfl 24 _ _ rfl w5.heap.size (pc zeM s5) rfl rfl 24 _ (heap_alloc_new w5 _) (pc_info zeM s5) rfl (pc_one zeM s5) ?_; refine Hid.out ?_))
    refine hid ?_
    generalize hw6 : World.setRow _ _ _ = w6
    have q6 : Q w5 w6 := by rw [← hw6]; exact (((Keep.refl (fun _ => False) w5).alloc _).setRow _ _ (.inr (Nat.le_refl _))).toQ (fun _ _ => id)
    clear hw6
    have Q6 := hid (Q5.out.trans q6)
    clear q6
    go_wp2_with (go_at_call 13; refine (HAW.out _).mono ?_; rintro e w7 ⟨rfl, q7⟩; have Q7 := hid (Q6.out.trans q7); clear q7)
    go_ret
    exact ⟨rfl, Q7.out⟩

set_option maxRecDepth 100000 in
theorem lifted (os : Os) (started : os.Started) (H : Type) (enc : TypeId × Value → H) :
    ReturnsInHanded {} Try.checked os 7 .any (Rows.paramsTwiceSpec.pre6 enc Try.prog Try.f7 Rows.paramsTwiceRow.domain false) (Rows.paramsTwiceSpec.post enc Try.prog Try.f7 false true false false) := by
  refine returnsInHanded_of_change_sized (C := Try.checked) own_knob started (by kernel_rfl) Try.func7
    (ChangeSpec.witness6 (enc := enc) (C := Try.checked) false ⟨#[], #[.slice none 0 0, .bool false], []⟩ 8 (by kernel_rfl) (by kernel_rfl) (by kernel_rfl) (by kernel_rfl)) ?_
  intro W base args ds gs before hval0 hW hcnd hsz0 _
  have hval : ∀ (j : Nat) t v, Try.f7.params[j]? = some t → args[j]? = some v → Value.okWide Try.prog W .any base t v := hval0
  have hsz : (DataW.weightsEach Try.prog (Try.f7.params.toList ++ Rows.paramsTwiceSpec.plain.varTypes Try.prog) (ds ++ gs)).all (· ≤ reachBytes) = true := hsz0
  have hW' := hW
  obtain ⟨p, q, hA0, hV, rfl, hfz, hnd⟩ := hW
  have hA : DataW.TrodAll enc Try.prog W 0 (fun _ => true) true Try.f7.params.toList args.toList ds p := hA0
  rw [Try.params7] at hA hval hsz
  obtain ⟨v0, vs0, d0, ds0, p0, q0, hargs, rfl, rfl, h0, r0⟩ := trodAll_cons hA
  obtain ⟨v1, vs1, d1, ds1, p1, q1, rfl, rfl, rfl, h1, r1⟩ := trodAll_cons r0
  obtain ⟨rfl, rfl, rfl⟩ := trodAll_nil r1
  obtain rfl : args = #[v0, v1] := by cases args; simp_all
  obtain ⟨rfl, rfl⟩ := trodVars_none hV
  obtain ⟨a0, len0, cap0, rfl⟩ := okWide_slice Try.underlying22 (hval 0 22 v0 rfl rfl)
  have k0 := h0
  have lt0 : ∀ x ∈ p0, x.block < W.heap.size := by obtain ⟨m, hm⟩ := k0; exact DataW.trod_lt m _ _ _ hm
  obtain ⟨z0, zl0, zs0, zb0, zc0, ze0, zd0⟩ := open_bytes h0
  have zn0 := len_le_bytes hsz (j := 0) rfl rfl zd0
  obtain ⟨a1, rfl, rfl, rfl⟩ := Go.RowKit.open_bool Try.underlying4 (hval 1 4 v1 rfl rfl) h1
  clear hA0 hval0
  refine (walk a0 len0 cap0 z0 a1 W zl0 (by omega) zb0 zs0).mono fun e W' ⟨he, bel⟩ => ?_
  subst he
  exact ⟨_, rfl, _, _, _, [], _, [], hW', trodAll_mk1 (shut_bool Try.underlying4 _), (trodAll_cons_mk (Below.trod laid_out (by kernel_rfl) (of_decide_eq_true (by kernel_rfl)) k0 bel lt0) (trodAll_cons_mk (shut_bool Try.underlying4 _) trodAll_mk0)), rfl, bel.frame _, fun h => by cases h⟩

theorem over : Rows.paramsTwiceRow.holds Try.pinned (OpenSpec.ofChange Rows.paramsTwiceSpec) :=
  OpenClaim.holds_of_wide 7 Try.f7 rfl rfl rfl rfl rfl rfl rfl ⟨rfl, rfl, rfl, rfl, rfl⟩ rfl rfl rfl rfl rfl (by kernel_rfl) Try.func7 (by kernel_rfl)
    (of_decide_eq_true (by kernel_rfl)) (by unfold Func.isWrapper; first | (rw [if_pos (by decide +kernel)]; kernel_rfl) | (rw [if_neg (by decide +kernel)]; exact ⟨rfl, rfl⟩))
    (fun os started H enc _ => lifted os started H enc)

end Go.Proofs.Ytidbimhcebfjfaa.paramsTwice
namespace Go.Proofs.Ytidbimhcebfjfaa

/-- The statement. -/
theorem paramsTwice_holds : Rows.ParamsTwiceSaid := paramsTwice.over
#print axioms paramsTwice_holds
end Go.Proofs.Ytidbimhcebfjfaa
