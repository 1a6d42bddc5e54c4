/-
  Decode reads the parameters of any bytes as the document says, or tells the first that can't be taken, and why: whatever the bytes and the side.
-/
import Derived.Test.YtidbimhcebfjfaaRows
import Derived.Test.YtidbimhcebfjfaaDcB
import Derived.Test.YtidbimhcebfjfaaOpen
import Derived.WalkKit
import Derived.ProofKit
import Derived.OpenShut
import Derived.ShutString
import Derived.ChangeOld
import Derived.Below
import Derived.SizedLaws
namespace Go.Proofs.Ytidbimhcebfjfaa.paramsDecodes
open Go.ChangeShapes Go.WideShapes Go.ChangeAt Go.RowKit
open Go.ChangeMaps (open_string shut_string)
set_option linter.unusedVariables false

set_option maxRecDepth 20000
theorem takeR_le {zs : List Int} {p f k : Int} : (takeR zs p f k).1.length ≤ zs.length := by
  unfold takeR
  repeat' split
  all_goals first | exact Nat.zero_le _ | (rw [List.length_take, List.length_drop]; omega)
theorem byt_dec {zs : List Int} {srv : Bool} : ∀ (k : Nat) (p : Int) (seen : List Nat) (m : Pm), (∀ i, kd i = 2 ∨ kd i = 3 → (m.byt i).length ≤ zs.length) → ∀ i, kd i = 2 ∨ kd i = 3 → ((decM zs srv k p seen m).1.byt i).length ≤ zs.length := by
  intro k
  induction k with
  | zero => intro p seen m h; exact h
  | succ k ih =>
    intro p seen m h
    by_cases h1 : (zs.length : Int) ≤ p
    · rw [decM_end h1]; exact h
    · by_cases h2 : (parO zs p).2.2.2 = 0
      · by_cases h3 : (parO zs p).1.toNat ∈ seen
        · rw [decM_twice h1 h2 h3]; exact fun _ _ => Nat.zero_le _
        · cases h4 : takesM m (parO zs p).1.toNat (parO zs p).2.1 srv with
          | none => rw [decM_no h1 h2 h3 h4]; exact fun _ _ => Nat.zero_le _
          | some m' =>
            rw [decM_on h1 h2 h3 h4]
            refine ih _ _ _ (fun i hi => ?_)
            rw [tk_byt h4 i hi]
            by_cases e : i = (parO zs p).1.toNat
            · rw [if_pos e]; exact takeR_le
            · rw [if_neg e]; exact h i hi
      · rw [decM_short h1 h2]; exact fun _ _ => Nat.zero_le _
theorem byt_decA (zs : List Int) (srv : Bool) (i : Nat) (hi : kd i = 2 ∨ kd i = 3) : ((decA zs srv).1.byt i).length ≤ zs.length := by
  unfold decA
  by_cases h : 16384 < zs.length
  · rw [if_pos h]; exact Nat.zero_le _
  · rw [if_neg h]; exact byt_dec _ _ _ _ (fun _ _ => Nat.zero_le _) i hi
theorem alike {W : World} {M : Pm} {s1 s2 : Nat → Sv} (hm : Std M) (b1 : By W M s1) (b2 : By W M s2) (hb : ∀ i, kd i = 2 ∨ kd i = 3 → (M.byt i).length ≤ 140737488355328) : Alike W (nrm M) M (nrS s1) s2 := by
  refine ⟨fun i _ => ?_, fun i _ => ?_, fun i _ hh => ?_, rfl⟩
  · show (if kd i = 1 then M.num i else 0) = M.num i
    by_cases h : kd i = 1
    · rw [if_pos h]
    · rw [if_neg h, hm.n i h]
  · show (if kd i = 2 ∨ kd i = 3 then M.has i else false) = M.has i
    by_cases h : kd i = 2 ∨ kd i = 3
    · rw [if_pos h]
    · rw [if_neg h, hm.h i h]
  · have hk : kd i = 2 ∨ kd i = 3 := by
      by_cases h : kd i = 2 ∨ kd i = 3
      · exact h
      · have hh' : (if kd i = 2 ∨ kd i = 3 then M.has i else false) = true := hh
        rw [if_neg h] at hh'; cases hh'
    have e : nrS s1 i = s1 i := by show (if kd i = 2 ∨ kd i = 3 then s1 i else nilS) = s1 i; rw [if_pos hk]
    rw [e]
    exact ⟨(b1 i hk).1, (b1 i hk).2, (b2 i hk).1, (b2 i hk).2, by rw [← (b1 i hk).2]; exact hb i hk⟩
set_option maxHeartbeats 8000000 in
theorem walk (a : Option Addr) (n c : Nat) (zs : List Int) (srv : Bool) (w : World) (hl : zs.length = n) (hn : n ≤ 140737488355328) (hnc : n ≤ c) (hz : ∀ y ∈ zs, 0 ≤ y ∧ y < 256) (hs : Seg w a zs) :
    Calls Try.prog 4 #[.slice a n c, .bool srv] w fun r w' => r = .returned (.bool true) ∧ Below w.heap.size w w' := by
  have HL := hid hl
  have HZ := hid hz
  have HS := hid hs
  have HSTD := hid (std_decA zs srv)
  have HBL := hid (show ∀ i, kd i = 2 ∨ kd i = 3 → ((decA zs srv).1.byt i).length ≤ 140737488355328 from fun i hi => Nat.le_trans (byt_decA zs srv i hi) (by omega))
  have HD := hid (fun (W : World) (a' : Option Addr) (c' : Nat) (h : Seg W a' zs) => decode_any a' n c' zs srv W hl hn hz h)
  have HRD := hid (fun (W : World) (q : Q w W) => rdecode_any a n c zs srv W hl hn hnc hz (hs.q q))
  unfold AnsD at HD
  unfold AnsR at HRD
  clear hl hz hs hnc
  generalize (decA zs srv).1 = M at *
  generalize (decA zs srv).2.1 = at1 at *
  generalize (decA zs srv).2.2 = er at *
  go_enter Try.func4, Try.ntmps4
  go_wp2_with (first
    | (go_at_call 18; refine (rcopy_any a n c zs _ HL.out (by omega) HS.out).mono ?_; rintro e w1 ⟨g, rfl, q1, o1, -⟩; have Q1 := hid q1; have O1 := hid o1; clear q1 o1)
    | (go_at_call 19; refine (HD.out _ _ _ O1.out.seg).mono ?_; rintro e w2 ⟨s1, rfl, q2, y2⟩; have Q2 := hid (Q1.out.trans q2); have O2 := hid (O1.out.q q2); have Y2 := hid y2; clear q2 y2)
    | (refine wpList_store_row rfl 24 _ _ rfl w2.heap.size (pc M s1) rfl rfl 24 _ (heap_alloc_new w2 _) (pc_info M s1) rfl (pc_one M s1) ?_; refine Hid.out ?_))
  refine hid ?_
  generalize hw3 : World.setRow _ _ _ = w3
  have q3 : Q w2 w3 := by rw [← hw3]; exact (((Keep.refl (fun _ => False) w2).alloc _).setRow _ _ (.inr (Nat.le_refl _))).toQ (fun _ _ => id)
  have P3 := hid (show PB w3 w2.heap.size M s1 from by rw [← hw3]; exact setRow_heap _ _ _ _ 24 _ (heap_alloc_new w2 _))
  clear hw3
  have Q3 := hid (Q2.out.trans q3)
  have O3 := hid (O2.out.q q3)
  have Y3 := hid (Y2.out.q q3)
  clear q3 Q1 O1 Q2 O2 Y2
  generalize w2.heap.size = xb at *
  clear w2
  go_wp2_with (first
    | (go_at_call 20; refine (HRD.out _ Q3.out).mono ?_; rintro e w4 ⟨s2, rfl, q4, y4⟩; have Q4 := hid (Q3.out.trans q4); have O4 := hid (O3.out.q q4); have Y4 := hid (Y3.out.q q4); have P4 := hid (P3.out.q q4); have Z4 := hid y4; clear q4 y4)
    | (refine wpList_store_row rfl 36 _ _ rfl w4.heap.size (rc M s2) rfl rfl 36 _ (heap_alloc_new w4 _) info36 rfl (rc_one M s2) ?_; refine Hid.out ?_))
  refine hid ?_
  generalize hw5 : World.setRow _ _ _ = w5
  have q5 : Q w4 w5 := by rw [← hw5]; exact (((Keep.refl (fun _ => False) w4).alloc _).setRow _ _ (.inr (Nat.le_refl _))).toQ (fun _ _ => id)
  have R5 := hid (show RB w5 w4.heap.size (rc M s2) from by rw [← hw5]; exact setRow_heap _ _ _ _ 36 _ (heap_alloc_new w4 _))
  clear hw5
  have Q5 := hid (Q4.out.trans q5)
  have P5 := hid (P4.out.q q5)
  have HSM := hid (fun (W : World) (q : Q w5 W) => rsame_yes (nrm M) M (nrS s1) s2 W (alike HSTD.out ((Y4.out.q q5).q q) ((Z4.out.q q5).q q) HBL.out))
  have H14 := hid (fun (W : World) (q : Q w5 W) => rsame_b ⟨some ⟨g, 0, none⟩, n, n⟩ ⟨a, n, c⟩ zs W HL.out HL.out (by omega) (((O4.out.q q5).q q).seg) ((HS.out.q Q5.out).q q))
  clear q5 Q3 O3 Y3 P3 Q4 O4 Y4 P4 Z4 HD HRD HBL HSTD
  generalize w4.heap.size = yb at *
  clear w4
  go_wp2_with fail
  generalize hR : Code.region 4 _ true = C
  have eR : C = Code.region 4 (RofN Try.f4 4) true := hR.symm.trans (by kernel_rfl)
  clear hR
  subst eR
  refine wp_region_noPanic ?_
  refine rgA (A := A0 a n c g xb yb srv M s1 s2 at1 er) ?_ (rgD a n c g xb yb srv M s1 s2 at1 er w5 _ ⟨Q.refl _, P5.out, R5.out⟩ (fun c a d v w h => h) HSM.out H14.out ?_)
  · kernel_rfl
  intro A W hd h4 hq
  refine NoPanic.normal ?_
  refine ‹∀ a w, Code.wp Try.prog _ _ a w → _› _ _ ?_
  go_wp2
  exact bodyPost_ret (v := .bool true) ((results_tmp (t := 4) rfl _ _ _).trans (by rw [h4])) hd ⟨rfl, Q5.out.trans hq⟩

set_option maxRecDepth 100000 in
theorem lifted (os : Os) (started : os.Started) (H : Type) (enc : TypeId × Value → H) :
    ReturnsInHanded {} Try.checked os 4 .any (Rows.paramsDecodesSpec.pre6 enc Try.prog Try.f4 Rows.paramsDecodesRow.domain false) (Rows.paramsDecodesSpec.post enc Try.prog Try.f4 false true false false) := by
  refine returnsInHanded_of_change_sized (C := Try.checked) own_knob started (by kernel_rfl) Try.func4
    (ChangeSpec.witness6 (enc := enc) (C := Try.checked) false ⟨#[], #[.slice none 0 0, .bool false], []⟩ 8 (by kernel_rfl) (by kernel_rfl) (by kernel_rfl) (by kernel_rfl)) ?_
  intro W base args ds gs before hval0 hW hcnd hsz0 _
  have hval : ∀ (j : Nat) t v, Try.f4.params[j]? = some t → args[j]? = some v → Value.okWide Try.prog W .any base t v := hval0
  have hsz : (DataW.weightsEach Try.prog (Try.f4.params.toList ++ Rows.paramsDecodesSpec.plain.varTypes Try.prog) (ds ++ gs)).all (· ≤ reachBytes) = true := hsz0
  have hW' := hW
  obtain ⟨p, q, hA0, hV, rfl, hfz, hnd⟩ := hW
  have hA : DataW.TrodAll enc Try.prog W 0 (fun _ => true) true Try.f4.params.toList args.toList ds p := hA0
  rw [Try.params4] at hA hval hsz
  obtain ⟨v0, vs0, d0, ds0, p0, q0, hargs, rfl, rfl, h0, r0⟩ := trodAll_cons hA
  obtain ⟨v1, vs1, d1, ds1, p1, q1, rfl, rfl, rfl, h1, r1⟩ := trodAll_cons r0
  obtain ⟨rfl, rfl, rfl⟩ := trodAll_nil r1
  obtain rfl : args = #[v0, v1] := by cases args; simp_all
  obtain ⟨rfl, rfl⟩ := trodVars_none hV
  obtain ⟨a0, len0, cap0, rfl⟩ := okWide_slice Try.underlying22 (hval 0 22 v0 rfl rfl)
  have k0 := h0
  have lt0 : ∀ x ∈ p0, x.block < W.heap.size := by obtain ⟨m, hm⟩ := k0; exact DataW.trod_lt m _ _ _ hm
  obtain ⟨z0, zl0, zs0, zb0, zc0, ze0, zd0⟩ := open_bytes h0
  have zn0 := len_le_bytes hsz (j := 0) rfl rfl zd0
  obtain ⟨a1, rfl, rfl, rfl⟩ := Go.RowKit.open_bool Try.underlying4 (hval 1 4 v1 rfl rfl) h1
  clear hA0 hval0
  refine (walk a0 len0 cap0 z0 a1 W zl0 (by omega) zc0 zb0 zs0).mono fun e W' ⟨he, bel⟩ => ?_
  subst he
  exact ⟨_, rfl, _, _, _, [], _, [], hW', trodAll_mk1 (shut_bool Try.underlying4 _), (trodAll_cons_mk (Below.trod laid_out (by kernel_rfl) (of_decide_eq_true (by kernel_rfl)) k0 bel lt0) (trodAll_cons_mk (shut_bool Try.underlying4 _) trodAll_mk0)), rfl, bel.frame _, fun h => by cases h⟩

theorem over : Rows.paramsDecodesRow.holds Try.pinned (OpenSpec.ofChange Rows.paramsDecodesSpec) :=
  OpenClaim.holds_of_wide 4 Try.f4 rfl rfl rfl rfl rfl rfl rfl ⟨rfl, rfl, rfl, rfl, rfl⟩ rfl rfl rfl rfl rfl (by kernel_rfl) Try.func4 (by kernel_rfl)
    (of_decide_eq_true (by kernel_rfl)) (by unfold Func.isWrapper; first | (rw [if_pos (by decide +kernel)]; kernel_rfl) | (rw [if_neg (by decide +kernel)]; exact ⟨rfl, rfl⟩))
    (fun os started H enc _ => lifted os started H enc)

end Go.Proofs.Ytidbimhcebfjfaa.paramsDecodes
namespace Go.Proofs.Ytidbimhcebfjfaa

/-- The statement. -/
theorem paramsDecodes_holds : Rows.ParamsDecodesSaid := paramsDecodes.over
#print axioms paramsDecodes_holds
end Go.Proofs.Ytidbimhcebfjfaa
