/-
  Proved: for all lists of ints the law turnpikelaw01.VarintLists returns true, and its argument reads as it did. No condition.
-/
import Derived.Test.YtmlcobibefejgaaRows
import Derived.Test.YtmlcobibefejgaaAwake
import Derived.Test.YtmlcobibefejgaaNums
import Derived.Test.YtmlcobibefejgaaReader
import Derived.WalkKit
import Derived.ProofKit
import Derived.OpenShut
import Derived.ShutString
import Derived.ChangeOld
import Derived.Below
import Derived.SizedLaws
namespace Go.Proofs.Ytmlcobibefejgaa.varintLists
open Go.ChangeShapes Go.WideShapes Go.ChangeAt Go.RowKit
open Go.ChangeMaps (open_string shut_string)
set_option linter.unusedVariables false

theorem numR_flat (l : List Int) (k : Nat) (h : k < l.length) (h0 : 0 ≤ l.getD k 0) (h1 : l.getD k 0 ≤ 4611686018427387903) :
    numR (flat l) ((flat (l.take k)).length : Int) 0 = (l.getD k 0, ((flat (l.take (k + 1))).length : Int), 0) := by
  simp only [numR, rd_flat l k h h0 h1, if_true]

theorem numR_end {l : List Int} {m : Nat} (h : l.length = m) : numR l (m : Int) 0 = (0, (m : Int), 12) := by
  subst h
  simp only [numR, rd_end, if_true]
  rfl

theorem src_of {w : World} {g : Nat} {l : List Value} (h : 0 < l.length → ∃ ad, (some ⟨g, 0, none⟩ : Option Addr) = some ad ∧ ∀ j v, l[j]? = some v → w.cell? (ad.add j) = some v) :
    ∀ j v, l[j]? = some v → w.cell? ((⟨g, 0, none⟩ : Addr).add j) = some v := by
  intro j v hj
  have hp : 0 < l.length := by
    cases l with
    | nil => simp at hj
    | cons x r => simp
  obtain ⟨ad, e, hc⟩ := h hp
  cases e
  exact hc j v hj

theorem ret_true {b : Bool} (h : b = true) : Ending.returned (.bool b) = .returned (.bool true) := by rw [h]

/-- The walk behind the first loop: what was gathered is read back. -/
theorem getD_mem {l : List Int} {k : Nat} (h : k < l.length) : l.getD k 0 ∈ l := by
  rw [List.getD_eq_getElem?_getD, List.getElem?_eq_getElem h]; exact List.getElem_mem h

set_option maxHeartbeats 4000000 in
theorem walk (a : Option Addr) (n c : Nat) (zs : List Int) (w : World) (hl : zs.length = n) (hn : n * 8 ≤ 140737488351232) (hs : SegI w a zs) :
    Calls Try.prog 8 #[.slice a n c] w fun e w' => e = .returned (.bool true) ∧ Below w.heap.size w w' := by
  obtain ⟨i0, hi, hz0, hz1, hz2⟩ := info_parts info5
  have HL := hid hl
  have HS := hid hs
  clear hl hs
  go_enter Try.func8, Try.ntmps8
  go_wp2
  go_loopw [3, 13] (fun v i wr => ∃ k : Nat, ∃ ad : Option Addr, ∃ m cc : Nat, k ≤ n ∧ i = .int .i64 k ∧ v = .slice ad m cc ∧ Own wr w.heap.size ad m cc (flat (zs.take k)) ∧ (∀ y ∈ zs.take k, 0 ≤ y ∧ y ≤ 4611686018427387903) ∧ Q w wr)
    (fun _ i _ => n - (intOf i).toNat)
  case atStart => exact ⟨0, none, 0, 0, Nat.zero_le _, rfl, rfl, World.ownsRow_nil _ _ _ _, by simp, Q.refl _⟩
  case round =>
    obtain ⟨k, ad, m, cc, hk, rfl, rfl, hown, hval, hq⟩ := hrel
    have hm := hown.len
    have HO := hid hown
    have HV := hid hval
    have HQ := hid hq
    have hmk : m ≤ 8 * k := by
      have := flat_le (zs.take k)
      have := List.length_take_le k zs
      omega
    have HM := hid hm
    clear hown hval hq hm
    by_cases hlt : k < n
    · obtain ⟨b, off, rfl, hc⟩ := HS.out (by intro h; have := HL.out; simp [h] at this; omega)
      have hcell : wr.cell? ⟨b, off + k, none⟩ = some (.int .i64 (zs.getD k 0)) := by
        rw [HQ.out.cell (lt_of_cell (hc k (by have := HL.out; omega)))]; exact hc k (by have := HL.out; omega)
      have HF := hid (flat_step zs k (by have := HL.out; omega))
      have HT := hid (take_snoc zs k (by have := HL.out; omega))
      clear hc
      generalize zs.getD k 0 = y at *
      have hlt' : (k : Int) < (n : Int) := by omega
      by_cases hy : y < 0 ∨ 4611686018427387903 < y
      · have HY := hid hy
        clear hy
        by_cases hy0 : y < 0
        · go_wp2_with fail
          refine (put_no y _ HY.out).mono ?_
          rintro e w1 ⟨rfl, rfl⟩
          go_wp2_with fail
          refine (awake_any _).mono ?_
          rintro e w1 ⟨rfl, hq1⟩
          have H1 := hid hq1
          clear hq1
          go_wp2
          go_ret
          exact ⟨rfl, HQ.out.trans H1.out⟩
        · have hy1 : 4611686018427387903 < y := by have := HY.out; omega
          go_wp2_with fail
          refine (put_no y _ HY.out).mono ?_
          rintro e w1 ⟨rfl, rfl⟩
          go_wp2_with fail
          refine (awake_any _).mono ?_
          rintro e w1 ⟨rfl, hq1⟩
          have H1 := hid hq1
          clear hq1
          go_wp2
          go_ret
          exact ⟨rfl, HQ.out.trans H1.out⟩
      · have y0 : 0 ≤ y := by omega
        have y1 : y ≤ 4611686018427387903 := by omega
        clear hy
        obtain ⟨s, hsz⟩ : ∃ s, sz y = s := ⟨_, rfl⟩
        have hs0 : 0 < s := by have := sz_some y0 y1; omega
        have hs8 : s ≤ 8 := by have := sz_le y; omega
        have HSZ := hid hsz
        clear hsz
        go_wp2_with fail
        refine (put_ok y _ s y0 y1 HSZ).mono ?_
        rintro e w1 ⟨g, rfl, hq1, ho1⟩
        have H1 := hid hq1
        have O1 := hid ho1
        have OB := hid (HO.out.q hq1)
        have SRC := hid (copy_src ho1.seg (Q.refl _))
        clear hq1 ho1
        go_wp2_with (at_builtin; refine wpList_append_own _ rfl _ _ 22 rfl w.heap.size 5 i0 (.int .u8 0) 1 1 Try.underlying22 hi hz0 hz1 hz2 rfl (by decide) _ m _ rfl OB.out ⟨g, 0, none⟩ s s ((form y).map (Value.int .u8)) rfl (by rw [List.length_map, form_length, HSZ.out, Nat.mul_one]) (src_of SRC.out) (ints_oneCell _ _) (by unfold maxLen; omega) (by omega) (Nat.le_trans HQ.out.size H1.out.size) ?_; intro v' w2 hown' hgr hiff)
        have hbl : Q w w2 := by
          refine Below.grown (HQ.out.trans H1.out) hgr (Nat.le_trans HQ.out.size H1.out.size) ?_
          intro k' hk'
          exact (World.ownsRow.lt OB.out k' hk').1
        have H2 := hid hbl
        rcases hown'.2 with ⟨h1, h2⟩ | ⟨g', cap', cur, rfl, _⟩
        · exact absurd h2 (by omega)
        · have O2 := hid (show Own w2 w.heap.size (some ⟨g', 0, none⟩) (m + s) cap' (flat (zs.take (k + 1))) from by
            rw [HF.out]; rw [← List.map_append] at hown'; exact hown')
          clear hown' hgr hiff hbl
          go_wp2
          go_roundw
          case rel =>
            refine ⟨k + 1, some ⟨g', 0, none⟩, m + s, cap', by omega, by go_num, rfl, O2.out, ?_, H2.out⟩
            intro z hz
            rw [HT.out] at hz
            simp only [List.mem_append, List.mem_singleton] at hz
            rcases hz with hz | rfl
            · exact HV.out z hz
            · exact ⟨y0, y1⟩
          case measure => simp [intOf]; omega
    · obtain rfl : n = k := by omega
      have HTK := hid (show zs.take n = zs from List.take_of_length_le (by rw [HL.out]; exact Nat.le_refl _))
      rw [HTK.out] at HO HV HM
      go_wp2_with fail
      refine (open_any ad m cc (flat zs) _ HM.out (by omega) HO.out.seg).mono ?_
      rintro e w1 ⟨g, rb, rfl, hq1, hrb, hg, hne, hr, ho1⟩
      have H1 := hid hq1
      have O1 := hid (show SegOff rb w1 (some ⟨g, 0, none⟩) (flat zs) from ⟨ho1.seg, fun _ ad hb => by cases hb; exact hne⟩)
      have R1 := hid hr
      have HRB := hid hrb
      clear hq1 ho1 hr hrb
      go_wp2
      go_loopw [43] (fun i w2 => ∃ k : Nat, k ≤ n ∧ i = .int .i64 k ∧ Rdr w2 57 rb (some ⟨g, 0, none⟩) m m ((flat (zs.take k)).length : Int) 0 ∧ Only rb w1 w2) (fun i _ => n - (intOf i).toNat)
      case atStart => exact ⟨0, Nat.zero_le _, rfl, by simpa [flat] using R1.out, Only.refl _ _⟩
      case round =>
        obtain ⟨k, hk2, rfl, hr2, ho2⟩ := hrel
        have R2 := hid hr2
        have O2 := hid ho2
        have S2 := hid (O1.out.only ho2)
        have FB := hid (flat_bytes zs)
        clear hr2 ho2
        by_cases hlt : k < n
        · obtain ⟨b, off, rfl, hc⟩ := HS.out (by intro h; have := HL.out; simp [h] at this; omega)
          have hkl : k < zs.length := by have := HL.out; omega
          have hcell : wr.cell? ⟨b, off + k, none⟩ = some (.int .i64 (zs.getD k 0)) := by
            have h1 := hc k hkl
            have hb := lt_of_cell h1
            have hb2 := HQ.out.size
            have hb3 := HRB.out
            refine O2.out.cell ?_ (by omega)
            rw [H1.out.cell (Nat.lt_of_lt_of_le hb hb2), HQ.out.cell hb]
            exact h1
          have hyv := HV.out _ (getD_mem hkl)
          have HN := hid (numR_flat zs k hkl hyv.1 hyv.2)
          clear hc hyv
          generalize zs.getD k 0 = y at *
          have hne2 : (y != y) = false := by simp
          go_wp2_with fail
          refine (number_any rb (some ⟨g, 0, none⟩) m m (flat zs) _ 0 _ HM.out (by omega) FB.out S2.out R2.out).mono ?_
          rw [HN.out]
          rintro e w3 ⟨rfl, ho3, hr3⟩
          have O3 := hid (O2.out.trans ho3)
          have R3 := hid hr3
          clear ho3 hr3
          go_wp2
          go_roundw
          case rel => exact ⟨k + 1, by omega, by go_num, R3.out, O3.out⟩
          case measure => simp [intOf]; omega
        · obtain rfl : n = k := by omega
          rw [HTK.out, HM.out] at R2
          have HN := hid (numR_end HM.out)
          have e1 : ((m : Int) == m) = true := by simp
          go_wp2_with fail
          refine (left_any rb (some ⟨g, 0, none⟩) m m m 0 _ (by omega) (by omega) (by omega) R2.out).mono ?_
          rintro e w3 ⟨rfl, k3, rfl⟩
          rw [if_pos rfl, Int.sub_self]
          go_wp2_with fail
          refine (at_any rb (some ⟨g, 0, none⟩) m m m 0 _ (R2.out.drewN k3)).mono ?_
          rintro e w4 ⟨rfl, rfl⟩
          go_wp2_with fail
          refine (fault_any rb (some ⟨g, 0, none⟩) m m m 0 _ (R2.out.drewN k3)).mono ?_
          rintro e w4 ⟨rfl, rfl⟩
          go_wp2_with fail
          refine (number_any rb (some ⟨g, 0, none⟩) m m (flat zs) m 0 _ HM.out (by omega) FB.out (S2.out.q ((Q.refl _).drewN k3)) (R2.out.drewN k3)).mono ?_
          rw [HN.out]
          rintro e w4 ⟨rfl, ho4, hr4⟩
          have O4 := hid (O2.out.trans ((Only.drewN (Only.refl _ _) k3).trans ho4))
          have R4 := hid hr4
          clear ho4 hr4
          go_wp2_with fail
          refine (fault_any rb (some ⟨g, 0, none⟩) m m m 12 _ R4.out).mono ?_
          rintro e w5 ⟨rfl, rfl⟩
          go_wp2_with fail
          refine (awake_any _).mono ?_
          rintro e w5 ⟨rfl, hq5⟩
          have H5 := hid hq5
          clear hq5
          go_wp2
          go_ret
          have B1 : Below w.heap.size w w1 := HQ.out.trans H1.out
          have B4 : Below w.heap.size w w4 := O4.out.below B1 (Nat.le_trans HQ.out.size HRB.out) B1.size
          exact ⟨rfl, Q.trans B4 H5.out⟩

set_option maxRecDepth 100000 in
theorem lifted (os : Os) (started : os.Started) (H : Type) (enc : TypeId × Value → H) :
    ReturnsInHanded {} Try.checked os 8 .any (Rows.varintListsSpec.pre6 enc Try.prog Try.f8 Rows.varintListsRow.domain false) (Rows.varintListsSpec.post enc Try.prog Try.f8 false true false false) := by
  refine returnsInHanded_of_change_sized (C := Try.checked) own_knob started (by kernel_rfl) Try.func8
    (ChangeSpec.witness6 (enc := enc) (C := Try.checked) false ⟨#[], #[.slice none 0 0], []⟩ 8 (by kernel_rfl) (by kernel_rfl) (by kernel_rfl) (by kernel_rfl)) ?_
  intro W base args ds gs before hval0 hW hcnd hsz0 _
  have hval : ∀ (j : Nat) t v, Try.f8.params[j]? = some t → args[j]? = some v → Value.okWide Try.prog W .any base t v := hval0
  have hsz : (DataW.weightsEach Try.prog (Try.f8.params.toList ++ Rows.varintListsSpec.plain.varTypes Try.prog) (ds ++ gs)).all (· ≤ reachBytes) = true := hsz0
  have hW' := hW
  obtain ⟨p, q, hA0, hV, rfl, hfz, hnd⟩ := hW
  have hA : DataW.TrodAll enc Try.prog W 0 (fun _ => true) true Try.f8.params.toList args.toList ds p := hA0
  rw [Try.params8] at hA hval hsz
  obtain ⟨v0, vs0, d0, ds0, p0, q0, hargs, rfl, rfl, h0, r0⟩ := trodAll_cons hA
  obtain ⟨rfl, rfl, rfl⟩ := trodAll_nil r0
  obtain rfl : args = #[v0] := by cases args; simp_all
  obtain ⟨rfl, rfl⟩ := trodVars_none hV
  obtain ⟨a0, len0, cap0, rfl⟩ := okWide_slice Try.underlying51 (hval 0 51 v0 rfl rfl)
  have k0 := h0
  have lt0 : ∀ x ∈ p0, x.block < W.heap.size := by obtain ⟨m, hm⟩ := k0; exact DataW.trod_lt m _ _ _ hm
  obtain ⟨z0, zl0, zs0, zb0, zc0, ze0, zd0⟩ := open_nums h0
  have zn0 := len_le_nums hsz (j := 0) rfl rfl zd0
  clear hA0 hval0
  refine (walk a0 len0 cap0 z0 W zl0 zn0 zs0).mono fun e W' ⟨he, bel⟩ => ?_
  subst he
  exact ⟨_, rfl, _, _, _, [], _, [], hW', trodAll_mk1 (shut_bool Try.underlying4 _), (trodAll_cons_mk (Below.trod laid_out (by kernel_rfl) (of_decide_eq_true (by kernel_rfl)) k0 bel lt0) trodAll_mk0), rfl, bel.frame _, fun h => by cases h⟩

theorem over : Rows.varintListsRow.holds Try.pinned (OpenSpec.ofChange Rows.varintListsSpec) :=
  OpenClaim.holds_of_wide 8 Try.f8 rfl rfl rfl rfl rfl rfl rfl ⟨rfl, rfl, rfl, rfl, rfl⟩ rfl rfl rfl rfl rfl (by kernel_rfl) Try.func8 (by kernel_rfl)
    (of_decide_eq_true (by kernel_rfl)) (by unfold Func.isWrapper; first | (rw [if_pos (by decide +kernel)]; kernel_rfl) | (rw [if_neg (by decide +kernel)]; exact ⟨rfl, rfl⟩))
    (fun os started H enc _ => lifted os started H enc)

end Go.Proofs.Ytmlcobibefejgaa.varintLists
namespace Go.Proofs.Ytmlcobibefejgaa

/-- The statement. -/
theorem varintLists_holds : Rows.VarintListsSaid := varintLists.over
#print axioms varintLists_holds
end Go.Proofs.Ytmlcobibefejgaa
