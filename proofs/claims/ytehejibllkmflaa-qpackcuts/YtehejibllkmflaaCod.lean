/-
  What the inner codes answers: the code of each byte. A contract that the statements' walks use.
-/
import Derived.Test.YtehejibllkmflaaCdR
import Derived.Deep.WholeRow
namespace Go.Proofs.Ytehejibllkmflaa
open Go.RowKit
set_option linter.unusedVariables false
set_option maxRecDepth 100000

/-- The bytes of the first k classes. -/
def pr (k : Nat) : List Int := if k = 0 then [] else if k = 1 then hq5 else if k = 2 then hq5 ++ hq6 else if k = 3 then hq5 ++ hq6 ++ hq7 else if k = 4 then hq5 ++ hq6 ++ hq7 ++ hq8 else hq5 ++ hq6 ++ hq7 ++ hq8 ++ hq15
structure CdI (w : World) (g : Nat) (l : List Int) (wr : World) : Prop where
  q : Q w wr
  z : ∃ cs, Blk wr w.heap.size 143 cs ∧ cs.size = 512
  b : Blk wr g 143 (cdT l).toArray
  n : w.heap.size < g
theorem CdI.step {w wr w2 : World} {g : Nat} {l : List Int} (h : CdI w g l wr) (q2 : Q wr w2) : CdI w g l w2 := by
  obtain ⟨cs, hz, hs⟩ := h.z
  exact ⟨h.q.trans q2, ⟨cs, hz.q q2, hs⟩, h.b.q q2, h.n⟩
theorem CdI.next {w wr : World} {g y : Nat} {l : List Int} (h : CdI w g l wr) (hy : y < 256) : CdI w g (l ++ [(y : Int)]) ((wr.setCell ⟨g, y * 2, none⟩ (.int .i64 (hc (y : Int)))).setCell ⟨g, y * 2 + 1, none⟩ (.int .i64 (hl (y : Int) : Nat))) := by
  obtain ⟨cs, hz, hs⟩ := h.z
  have kp := (((Keep.ofQ (F := fun _ => False) h.q).setCell g (y * 2) (.int .i64 (hc (y : Int))) (.inr (by have := h.n; omega))).setCell g (y * 2 + 1) (.int .i64 (hl (y : Int) : Nat)) (.inr (by have := h.n; omega))).toQ (fun _ _ => id)
  refine ⟨kp, ⟨cs, (hz.setOther (by have := h.n; omega)).setOther (by have := h.n; omega), hs⟩, ?_, h.n⟩
  have e := cdT_set l y hy
  have h2 := ((h.b.set (y * 2) (.int .i64 (hc (y : Int)))).set (y * 2 + 1) (.int .i64 (hl (y : Int) : Nat)))
  have e2 : ((cdT l).toArray.setIfInBounds (y * 2) (.int .i64 (hc (y : Int)))).setIfInBounds (y * 2 + 1) (.int .i64 (hl (y : Int) : Nat)) = (cdT (l ++ [(y : Int)])).toArray := by
    rw [← e]
    simp
  rw [e2] at h2
  exact h2
theorem cls_at (l : Nat) (hl5 : l ∈ ([5, 6, 7, 8, 15] : List Nat)) (i : Nat) (hi : i < (hqC l).length) : ∃ y : Nat, (hqC l)[i]? = some (y : Int) ∧ y < 256 ∧ hl (y : Int) = l ∧ hc (y : Int) = hqF l + (i : Nat) := by
  have h := of_decide_eq_true (List.all_eq_true.1 (List.all_eq_true.1 back_ok l hl5) i (List.mem_range.2 hi))
  rw [List.getD_eq_getElem?_getD, List.getElem?_eq_getElem hi, Option.getD_some] at h
  obtain ⟨y, hy⟩ := Int.eq_ofNat_of_zero_le h.1
  rw [hy] at h
  exact ⟨y, by rw [List.getElem?_eq_getElem hi, hy], by omega, h.2.2.1, h.2.2.2⟩
theorem cell36 {l : List Int} {y : Nat} (hy : y < 256) (d : Nat) (hd : d < 2) : (cdT l).toArray[y * 2 + d]? = some ((cdT l).getD (y * 2 + d) undef) := by
  rw [List.getElem?_toArray, List.getD_eq_getElem?_getD, List.getElem?_eq_getElem (by rw [cdT_len]; omega)]; rfl
set_option maxHeartbeats 16000000 in
theorem codes_any (w : World) : Calls Try.prog 99 #[] w fun e w' => e = .returned (.agg cdA.toArray) ∧ Q w w' := by
  have HC := hid classes_any
  obtain ⟨hz, _⟩ := zero_of_info info36
  generalize hZ : (cdT []).toArray = Z at *
  go_enter Try.func99, Try.ntmps99
  go_wp2_with (go_at_call 83; refine (HC.out _).mono ?_; rintro e w1 ⟨rfl, q1⟩; have Q1 := hid q1; clear q1)
  have HI0 := hid (show CdI w (w.heap.size + 1) (pr 0) w1 from by
    have q1 := Q1.out
    have hs : Z.size = 512 := by rw [← hZ]; exact cdT_size _
    have hq : Q w w1 := (((Q.refl w).alloc _).alloc _).trans q1
    refine ⟨hq, ⟨Z, ((blk_new w Z 143).q ((Q.refl _).alloc _)).q q1, hs⟩, ?_, by omega⟩
    have hb := (blk_new (w.alloc (.cells Z 143)) Z 143).q q1
    rw [← hZ] at hb
    have e : pr 0 = [] := rfl
    rw [e]
    simpa using hb)
  clear hz hZ Q1 HC
  generalize hg : w.heap.size + 1 = g at *
  have HG := hid hg
  clear hg
  go_loopw [6] (fun i wr => ∃ k : Nat, k ≤ 5 ∧ i = .int .i64 k ∧ CdI w g (pr k) wr) (fun i _ => ((5 : Int) - intOf i).toNat)
  case atStart => exact ⟨0, by omega, rfl, HI0.out⟩
  case round =>
    clear HI0
    obtain ⟨k, hk5, rfl, hI⟩ := hrel
    have HI := hid hI
    clear hI
    have hcs : k = 0 ∨ k = 1 ∨ k = 2 ∨ k = 3 ∨ k = 4 ∨ k = 5 := by omega
    clear hk5
    rcases hcs with rfl | rfl | rfl | rfl | rfl | rfl
    · have hlen : (strOfNums hq5).size = 10 := by rw [str_len]; rfl
      have hix : ∀ W, (Instr.index 125 (.agg (clC 20 92 248 32512)) (.int .i64 0)).run Try.prog W = .ok (.agg #[.int .i64 5, .int .i64 0, .string (strOfNums hq5)]) W := fun W => by kernel_rfl
      go_wp2_with fail
      generalize hW : World.alloc wr _ = W1
      have HJ := hid (show CdI w g (pr 0 ++ hq5.take 0) W1 from by rw [List.take_zero, List.append_nil, ← hW]; exact HI.out.step ((Q.refl wr).alloc _))
      have HB := hid (show Blk W1 wr.heap.size 124 #[.int .i64 5, .int .i64 0, .string (strOfNums hq5)] from by rw [← hW]; exact blk_new wr _ 124)
      have HN := hid (show g < wr.heap.size from (HI.out.b).lt)
      clear hW HI
      generalize wr.heap.size = c at *
      clear wr
      go_loopw [12] (fun i wr => ∃ j : Nat, j ≤ 10 ∧ i = .int .i64 j ∧ CdI w g (pr 0 ++ hq5.take j) wr ∧ Blk wr c 124 #[.int .i64 5, .int .i64 0, .string (strOfNums hq5)]) (fun i _ => ((10 : Int) - intOf i).toNat)
      case atStart => exact ⟨0, by omega, rfl, HJ.out, HB.out⟩
      case round =>
        clear HJ HB
        obtain ⟨j, hj, rfl, hJ, hB⟩ := hrel
        have HJ := hid hJ
        have HB := hid hB
        clear hJ hB
        by_cases hjn : j < 10
        · have hji : (j : Int) < 10 := by omega
          obtain ⟨y, hy1, hy2, hy3, hy4⟩ := cls_at 5 (by decide) j (show j < (hqC 5).length from hjn)
          have hy1' : hq5[j]? = some (y : Int) := hy1
          have hn : IntKind.i64.wrap (0 + (j : Int)) = hc (y : Int) := by rw [wrap_i64, hy4]; show _ = 0 + (j : Int); omega
          have HX := hid (show CdI w g (pr 0 ++ hq5.take (j + 1)) ((wr.drew.setCell ⟨g, y * 2, none⟩ (.int .i64 (hc (y : Int)))).setCell ⟨g, y * 2 + 1, none⟩ (.int .i64 5)) from by
            have := (HJ.out.step (Q.refl wr).drew).next hy2
            rw [hy3] at this
            rw [List.take_add_one, hy1', Option.toList_some, ← List.append_assoc]
            exact this)
          have HY := hid (show Blk ((wr.drew.setCell ⟨g, y * 2, none⟩ (.int .i64 (hc (y : Int)))).setCell ⟨g, y * 2 + 1, none⟩ (.int .i64 5)) c 124 #[.int .i64 5, .int .i64 0, .string (strOfNums hq5)] from (HB.out.drew.setOther (by have := HN.out; omega)).setOther (by have := HN.out; omega))
          have H1 := hid hy1'
          have H2 := hid hy2
          have H3 := hid hn
          clear hy1 hy1' hy2 hy3 hy4 hn
          go_wp2_with fail
          generalize hR : Code.region 8 _ true = C
          have eR : C = Code.region 8 (RofN Try.f99 8) true := hR.symm.trans (by kernel_rfl)
          clear hR
          subst eR
          refine wp_region_noPanic ?_
          refine rg8 g c j y 5 0 (hc (y : Int)) hq5 wr _ (fun c a d v w h => h) H1.out H2.out H3.out ⟨HB.out.cell 0, HB.out.cell 1, HB.out.cell 2⟩ (by have := HN.out; omega) ((HJ.out.b.cell _).trans (cell36 H2.out 0 (by omega))) ((HJ.out.b.cell _).trans (cell36 H2.out 1 (by omega))) (HJ.out.b.frozen) ?_
          clear HJ HB
          generalize World.setCell (World.setCell wr.drew _ _) _ _ = w3 at *
          refine NoPanic.normal ?_
          refine ‹∀ a w, Code.wp Try.prog _ _ a w → _› _ _ ?_
          go_wp2
          go_roundw
          case rel => exact ⟨j + 1, by omega, by go_num, HX.out, HY.out⟩
          case measure => simp [intOf]; omega
        · obtain rfl : j = 10 := by omega
          go_wp2_with fail
          go_roundw
          case rel => exact ⟨1, by omega, rfl, HJ.out⟩
          case measure => simp [intOf]
    · have hlen : (strOfNums hq6).size = 26 := by rw [str_len]; rfl
      have hix : ∀ W, (Instr.index 125 (.agg (clC 20 92 248 32512)) (.int .i64 1)).run Try.prog W = .ok (.agg #[.int .i64 6, .int .i64 20, .string (strOfNums hq6)]) W := fun W => by kernel_rfl
      go_wp2_with fail
      generalize hW : World.alloc wr _ = W1
      have HJ := hid (show CdI w g (pr 1 ++ hq6.take 0) W1 from by rw [List.take_zero, List.append_nil, ← hW]; exact HI.out.step ((Q.refl wr).alloc _))
      have HB := hid (show Blk W1 wr.heap.size 124 #[.int .i64 6, .int .i64 20, .string (strOfNums hq6)] from by rw [← hW]; exact blk_new wr _ 124)
      have HN := hid (show g < wr.heap.size from (HI.out.b).lt)
      clear hW HI
      generalize wr.heap.size = c at *
      clear wr
      go_loopw [12] (fun i wr => ∃ j : Nat, j ≤ 26 ∧ i = .int .i64 j ∧ CdI w g (pr 1 ++ hq6.take j) wr ∧ Blk wr c 124 #[.int .i64 6, .int .i64 20, .string (strOfNums hq6)]) (fun i _ => ((26 : Int) - intOf i).toNat)
      case atStart => exact ⟨0, by omega, rfl, HJ.out, HB.out⟩
      case round =>
        clear HJ HB
        obtain ⟨j, hj, rfl, hJ, hB⟩ := hrel
        have HJ := hid hJ
        have HB := hid hB
        clear hJ hB
        by_cases hjn : j < 26
        · have hji : (j : Int) < 26 := by omega
          obtain ⟨y, hy1, hy2, hy3, hy4⟩ := cls_at 6 (by decide) j (show j < (hqC 6).length from hjn)
          have hy1' : hq6[j]? = some (y : Int) := hy1
          have hn : IntKind.i64.wrap (20 + (j : Int)) = hc (y : Int) := by rw [wrap_i64, hy4]; show _ = 20 + (j : Int); omega
          have HX := hid (show CdI w g (pr 1 ++ hq6.take (j + 1)) ((wr.drew.setCell ⟨g, y * 2, none⟩ (.int .i64 (hc (y : Int)))).setCell ⟨g, y * 2 + 1, none⟩ (.int .i64 6)) from by
            have := (HJ.out.step (Q.refl wr).drew).next hy2
            rw [hy3] at this
            rw [List.take_add_one, hy1', Option.toList_some, ← List.append_assoc]
            exact this)
          have HY := hid (show Blk ((wr.drew.setCell ⟨g, y * 2, none⟩ (.int .i64 (hc (y : Int)))).setCell ⟨g, y * 2 + 1, none⟩ (.int .i64 6)) c 124 #[.int .i64 6, .int .i64 20, .string (strOfNums hq6)] from (HB.out.drew.setOther (by have := HN.out; omega)).setOther (by have := HN.out; omega))
          have H1 := hid hy1'
          have H2 := hid hy2
          have H3 := hid hn
          clear hy1 hy1' hy2 hy3 hy4 hn
          go_wp2_with fail
          generalize hR : Code.region 8 _ true = C
          have eR : C = Code.region 8 (RofN Try.f99 8) true := hR.symm.trans (by kernel_rfl)
          clear hR
          subst eR
          refine wp_region_noPanic ?_
          refine rg8 g c j y 6 20 (hc (y : Int)) hq6 wr _ (fun c a d v w h => h) H1.out H2.out H3.out ⟨HB.out.cell 0, HB.out.cell 1, HB.out.cell 2⟩ (by have := HN.out; omega) ((HJ.out.b.cell _).trans (cell36 H2.out 0 (by omega))) ((HJ.out.b.cell _).trans (cell36 H2.out 1 (by omega))) (HJ.out.b.frozen) ?_
          clear HJ HB
          generalize World.setCell (World.setCell wr.drew _ _) _ _ = w3 at *
          refine NoPanic.normal ?_
          refine ‹∀ a w, Code.wp Try.prog _ _ a w → _› _ _ ?_
          go_wp2
          go_roundw
          case rel => exact ⟨j + 1, by omega, by go_num, HX.out, HY.out⟩
          case measure => simp [intOf]; omega
        · obtain rfl : j = 26 := by omega
          go_wp2_with fail
          go_roundw
          case rel => exact ⟨2, by omega, rfl, HJ.out⟩
          case measure => simp [intOf]
    · have hlen : (strOfNums hq7).size = 32 := by rw [str_len]; rfl
      have hix : ∀ W, (Instr.index 125 (.agg (clC 20 92 248 32512)) (.int .i64 2)).run Try.prog W = .ok (.agg #[.int .i64 7, .int .i64 92, .string (strOfNums hq7)]) W := fun W => by kernel_rfl
      go_wp2_with fail
      generalize hW : World.alloc wr _ = W1
      have HJ := hid (show CdI w g (pr 2 ++ hq7.take 0) W1 from by rw [List.take_zero, List.append_nil, ← hW]; exact HI.out.step ((Q.refl wr).alloc _))
      have HB := hid (show Blk W1 wr.heap.size 124 #[.int .i64 7, .int .i64 92, .string (strOfNums hq7)] from by rw [← hW]; exact blk_new wr _ 124)
      have HN := hid (show g < wr.heap.size from (HI.out.b).lt)
      clear hW HI
      generalize wr.heap.size = c at *
      clear wr
      go_loopw [12] (fun i wr => ∃ j : Nat, j ≤ 32 ∧ i = .int .i64 j ∧ CdI w g (pr 2 ++ hq7.take j) wr ∧ Blk wr c 124 #[.int .i64 7, .int .i64 92, .string (strOfNums hq7)]) (fun i _ => ((32 : Int) - intOf i).toNat)
      case atStart => exact ⟨0, by omega, rfl, HJ.out, HB.out⟩
      case round =>
        clear HJ HB
        obtain ⟨j, hj, rfl, hJ, hB⟩ := hrel
        have HJ := hid hJ
        have HB := hid hB
        clear hJ hB
        by_cases hjn : j < 32
        · have hji : (j : Int) < 32 := by omega
          obtain ⟨y, hy1, hy2, hy3, hy4⟩ := cls_at 7 (by decide) j (show j < (hqC 7).length from hjn)
          have hy1' : hq7[j]? = some (y : Int) := hy1
          have hn : IntKind.i64.wrap (92 + (j : Int)) = hc (y : Int) := by rw [wrap_i64, hy4]; show _ = 92 + (j : Int); omega
          have HX := hid (show CdI w g (pr 2 ++ hq7.take (j + 1)) ((wr.drew.setCell ⟨g, y * 2, none⟩ (.int .i64 (hc (y : Int)))).setCell ⟨g, y * 2 + 1, none⟩ (.int .i64 7)) from by
            have := (HJ.out.step (Q.refl wr).drew).next hy2
            rw [hy3] at this
            rw [List.take_add_one, hy1', Option.toList_some, ← List.append_assoc]
            exact this)
          have HY := hid (show Blk ((wr.drew.setCell ⟨g, y * 2, none⟩ (.int .i64 (hc (y : Int)))).setCell ⟨g, y * 2 + 1, none⟩ (.int .i64 7)) c 124 #[.int .i64 7, .int .i64 92, .string (strOfNums hq7)] from (HB.out.drew.setOther (by have := HN.out; omega)).setOther (by have := HN.out; omega))
          have H1 := hid hy1'
          have H2 := hid hy2
          have H3 := hid hn
          clear hy1 hy1' hy2 hy3 hy4 hn
          go_wp2_with fail
          generalize hR : Code.region 8 _ true = C
          have eR : C = Code.region 8 (RofN Try.f99 8) true := hR.symm.trans (by kernel_rfl)
          clear hR
          subst eR
          refine wp_region_noPanic ?_
          refine rg8 g c j y 7 92 (hc (y : Int)) hq7 wr _ (fun c a d v w h => h) H1.out H2.out H3.out ⟨HB.out.cell 0, HB.out.cell 1, HB.out.cell 2⟩ (by have := HN.out; omega) ((HJ.out.b.cell _).trans (cell36 H2.out 0 (by omega))) ((HJ.out.b.cell _).trans (cell36 H2.out 1 (by omega))) (HJ.out.b.frozen) ?_
          clear HJ HB
          generalize World.setCell (World.setCell wr.drew _ _) _ _ = w3 at *
          refine NoPanic.normal ?_
          refine ‹∀ a w, Code.wp Try.prog _ _ a w → _› _ _ ?_
          go_wp2
          go_roundw
          case rel => exact ⟨j + 1, by omega, by go_num, HX.out, HY.out⟩
          case measure => simp [intOf]; omega
        · obtain rfl : j = 32 := by omega
          go_wp2_with fail
          go_roundw
          case rel => exact ⟨3, by omega, rfl, HJ.out⟩
          case measure => simp [intOf]
    · have hlen : (strOfNums hq8).size = 6 := by rw [str_len]; rfl
      have hix : ∀ W, (Instr.index 125 (.agg (clC 20 92 248 32512)) (.int .i64 3)).run Try.prog W = .ok (.agg #[.int .i64 8, .int .i64 248, .string (strOfNums hq8)]) W := fun W => by kernel_rfl
      go_wp2_with fail
      generalize hW : World.alloc wr _ = W1
      have HJ := hid (show CdI w g (pr 3 ++ hq8.take 0) W1 from by rw [List.take_zero, List.append_nil, ← hW]; exact HI.out.step ((Q.refl wr).alloc _))
      have HB := hid (show Blk W1 wr.heap.size 124 #[.int .i64 8, .int .i64 248, .string (strOfNums hq8)] from by rw [← hW]; exact blk_new wr _ 124)
      have HN := hid (show g < wr.heap.size from (HI.out.b).lt)
      clear hW HI
      generalize wr.heap.size = c at *
      clear wr
      go_loopw [12] (fun i wr => ∃ j : Nat, j ≤ 6 ∧ i = .int .i64 j ∧ CdI w g (pr 3 ++ hq8.take j) wr ∧ Blk wr c 124 #[.int .i64 8, .int .i64 248, .string (strOfNums hq8)]) (fun i _ => ((6 : Int) - intOf i).toNat)
      case atStart => exact ⟨0, by omega, rfl, HJ.out, HB.out⟩
      case round =>
        clear HJ HB
        obtain ⟨j, hj, rfl, hJ, hB⟩ := hrel
        have HJ := hid hJ
        have HB := hid hB
        clear hJ hB
        by_cases hjn : j < 6
        · have hji : (j : Int) < 6 := by omega
          obtain ⟨y, hy1, hy2, hy3, hy4⟩ := cls_at 8 (by decide) j (show j < (hqC 8).length from hjn)
          have hy1' : hq8[j]? = some (y : Int) := hy1
          have hn : IntKind.i64.wrap (248 + (j : Int)) = hc (y : Int) := by rw [wrap_i64, hy4]; show _ = 248 + (j : Int); omega
          have HX := hid (show CdI w g (pr 3 ++ hq8.take (j + 1)) ((wr.drew.setCell ⟨g, y * 2, none⟩ (.int .i64 (hc (y : Int)))).setCell ⟨g, y * 2 + 1, none⟩ (.int .i64 8)) from by
            have := (HJ.out.step (Q.refl wr).drew).next hy2
            rw [hy3] at this
            rw [List.take_add_one, hy1', Option.toList_some, ← List.append_assoc]
            exact this)
          have HY := hid (show Blk ((wr.drew.setCell ⟨g, y * 2, none⟩ (.int .i64 (hc (y : Int)))).setCell ⟨g, y * 2 + 1, none⟩ (.int .i64 8)) c 124 #[.int .i64 8, .int .i64 248, .string (strOfNums hq8)] from (HB.out.drew.setOther (by have := HN.out; omega)).setOther (by have := HN.out; omega))
          have H1 := hid hy1'
          have H2 := hid hy2
          have H3 := hid hn
          clear hy1 hy1' hy2 hy3 hy4 hn
          go_wp2_with fail
          generalize hR : Code.region 8 _ true = C
          have eR : C = Code.region 8 (RofN Try.f99 8) true := hR.symm.trans (by kernel_rfl)
          clear hR
          subst eR
          refine wp_region_noPanic ?_
          refine rg8 g c j y 8 248 (hc (y : Int)) hq8 wr _ (fun c a d v w h => h) H1.out H2.out H3.out ⟨HB.out.cell 0, HB.out.cell 1, HB.out.cell 2⟩ (by have := HN.out; omega) ((HJ.out.b.cell _).trans (cell36 H2.out 0 (by omega))) ((HJ.out.b.cell _).trans (cell36 H2.out 1 (by omega))) (HJ.out.b.frozen) ?_
          clear HJ HB
          generalize World.setCell (World.setCell wr.drew _ _) _ _ = w3 at *
          refine NoPanic.normal ?_
          refine ‹∀ a w, Code.wp Try.prog _ _ a w → _› _ _ ?_
          go_wp2
          go_roundw
          case rel => exact ⟨j + 1, by omega, by go_num, HX.out, HY.out⟩
          case measure => simp [intOf]; omega
        · obtain rfl : j = 6 := by omega
          go_wp2_with fail
          go_roundw
          case rel => exact ⟨4, by omega, rfl, HJ.out⟩
          case measure => simp [intOf]
    · have hlen : (strOfNums hq15).size = 182 := by rw [str_len]; rfl
      have hix : ∀ W, (Instr.index 125 (.agg (clC 20 92 248 32512)) (.int .i64 4)).run Try.prog W = .ok (.agg #[.int .i64 15, .int .i64 32512, .string (strOfNums hq15)]) W := fun W => by kernel_rfl
      go_wp2_with fail
      generalize hW : World.alloc wr _ = W1
      have HJ := hid (show CdI w g (pr 4 ++ hq15.take 0) W1 from by rw [List.take_zero, List.append_nil, ← hW]; exact HI.out.step ((Q.refl wr).alloc _))
      have HB := hid (show Blk W1 wr.heap.size 124 #[.int .i64 15, .int .i64 32512, .string (strOfNums hq15)] from by rw [← hW]; exact blk_new wr _ 124)
      have HN := hid (show g < wr.heap.size from (HI.out.b).lt)
      clear hW HI
      generalize wr.heap.size = c at *
      clear wr
      go_loopw [12] (fun i wr => ∃ j : Nat, j ≤ 182 ∧ i = .int .i64 j ∧ CdI w g (pr 4 ++ hq15.take j) wr ∧ Blk wr c 124 #[.int .i64 15, .int .i64 32512, .string (strOfNums hq15)]) (fun i _ => ((182 : Int) - intOf i).toNat)
      case atStart => exact ⟨0, by omega, rfl, HJ.out, HB.out⟩
      case round =>
        clear HJ HB
        obtain ⟨j, hj, rfl, hJ, hB⟩ := hrel
        have HJ := hid hJ
        have HB := hid hB
        clear hJ hB
        by_cases hjn : j < 182
        · have hji : (j : Int) < 182 := by omega
          obtain ⟨y, hy1, hy2, hy3, hy4⟩ := cls_at 15 (by decide) j (show j < (hqC 15).length from hjn)
          have hy1' : hq15[j]? = some (y : Int) := hy1
          have hn : IntKind.i64.wrap (32512 + (j : Int)) = hc (y : Int) := by rw [wrap_i64, hy4]; show _ = 32512 + (j : Int); omega
          have HX := hid (show CdI w g (pr 4 ++ hq15.take (j + 1)) ((wr.drew.setCell ⟨g, y * 2, none⟩ (.int .i64 (hc (y : Int)))).setCell ⟨g, y * 2 + 1, none⟩ (.int .i64 15)) from by
            have := (HJ.out.step (Q.refl wr).drew).next hy2
            rw [hy3] at this
            rw [List.take_add_one, hy1', Option.toList_some, ← List.append_assoc]
            exact this)
          have HY := hid (show Blk ((wr.drew.setCell ⟨g, y * 2, none⟩ (.int .i64 (hc (y : Int)))).setCell ⟨g, y * 2 + 1, none⟩ (.int .i64 15)) c 124 #[.int .i64 15, .int .i64 32512, .string (strOfNums hq15)] from (HB.out.drew.setOther (by have := HN.out; omega)).setOther (by have := HN.out; omega))
          have H1 := hid hy1'
          have H2 := hid hy2
          have H3 := hid hn
          clear hy1 hy1' hy2 hy3 hy4 hn
          go_wp2_with fail
          generalize hR : Code.region 8 _ true = C
          have eR : C = Code.region 8 (RofN Try.f99 8) true := hR.symm.trans (by kernel_rfl)
          clear hR
          subst eR
          refine wp_region_noPanic ?_
          refine rg8 g c j y 15 32512 (hc (y : Int)) hq15 wr _ (fun c a d v w h => h) H1.out H2.out H3.out ⟨HB.out.cell 0, HB.out.cell 1, HB.out.cell 2⟩ (by have := HN.out; omega) ((HJ.out.b.cell _).trans (cell36 H2.out 0 (by omega))) ((HJ.out.b.cell _).trans (cell36 H2.out 1 (by omega))) (HJ.out.b.frozen) ?_
          clear HJ HB
          generalize World.setCell (World.setCell wr.drew _ _) _ _ = w3 at *
          refine NoPanic.normal ?_
          refine ‹∀ a w, Code.wp Try.prog _ _ a w → _› _ _ ?_
          go_wp2
          go_roundw
          case rel => exact ⟨j + 1, by omega, by go_num, HX.out, HY.out⟩
          case measure => simp [intOf]; omega
        · obtain rfl : j = 182 := by omega
          go_wp2_with fail
          go_roundw
          case rel => exact ⟨5, by omega, rfl, HJ.out⟩
          case measure => simp [intOf]
    · obtain ⟨hq, ⟨cs, hz, hs⟩, hb, hn⟩ := HI.out
      clear HI
      have HQ := hid hq
      have HB := hid (show wr.heap[g]? = some (.cells cdA.toArray 143 (0, 0)) from hb)
      have HZ := hid (show wr.heap[w.heap.size]? = some (.cells cs 143 (0, 0)) from hz)
      have HS := hid (show cs.size = cdA.toArray.size from hs.trans (cdT_size _).symm)
      have HI := hid (show (Try.prog.info? 143).map (·.size) = some cdA.toArray.size from by rw [show cdA.toArray.size = 512 from cdT_size _]; kernel_rfl)
      have HO := hid (show cdA.toArray.all (·.oneCell') = true from cdT_one _)
      clear hq hz hs hb
      go_wp2_with (first
        | (refine wpList_load_row rfl 143 _ rfl g rfl 143 _ (0, 0) _ HB.out Try.underlying143 rfl HI.out ?_)
        | (refine wpList_store_row rfl 143 _ _ rfl w.heap.size _ rfl rfl 143 _ HZ.out HI.out HS.out HO.out ?_; refine Hid.out ?_))
      refine hid ?_
      generalize hw7 : World.setRow _ _ _ = w7
      have k7 : Q w w7 := by rw [← hw7]; exact ((Keep.ofQ (F := fun _ => False) HQ.out).setRow _ _ (.inr (Nat.le_refl _))).toQ (fun _ _ => id)
      have b7 : w7.heap[w.heap.size]? = some (.cells cdA.toArray 143 (0, 0)) := by rw [← hw7]; exact setRow_heap _ _ _ _ 143 _ HZ.out
      clear hw7
      go_wp2
      exact ret_arr rfl rfl w.heap.size _ Try.underlying143 HI.out rfl b7 ⟨rfl, k7⟩
end Go.Proofs.Ytehejibllkmflaa
