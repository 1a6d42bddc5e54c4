/-
  The document's framing; a request as the document has it: contracts that the statements' walks use.
-/
import Derived.Test.YtclapheglgiokaaDoorWrB
import Derived.Test.YtclapheglgiokaaDoorRnW
import Derived.Deep.Cut
import Derived.Great.BuildSlice
namespace Go.Proofs.YtclapheglgiokaaDoor
open Go.RowKit
set_option linter.unusedVariables false
set_option maxRecDepth 20000

set_option maxHeartbeats 4000000 in
theorem rframing_any (m s a p : ByteArray) (x : Sv) (n : Int) (b : Bool) (w : World) : Calls Tryd.prog 16 #[.agg (rqC m s a p x n), .bool b] w fun e w' => e = .returned (.int .i64 (frm m n b)) ∧ Q w w' := by
  have HQ := hid ((Q.refl w).alloc (.cells (rqC m s a p x n) 34))
  have HB := hid (blk_new w (rqC m s a p x n) 34)
  have e1 : (m.toList == [80, 79, 83, 84]) = eqS m kPOST := beq_lit m _
  have e2 : (m.toList == [80, 85, 84]) = eqS m kPUT := beq_lit m _
  have e3 : (m.toList == [80, 65, 84, 67, 72]) = eqS m kPATCH := beq_lit m _
  have hf : frm m n b = if 0 ≤ n then 1 else if b then 2 else if eqS m kPOST || eqS m kPUT || eqS m kPATCH then 1 else 0 := rfl
  generalize frm m n b = f at *
  generalize eqS m kPOST = b1 at *
  generalize eqS m kPUT = b2 at *
  generalize eqS m kPATCH = b3 at *
  have HF := hid hf
  clear hf
  go_enter Tryd.func16, Tryd.ntmps16
  go_upto_region 1 with fail
  generalize hW : World.alloc w _ = W0 at *
  clear hW
  generalize w.heap.size = b0 at *
  have c0 : W0.cell? ⟨b0, 0, none⟩ = some (.string m) := HB.out.cell 0
  have c5 : W0.cell? ⟨b0, 5, none⟩ = some (.int .i64 n) := HB.out.cell 5
  clear HB
  by_cases hn : 0 ≤ n
  · have HG := hid (HF.out.trans (if_pos hn))
    clear e1 e2 e3 HF
    go_wp2
    go_ret
    exact ⟨by rw [HG.out]; rfl, HQ.out⟩
  · replace HF := hid (HF.out.trans (if_neg hn))
    cases b with
    | true =>
      clear e1 e2 e3
      go_wp2
      go_ret
      exact ⟨by rw [HF.out]; rfl, HQ.out⟩
    | false =>
      cases b1
      · cases b2
        · cases b3
          all_goals
            go_wp2
            go_ret
            exact ⟨by rw [HF.out]; rfl, HQ.out⟩
        · go_wp2
          go_ret
          exact ⟨by rw [HF.out]; rfl, HQ.out⟩
      · go_wp2
        go_ret
        exact ⟨by rw [HF.out]; rfl, HQ.out⟩
theorem info34 (m s a p : ByteArray) (x : Sv) (n : Int) : (Tryd.prog.info? 34).map (·.size) = some (rqC m s a p x n).size := by kernel_rfl
theorem ret_34 {fn : Func} {p : Tmp} {a : Act} {w : World} {R : Ending → World → Prop} (hr : fn.results = #[.cell p 34]) (hd : a.defers = [])
    (g : Nat) (cs : Array Value) (hi : (Tryd.prog.info? 34).map (·.size) = some cs.size) (hp : a.tmps.getD p undef = .pointer (some ⟨g, 0, none⟩)) (hb : w.heap[g]? = some (.cells cs 34 (0, 0))) (hR : R (.returned (.agg cs)) w) : bodyPost Tryd.prog fn R .ret a w :=
  ⟨hd, _, results_cell_row hr _ w g 34 _ (0, 0) _ hp hb Tryd.underlying34 rfl hi, hR⟩
set_option maxHeartbeats 4000000 in
theorem of_any (m s a p : ByteArray) (x : Sv) (n : Int) (w : World) : Calls Tryd.prog 13 #[.agg (rqC m s a p x n)] w fun e w' => e = .returned (.agg (rqC m s a p x n)) ∧ Q w w' := by
  have q0 := (Q.refl w).alloc (.cells (rqC m s a p x n) 24)
  have HQ := hid (q0.alloc (.cells (rqC ⟨#[]⟩ ⟨#[]⟩ ⟨#[]⟩ ⟨#[]⟩ ⟨none, 0, 0⟩ 0) 34))
  have HB := hid ((blk_new w (rqC m s a p x n) 24).q ((Q.refl _).alloc (.cells (rqC ⟨#[]⟩ ⟨#[]⟩ ⟨#[]⟩ ⟨#[]⟩ ⟨none, 0, 0⟩ 0) 34)))
  have HB2 := hid (show Blk ((w.alloc (.cells (rqC m s a p x n) 24)).alloc (.cells (rqC ⟨#[]⟩ ⟨#[]⟩ ⟨#[]⟩ ⟨#[]⟩ ⟨none, 0, 0⟩ 0) 34)) (w.heap.size + 1) 34 (rqC ⟨#[]⟩ ⟨#[]⟩ ⟨#[]⟩ ⟨#[]⟩ ⟨none, 0, 0⟩ 0) from by
    have := blk_new (w.alloc (.cells (rqC m s a p x n) 24)) (rqC ⟨#[]⟩ ⟨#[]⟩ ⟨#[]⟩ ⟨#[]⟩ ⟨none, 0, 0⟩ 0) 34
    rw [World.size_alloc] at this
    exact this)
  have HO := hid (show ∀ (m s a p : ByteArray) (x : Sv) (n : Int), (rqC m s a p x n).all (·.oneCell') = true from fun _ _ _ _ _ _ => by kernel_rfl)
  clear q0
  have HBS := hid (show w.heap.size ≤ w.heap.size + 1 from by omega)
  go_enter Tryd.func13, Tryd.ntmps13
  go_upto_region 1 with fail
  generalize hW : World.alloc (World.alloc w _) _ = W0 at *
  clear hW
  generalize w.heap.size + 1 = b2 at *
  generalize hb1 : w.heap.size = b1 at HB ⊢
  have HB1 := hid hb1
  clear hb1
  have c0 : W0.cell? ⟨b1, 0, none⟩ = some (.string m) := HB.out.cell 0
  have c1 : W0.cell? ⟨b1, 1, none⟩ = some (.string s) := HB.out.cell 1
  have c2 : W0.cell? ⟨b1, 2, none⟩ = some (.string a) := HB.out.cell 2
  have c3 : W0.cell? ⟨b1, 3, none⟩ = some (.string p) := HB.out.cell 3
  have c4 : W0.cell? ⟨b1, 4, none⟩ = some (.slice x.a x.n x.c) := HB.out.cell 4
  have c5 : W0.cell? ⟨b1, 5, none⟩ = some (.int .i64 n) := HB.out.cell 5
  go_wp2_with (refine Go.wpList_buildTo rfl 34 _ rfl _ rfl (rqC m s a p x n) (by kernel_rfl) ?_; refine wpList_store_row rfl 34 _ _ rfl b2 _ rfl rfl 34 _ HB2.out (info34 m s a p x n) rfl (HO.out m s a p x n) ?_; refine Hid.out ?_)
  refine hid ?_
  have BZ := hid (show (W0.setRow b2 (rqC m s a p x n)).heap[b2]? = some (.cells (rqC m s a p x n) 34 (0, 0)) from setRow_heap _ _ _ _ 34 _ HB2.out)
  have KZ := hid (show Keep (fun b => b = b2) W0 (W0.setRow b2 (rqC m s a p x n)) from (Keep.refl _ _).setRow _ _ (.inl rfl))
  have QZ := hid (show Q w (W0.setRow b2 (rqC m s a p x n)) from KZ.out.below HQ.out HQ.out.size (fun i e => by have := HBS.out; omega))
  generalize hWZ : World.setRow _ _ _ = WZ at *
  clear hWZ
  go_wp2
  exact ret_34 rfl rfl b2 _ (info34 m s a p x n) rfl BZ.out ⟨rfl, QZ.out⟩
end Go.Proofs.YtclapheglgiokaaDoor
