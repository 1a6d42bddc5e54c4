/-
  The document's Check: a contract that the statements' walks use.
-/
import Derived.Test.YtclapheglgiokaaDoorDoH
import Derived.Test.YtclapheglgiokaaDoorRnZ
import Derived.Deep.RegionLaw
import Derived.Deep.Cut
import Derived.Great.BuildSlice
import Derived.Great.Walk
import Derived.Deep.CutRange
namespace Go.Proofs.YtclapheglgiokaaDoor
open Go.RowKit
set_option linter.unusedVariables false
set_option maxRecDepth 20000

theorem fstE_take {l : List Fd} (h : fstE l = 0) (k : Nat) : fstE (l.take k) = 0 := by
  by_cases h0 : fstE (l.take k) = 0
  · exact h0
  · exfalso
    have h1 : fstS (l.take k) = (l.take k, fstE (l.take k)) := Prod.ext (fstS_one _) rfl
    generalize fstE (l.take k) = y at *
    have h2 : fstE l = y := by
      conv => lhs; rw [← List.take_append_drop k l]
      unfold fstE fstS
      rw [List.foldl_append]
      have h3 : (l.take k).foldl (fun (st : List Fd × Int) f => (st.1 ++ [f], orE st.2 (oneE st.1 f))) ([], 0) = (l.take k, y) := h1
      rw [h3]
      exact fstS_stop _ _ _ h0
    exact h0 (h2.symm.trans h)
theorem one_zero {l : List Fd} {k : Nat} {p : Fd} (h : fstE l = 0) (hp : l[k]? = some p) : oneE (l.take k) p = 0 := by
  have h1 := fstE_take h (k + 1)
  rw [take_snoc hp, fstE_snoc] at h1
  exact (orE_zero h1).2
theorem lenL_next {l : List Fd} {k : Nat} {p : Fd} (h : fstE l = 0) (hp : l[k]? = some p) : lenL (l.take (k + 1)) = if eqS p.1 kLen then lenO p.2 else lenL (l.take k) := by
  have hk : k < l.length := (List.getElem?_eq_some_iff.1 hp).1
  have h1 := one_zero h hp
  have hF := fine_of l k (by omega) (fstE_take h k)
  rw [take_snoc hp]
  cases he : eqS p.1 kLen with
  | true =>
    have h4 := (orE_zero (orE_zero (orE_zero h1).2).2).2
    rw [lnE_P _ p hF he] at h4
    rw [if_pos rfl]
    exact lenL_snoc_yes _ p he hF h4
  | false =>
    rw [if_neg (by decide)]
    exact lenL_snoc_no _ p he
theorem fnd_size {l : List Fd} (h : BdF l) (n : ByteArray) : ((fnd l n).getD ⟨#[]⟩).size ≤ 140737488355328 := by
  unfold fnd
  cases hf : l.find? (fun f => eqS f.1 n) with
  | none => exact Nat.zero_le _
  | some p => exact (h p (List.mem_of_find?_eq_some hf)).2
/-- The reading's own two requests, as the document has them. -/
structure RJ (w : World) (b1 b2 : Nat) (cs : Array Value) (W : World) : Prop where
  q : Q w W
  z : Blk W b1 34 rq0C
  b : Blk W b2 34 cs
  n1 : w.heap.size ≤ b1
  n2 : b1 < b2
theorem RJ.call {w W W' : World} {b1 b2 : Nat} {cs : Array Value} (h : RJ w b1 b2 cs W) (q : Q W W') : RJ w b1 b2 cs W' := ⟨h.q.trans q, h.z.q q, h.b.q q, h.n1, h.n2⟩
theorem RJ.keep {F : Nat → Prop} {w W W' : World} {b1 b2 : Nat} {cs : Array Value} (h : RJ w b1 b2 cs W) (k : Keep F W W') (hF : ∀ b, F b → w.heap.size ≤ b ∧ b ≠ b1 ∧ b ≠ b2) : RJ w b1 b2 cs W' :=
  ⟨k.below h.q h.q.size (fun i hi => (hF i hi).1), h.z.keep k (fun e => (hF _ e).2.1 rfl), h.b.keep k (fun e => (hF _ e).2.2 rfl), h.n1, h.n2⟩
theorem RJ.set {w W : World} {b1 b2 : Nat} {cs : Array Value} (h : RJ w b1 b2 cs W) (j : Nat) (v : Value) : RJ w b1 b2 (cs.setIfInBounds j v) (W.setCell ⟨b2, j, none⟩ v) := by
  have h1 := h.n1
  have h2 := h.n2
  exact ⟨h.q.setCell (p := ⟨b2, j, none⟩) (by show w.heap.size ≤ b2; omega) _, h.z.setOther (by omega), h.b.set j v, h.n1, h.n2⟩
theorem info31 (m s a p : ByteArray) (x : Sv) (n : Int) : (Tryd.prog.info? 34).map (·.size) = some (rqC m s a p x n).size := by kernel_rfl
theorem res7 (tmps : Array Value) (w : World) (g : Nat) (e : Int) (m s a p : ByteArray) (x : Sv) (n : Int) (h4 : tmps.getD 6 undef = .pointer (some ⟨g, 0, none⟩)) (h5 : tmps.getD 7 undef = .int .i64 e) (hb : w.heap[g]? = some (.cells (rqC m s a p x n) 34 (0, 0))) :
    (results Tryd.f14 tmps).run Tryd.prog w = .ok (.tuple #[.agg (rqC m s a p x n), .int .i64 e]) w := by
  have h4' : tmps[6]?.getD undef = .pointer (some ⟨g, 0, none⟩) := by simpa using h4
  have h5' : tmps[7]?.getD undef = .int .i64 e := by simpa using h5
  have hl := run_loadVar_row w g 34 34 _ (0, 0) _ hb Tryd.underlying34 rfl (info31 m s a p x n)
  simp [results, Tryd.results14, h4', h5', asAddr, hl]

section
variable {ops : Array Oper} {rest : List Oper} {o : Oper} {a : Act} {w : World} {K : Act → World → Prop} {R : Exit → Act → World → Prop} {E : Prop}
/-- append by its run's equation, as one step of a region that draws. -/
theorem step_append (hg : o.guard = none) (s x : Operand) (t1 t2 : TypeId) (hop : o.op = Op.call { callee := Callee.builtin Builtin.append, args := #[s, x], argTypes := #[t1, t2] })
    {sv xv v : Value} {w2 : World} (hs : a.eval s = sv) (hx : a.eval x = xv) (hr : (Builtin.append_ #[t1, t2] o.type #[sv, xv]).run Tryd.prog w = .ok v w2) (hK : K (a.put o.dst v) w2) :
    if Region.wanted o (yielded ops a.tmps) = true then Oper.wp Tryd.prog o a w K R else E := by
  have hw : Region.wanted o (yielded ops a.tmps) = true := by simp [Region.wanted, hg]
  rw [if_pos hw]
  unfold Oper.wp
  simp [execOp, hop, resolve, invoke, builtin, hs, hx, hr, Result.andThen]
  exact hK
end

set_option maxHeartbeats 40000000 in
theorem dcheck_any (x : Sv) (l : List Fd) (c s : Int) (w : World) (h : Fin w x l) : Calls Tryd.prog 14 #[.slice x.a x.n x.c, .int .i64 c, .int .i64 s] w fun e w' => ∃ y : Sv, e = .returned (chV l c s y) ∧ Q w w' ∧ RowG w' y (chR l c s).fs ∧ New w.heap.size y := by
  obtain ⟨xa, xn, xc⟩ := x
  have hl := h.len
  dsimp only at hl
  subst hl
  have HX := hid h
  have HBAD := hid (show ∀ y, chE l c s = y → y ≠ 0 → chV l c s ⟨none, 0, 0⟩ = .tuple #[.agg rq0C, .int .i64 y] ∧ (chR l c s).fs = [] from fun y e hy => by
    unfold chV chR
    rw [if_neg (by rw [e]; exact hy), e]
    exact ⟨rfl, rfl⟩)
  have HGOOD := hid (show chE l c s = 0 → ∀ y, chV l c s y = .tuple #[.agg (rqC (metO l) (schO l) (autO l) (patO l) y (lenL l)), .int .i64 0] ∧ (chR l c s).fs = plnL l from fun e y => by
    unfold chV chR
    rw [if_pos e, e]
    exact ⟨rfl, rfl⟩)
  have HM := hid (fun W (q : Q w W) => much_any ⟨xa, l.length, xc⟩ l c s W (h.q q))
  have HO := hid (show ∀ (m s a p : ByteArray) (x : Sv) (n : Int), (rqC m s a p x n).all (·.oneCell') = true from fun _ _ _ _ _ _ => by kernel_rfl)
  have HFI := hid (fun n W (q : Q w W) => find_any ⟨xa, l.length, xc⟩ n l W (h.q q).s rfl (by have := h.b; omega))
  have HON := hid (fun k p1 p2 W (q : Q w W) (hp : l[k]? = some (p1, p2)) => one_any ⟨xa, l.length, xc⟩ l k p1 p2 W (h.q q) hp)
  dsimp only at HM HFI HON
  have hE : chE l c s = orE (if muc l c s then 185 else 0) (orE (fstE l) (orE (metE l) (orE (midE l) (autE l)))) := rfl
  have HQ0 := hid ((Q.refl w).alloc (.cells rq0C 34))
  have HZ0 := hid (blk_new w rq0C 34)
  have HBS := hid (Nat.le_refl w.heap.size)
  have HSZ := hid (Fin.d h)
  clear h
  go_enter Tryd.func14, Tryd.ntmps14
  go_wp2_with fail
  generalize hW : World.alloc w _ = W0 at *
  clear hW
  generalize hb1 : w.heap.size = b1 at HZ0 HBS ⊢
  have HN1 := hid (show w.heap.size ≤ b1 from by omega)
  clear hb1 HBS
  refine (HM.out _ HQ0.out).mono ?_
  rintro e w1 ⟨rfl, q1⟩
  have Q1 := hid (HQ0.out.trans q1)
  have Z1 := hid (HZ0.out.q q1)
  clear q1 HQ0 HZ0 HM
  cases hm : muc l c s with
  | true =>
    have HE8 := hid (show chE l c s = 185 from by rw [hE, hm]; rfl)
    clear hE hm HFI HON HSZ HX
    have HG := hid (HBAD.out 185 (HE8.out) (by first | decide | assumption))
    go_wp2_with (first | (refine wpList_buildTo rfl 34 _ rfl _ rfl rq0C (by kernel_rfl) ?_; refine wpList_store_row rfl 34 _ _ rfl b1 _ rfl rfl 34 _ Z1.out (info31 _ _ _ _ _ _) rfl (HO.out _ _ _ _ _ _) ?_; rw [setRow_self Z1.out]))
    refine bodyPost_ret (res7 _ _ b1 185 _ _ _ _ _ _ rfl rfl Z1.out) rfl ?_
    exact ⟨⟨none, 0, 0⟩, by rw [HG.out.1], Q1.out, by rw [HG.out.2]; exact sub_nil _ _ _, fun b e => by cases e⟩
  | false =>
    rw [hm, if_neg (by decide), orE_ok rfl] at hE
    have HE := hid hE
    clear hm hE
    go_wp2_with fail
    go_loopw [8, 9] (fun i b wr => ∃ k : Nat, k ≤ l.length ∧ i = .int .i64 (k : Int) ∧ fstE (l.take k) = 0 ∧ Q w wr ∧ Blk wr b1 34 rq0C) (fun i _ _ => l.length - (intOf i).toNat)
    case atStart => exact ⟨0, by omega, rfl, rfl, Q1.out, Z1.out⟩
    case round =>
      obtain ⟨k, hk, rfl, h0, hq, hz⟩ := hrel
      have HQ := hid hq
      have HZ := hid hz
      by_cases hlt : k < l.length
      · obtain ⟨⟨p1, p2⟩, hp⟩ : ∃ p, l[k]? = some p := ⟨l[k], List.getElem?_eq_getElem hlt⟩
        have HO1 := hid (HON.out k p1 p2 wr hq hp)
        have HAT := hid (fstE_at hp h0)
        have HNX := hid (fstE_next hp h0)
        have hki : (k : Int) < (l.length : Int) := by omega
        have hk0 : (0 : Int) ≤ (k : Int) := by omega
        have hkb : (k : Int) < 8796093022208 := by have := HX.out.b; omega
        clear hq h0 hp hz
        generalize oneE (l.take k) (p1, p2) = y at *
        by_cases hy : y = 0
        · subst hy
          have HN := hid (HNX.out rfl)
          clear HAT HNX
          go_wp2_with (go_at_call 39; refine HO1.out.mono ?_; rintro e w3 ⟨rfl, q3⟩; have Q3 := hid (HQ.out.trans q3); have Z3 := hid (HZ.out.q q3); clear q3)
          go_roundw
          case rel => exact ⟨k + 1, by omega, by go_num, HN.out, Q3.out, Z3.out⟩
          case measure => simp [intOf]; omega
        · have HE8 := hid (show chE l c s = y from by rw [HE.out, HAT.out hy, orE_no hy])
          have hyb : (y != 0) = true := by simp [hy]
          clear HAT HNX HFI HON HX
          go_wp2_with fail
          refine HO1.out.mono ?_
          rintro e w3 ⟨rfl, q3⟩
          have Q3 := hid (HQ.out.trans q3)
          have Z3 := hid (HZ.out.q q3)
          clear q3 HO1
          go_upto_region 8 with fail
          have HG := hid (HBAD.out y HE8.out hy)
          go_wp2_with (refine wpList_buildTo rfl 34 _ rfl _ rfl rq0C (by kernel_rfl) ?_; refine Hid.out ?_)
          refine hid ?_
          refine Go.Great.wpList_runTo rfl (some 37) rfl (.int .i64 y) w3 rfl ?_
          refine wpList_store_row rfl 34 _ _ rfl b1 _ rfl rfl 34 _ Z3.out (info31 _ _ _ _ _ _) rfl (HO.out _ _ _ _ _ _) ?_
          rw [setRow_self Z3.out]
          go_wp2_with fail
          refine bodyPost_ret (res7 _ _ b1 y _ _ _ _ _ _ rfl rfl Z3.out) rfl ?_
          exact ⟨⟨none, 0, 0⟩, by rw [HG.out.1], Q3.out, by rw [HG.out.2]; exact sub_nil _ _ _, fun b e => by cases e⟩
      · have hki : ¬ (k : Int) < (l.length : Int) := by omega
        have HF0 := hid (show fstE l = 0 from by rw [List.take_of_length_le (by omega)] at h0; exact h0)
        replace HE := hid (show chE l c s = orE (metE l) (orE (midE l) (autE l)) from by rw [HE.out, HF0.out, orE_ok rfl])
        have R0 := hid (show RJ w b1 wr.heap.size (rqC ⟨#[]⟩ ⟨#[]⟩ ⟨#[]⟩ ⟨#[]⟩ ⟨none, 0, 0⟩ (-1)) (wr.alloc (.cells (rqC ⟨#[]⟩ ⟨#[]⟩ ⟨#[]⟩ ⟨#[]⟩ ⟨none, 0, 0⟩ (-1)) 34)) from
          ⟨hq.alloc _, hz.q ((Q.refl _).alloc _), blk_new wr _ 34, HN1.out, hz.lt⟩)
        clear h0 hq hz hk hki HON Q1 Z1 HQ HZ
        go_wp2_with fail
        generalize hW : World.alloc wr _ = W2 at *
        clear hW
        generalize wr.heap.size = b2 at *
        refine (HFI.out kMet _ R0.out.q).mono ?_
        rintro e w3 ⟨rfl, q3⟩
        have R3 := hid (R0.out.call q3)
        clear q3 R0
        have hmE : metE l = match fnd l kMet with | none => 183 | some m => if tkS m then 0 else 182 := rfl
        cases hf : fnd l kMet with
        | none =>
          have HE8 := hid (show chE l c s = 183 from by rw [HE.out, hmE, hf]; rfl)
          rw [vaA_none]
          clear HE hmE hf HFI HX
          have HG := hid (HBAD.out 183 (HE8.out) (by first | decide | assumption))
          go_wp2_with (first | (refine wpList_buildTo rfl 34 _ rfl _ rfl rq0C (by kernel_rfl) ?_; refine wpList_store_row rfl 34 _ _ rfl b1 _ rfl rfl 34 _ R3.out.z (info31 _ _ _ _ _ _) rfl (HO.out _ _ _ _ _ _) ?_; rw [setRow_self R3.out.z]))
          refine bodyPost_ret (res7 _ _ b1 183 _ _ _ _ _ _ rfl rfl R3.out.z) rfl ?_
          exact ⟨⟨none, 0, 0⟩, by rw [HG.out.1], R3.out.q, by rw [HG.out.2]; exact sub_nil _ _ _, fun b e => by cases e⟩
        | some m =>
          have hms : m.size ≤ 140737488355328 := by have := fnd_size HSZ.out kMet; rw [hf] at this; exact this
          have hmO : metO l = m := by unfold metO; rw [hf]; rfl
          rw [hf] at hmE
          dsimp only at hmE
          rw [vaA_some]
          have HTK := hid (fun W => rtoken_any m W hms)
          go_wp2_with fail
          refine (HTK.out _).mono ?_
          rintro e w4 ⟨rfl, rfl⟩
          cases ht : tkS m with
          | false =>
            have HE8 := hid (show chE l c s = 182 from by rw [HE.out, hmE, ht]; rfl)
            clear HE hmE hf HFI HX hms hmO HTK ht
            have HG := hid (HBAD.out 182 (HE8.out) (by first | decide | assumption))
            go_wp2_with (first | (refine wpList_buildTo rfl 34 _ rfl _ rfl rq0C (by kernel_rfl) ?_; refine wpList_store_row rfl 34 _ _ rfl b1 _ rfl rfl 34 _ R3.out.z (info31 _ _ _ _ _ _) rfl (HO.out _ _ _ _ _ _) ?_; rw [setRow_self R3.out.z]))
            refine bodyPost_ret (res7 _ _ b1 182 _ _ _ _ _ _ rfl rfl R3.out.z) rfl ?_
            exact ⟨⟨none, 0, 0⟩, by rw [HG.out.1], R3.out.q, by rw [HG.out.2]; exact sub_nil _ _ _, fun b e => by cases e⟩
          | true =>
            replace HE := hid (show chE l c s = orE (midE l) (autE l) from by rw [HE.out, hmE, ht, if_pos rfl, orE_ok rfl])
            have hsz := fnd_size HSZ.out kPat
            have HPA := hid (fun W => rpath_any m (patO l) W hsz)
            have hmid : midE l = if eqS m kCNT then (if (fnd l kSch).isSome || (fnd l kPat).isSome then 182 else if (fnd l kAut).isSome then 0 else 183) else (if (fnd l kSch).isSome && (fnd l kPat).isSome then (if (eqS (schO l) kHttp || eqS (schO l) kHttps) && paS m (patO l) then 0 else 182) else 183) := by
              unfold midE tunE tarE; rw [hmO]
            have hvs : vaA (fnd l kSch) = .tuple #[.string (schO l), .bool (fnd l kSch).isSome] := rfl
            have hvp : vaA (fnd l kPat) = .tuple #[.string (patO l), .bool (fnd l kPat).isSome] := rfl
            have hva : vaA (fnd l kAut) = .tuple #[.string ((fnd l kAut).getD ⟨#[]⟩), .bool (fnd l kAut).isSome] := rfl
            have hvh : vaA (fnd l kHos) = .tuple #[.string ((fnd l kHos).getD ⟨#[]⟩), .bool (fnd l kHos).isSome] := rfl
            have hau : ((fnd l kAut).isSome = true → autW l = some ((fnd l kAut).getD ⟨#[]⟩)) ∧ ((fnd l kAut).isSome = false → autW l = fnd l kHos) := by
              have e : ∀ o : Option ByteArray, autW l = (match o with | some a => some a | none => fnd l kHos) → ((o.isSome = true → autW l = some (o.getD ⟨#[]⟩)) ∧ (o.isSome = false → autW l = fnd l kHos)) := by
                intro o h
                cases o with
                | none => exact ⟨fun h => (by cases h), fun _ => h⟩
                | some v => exact ⟨fun _ => h, fun h => (by cases h)⟩
              exact e _ rfl
            have HSC := hid (HFI.out kSch)
            have HPT := hid (HFI.out kPat)
            have HAT := hid (HFI.out kAut)
            have HHS := hid (HFI.out kHos)
            rw [hvs] at HSC
            rw [hvp] at HPT
            rw [hva] at HAT
            rw [hvh] at HHS
            have HAU0 := hid hau
            rw [hmO] at HGOOD
            have HMID := hid hmid
            have HSA := hid (fnd_size HSZ.out kAut)
            have HSH := hid (fnd_size HSZ.out kHos)
            have hC1 : (m.toList == [67, 79, 78, 78, 69, 67, 84]) = eqS m kCNT := beq_lit _ _
            have hS1 : ((schO l).toList == [104, 116, 116, 112]) = eqS (schO l) kHttp := beq_lit _ _
            have hS2 : ((schO l).toList == [104, 116, 116, 112, 115]) = eqS (schO l) kHttps := beq_lit _ _
            clear hmE hmid hvs hvp hva hvh hau HFI HTK ht hms hmO hsz hf
            generalize schO l = sc at *
            generalize patO l = pa at *
            generalize hA1 : (fnd l kAut).getD ⟨#[]⟩ = a1 at *
            generalize (fnd l kAut).isSome = ba at *
            generalize (fnd l kSch).isSome = bs at *
            generalize (fnd l kPat).isSome = bq at *
            clear hA1
            go_wp2_with fail
            refine (HSC.out _ R3.out.q).mono ?_
            rintro e w5 ⟨rfl, q5⟩
            have R5 := hid (R3.out.call q5)
            clear q5 R3
            go_wp2_with fail
            refine (HPT.out _ R5.out.q).mono ?_
            rintro e w6 ⟨rfl, q6⟩
            have R6 := hid (R5.out.call q6)
            clear q6 R5
            go_wp2_with fail
            refine (HAT.out _ R6.out.q).mono ?_
            rintro e w7 ⟨rfl, q7⟩
            have R7 := hid (R6.out.call q7)
            clear q7 R6 HSC HPT HAT
            go_upto_if 67 with fail
            go_cut [] from 66 (fun wc => wc = w7 ∧ midE l = 0)
            case first =>
              clear HHS HAU0 HSA HSH HGOOD HF0
              cases hcn : eqS m kCNT with
              | true =>
                rw [hcn] at hC1
                rw [hcn, if_pos rfl] at HMID
                clear hcn hS1 hS2 HPA
                cases bs
                · cases bq
                  · cases ba
                    · have HE8 := hid (show chE l c s = 183 from by rw [HE.out, HMID.out]; rfl)
                      clear HE HMID
                      have HG := hid (HBAD.out 183 (HE8.out) (by first | decide | assumption))
                      go_wp2_with (first | (refine wpList_buildTo rfl 34 _ rfl _ rfl rq0C (by kernel_rfl) ?_; refine wpList_store_row rfl 34 _ _ rfl b1 _ rfl rfl 34 _ R7.out.z (info31 _ _ _ _ _ _) rfl (HO.out _ _ _ _ _ _) ?_; rw [setRow_self R7.out.z]))
                      refine bodyPost_ret (res7 _ _ b1 183 _ _ _ _ _ _ rfl rfl R7.out.z) rfl ?_
                      exact ⟨⟨none, 0, 0⟩, by rw [HG.out.1], R7.out.q, by rw [HG.out.2]; exact sub_nil _ _ _, fun b e => by cases e⟩
                    · have HM0 := hid (show midE l = 0 from HMID.out)
                      clear HE HMID
                      go_wp2_with fail
                      go_meet
                      case rel => exact ⟨rfl, HM0.out⟩
                  · have HE8 := hid (show chE l c s = 182 from by rw [HE.out, HMID.out]; rfl)
                    clear HE HMID
                    have HG := hid (HBAD.out 182 (HE8.out) (by first | decide | assumption))
                    go_wp2_with (first | (refine wpList_buildTo rfl 34 _ rfl _ rfl rq0C (by kernel_rfl) ?_; refine wpList_store_row rfl 34 _ _ rfl b1 _ rfl rfl 34 _ R7.out.z (info31 _ _ _ _ _ _) rfl (HO.out _ _ _ _ _ _) ?_; rw [setRow_self R7.out.z]))
                    refine bodyPost_ret (res7 _ _ b1 182 _ _ _ _ _ _ rfl rfl R7.out.z) rfl ?_
                    exact ⟨⟨none, 0, 0⟩, by rw [HG.out.1], R7.out.q, by rw [HG.out.2]; exact sub_nil _ _ _, fun b e => by cases e⟩
                · have HE8 := hid (show chE l c s = 182 from by rw [HE.out, HMID.out]; rfl)
                  clear HE HMID
                  have HG := hid (HBAD.out 182 (HE8.out) (by first | decide | assumption))
                  go_wp2_with (first | (refine wpList_buildTo rfl 34 _ rfl _ rfl rq0C (by kernel_rfl) ?_; refine wpList_store_row rfl 34 _ _ rfl b1 _ rfl rfl 34 _ R7.out.z (info31 _ _ _ _ _ _) rfl (HO.out _ _ _ _ _ _) ?_; rw [setRow_self R7.out.z]))
                  refine bodyPost_ret (res7 _ _ b1 182 _ _ _ _ _ _ rfl rfl R7.out.z) rfl ?_
                  exact ⟨⟨none, 0, 0⟩, by rw [HG.out.1], R7.out.q, by rw [HG.out.2]; exact sub_nil _ _ _, fun b e => by cases e⟩
              | false =>
                rw [hcn] at hC1
                rw [hcn, if_neg (by decide)] at HMID
                clear hcn
                cases bs
                · have HE8 := hid (show chE l c s = 183 from by rw [HE.out, HMID.out]; rfl)
                  clear HE HMID HPA
                  have HG := hid (HBAD.out 183 (HE8.out) (by first | decide | assumption))
                  go_wp2_with (first | (refine wpList_buildTo rfl 34 _ rfl _ rfl rq0C (by kernel_rfl) ?_; refine wpList_store_row rfl 34 _ _ rfl b1 _ rfl rfl 34 _ R7.out.z (info31 _ _ _ _ _ _) rfl (HO.out _ _ _ _ _ _) ?_; rw [setRow_self R7.out.z]))
                  refine bodyPost_ret (res7 _ _ b1 183 _ _ _ _ _ _ rfl rfl R7.out.z) rfl ?_
                  exact ⟨⟨none, 0, 0⟩, by rw [HG.out.1], R7.out.q, by rw [HG.out.2]; exact sub_nil _ _ _, fun b e => by cases e⟩
                · cases bq
                  · have HE8 := hid (show chE l c s = 183 from by rw [HE.out, HMID.out]; rfl)
                    clear HE HMID HPA
                    have HG := hid (HBAD.out 183 (HE8.out) (by first | decide | assumption))
                    go_wp2_with (first | (refine wpList_buildTo rfl 34 _ rfl _ rfl rq0C (by kernel_rfl) ?_; refine wpList_store_row rfl 34 _ _ rfl b1 _ rfl rfl 34 _ R7.out.z (info31 _ _ _ _ _ _) rfl (HO.out _ _ _ _ _ _) ?_; rw [setRow_self R7.out.z]))
                    refine bodyPost_ret (res7 _ _ b1 183 _ _ _ _ _ _ rfl rfl R7.out.z) rfl ?_
                    exact ⟨⟨none, 0, 0⟩, by rw [HG.out.1], R7.out.q, by rw [HG.out.2]; exact sub_nil _ _ _, fun b e => by cases e⟩
                  · generalize eqS sc kHttp = h1 at *
                    generalize eqS sc kHttps = h2 at *
                    generalize paS m pa = h3 at *
                    cases h1
                    · cases h2
                      · have HE8 := hid (show chE l c s = 182 from by rw [HE.out, HMID.out]; rfl)
                        clear HE HMID HPA
                        have HG := hid (HBAD.out 182 (HE8.out) (by first | decide | assumption))
                        go_wp2_with (first | (refine wpList_buildTo rfl 34 _ rfl _ rfl rq0C (by kernel_rfl) ?_; refine wpList_store_row rfl 34 _ _ rfl b1 _ rfl rfl 34 _ R7.out.z (info31 _ _ _ _ _ _) rfl (HO.out _ _ _ _ _ _) ?_; rw [setRow_self R7.out.z]))
                        refine bodyPost_ret (res7 _ _ b1 182 _ _ _ _ _ _ rfl rfl R7.out.z) rfl ?_
                        exact ⟨⟨none, 0, 0⟩, by rw [HG.out.1], R7.out.q, by rw [HG.out.2]; exact sub_nil _ _ _, fun b e => by cases e⟩
                      · cases h3
                        · have HE8 := hid (show chE l c s = 182 from by rw [HE.out, HMID.out]; rfl)
                          clear HE HMID
                          have HG := hid (HBAD.out 182 (HE8.out) (by first | decide | assumption))
                          go_wp2_with (first | (go_at_call 42; refine (HPA.out _).mono ?_; rintro e w8 ⟨rfl, rfl⟩) | (refine wpList_buildTo rfl 34 _ rfl _ rfl rq0C (by kernel_rfl) ?_; refine wpList_store_row rfl 34 _ _ rfl b1 _ rfl rfl 34 _ R7.out.z (info31 _ _ _ _ _ _) rfl (HO.out _ _ _ _ _ _) ?_; rw [setRow_self R7.out.z]))
                          refine bodyPost_ret (res7 _ _ b1 182 _ _ _ _ _ _ rfl rfl R7.out.z) rfl ?_
                          exact ⟨⟨none, 0, 0⟩, by rw [HG.out.1], R7.out.q, by rw [HG.out.2]; exact sub_nil _ _ _, fun b e => by cases e⟩
                        · have HM0 := hid (show midE l = 0 from HMID.out)
                          clear HE HMID
                          go_wp2_with (go_at_call 42; refine (HPA.out _).mono ?_; rintro e w8 ⟨rfl, rfl⟩)
                          go_meet
                          case rel => exact ⟨rfl, HM0.out⟩
                    · cases h3
                      · have HE8 := hid (show chE l c s = 182 from by rw [HE.out, HMID.out]; rfl)
                        clear HE HMID
                        have HG := hid (HBAD.out 182 (HE8.out) (by first | decide | assumption))
                        go_wp2_with (first | (go_at_call 42; refine (HPA.out _).mono ?_; rintro e w8 ⟨rfl, rfl⟩) | (refine wpList_buildTo rfl 34 _ rfl _ rfl rq0C (by kernel_rfl) ?_; refine wpList_store_row rfl 34 _ _ rfl b1 _ rfl rfl 34 _ R7.out.z (info31 _ _ _ _ _ _) rfl (HO.out _ _ _ _ _ _) ?_; rw [setRow_self R7.out.z]))
                        refine bodyPost_ret (res7 _ _ b1 182 _ _ _ _ _ _ rfl rfl R7.out.z) rfl ?_
                        exact ⟨⟨none, 0, 0⟩, by rw [HG.out.1], R7.out.q, by rw [HG.out.2]; exact sub_nil _ _ _, fun b e => by cases e⟩
                      · have HM0 := hid (show midE l = 0 from HMID.out)
                        clear HE HMID
                        go_wp2_with (go_at_call 42; refine (HPA.out _).mono ?_; rintro e w8 ⟨rfl, rfl⟩)
                        go_meet
                        case rel => exact ⟨rfl, HM0.out⟩
            case rest =>
              obtain ⟨rfl, hm0⟩ := hcut
              replace HE := hid (show chE l c s = autE l from by rw [HE.out, hm0, orE_ok rfl])
              clear hm0 HMID HPA hC1 hS1 hS2
              go_upto_if 97 with fail
              go_cut [17, 18] from 96 (fun u v w9 => u = .string (autO l) ∧ v = .bool (autW l).isSome ∧ RJ w b1 b2 (rqC ⟨#[]⟩ ⟨#[]⟩ ⟨#[]⟩ ⟨#[]⟩ ⟨none, 0, 0⟩ (-1)) w9)
              case first =>
                have hao : autO l = (autW l).getD ⟨#[]⟩ := rfl
                cases ba with
                | true =>
                  have hw := HAU0.out.1 rfl
                  have HA1 := hid (show autO l = a1 ∧ (autW l).isSome = true from by rw [hao, hw]; exact ⟨rfl, rfl⟩)
                  clear hw hao HAU0 HHS
                  go_wp2_with fail
                  go_meet
                  case rel => exact ⟨by rw [HA1.out.1], by rw [HA1.out.2], R7.out⟩
                | false =>
                  have hw := HAU0.out.2 rfl
                  have HA1 := hid (show autO l = (fnd l kHos).getD ⟨#[]⟩ ∧ (autW l).isSome = (fnd l kHos).isSome from by rw [hao, hw]; exact ⟨rfl, rfl⟩)
                  clear hw hao HAU0
                  generalize (fnd l kHos).getD ⟨#[]⟩ = a2 at *
                  generalize (fnd l kHos).isSome = bh at *
                  go_wp2_with fail
                  refine (HHS.out _ R7.out.q).mono ?_
                  rintro e w8 ⟨rfl, q8⟩
                  have R8 := hid (R7.out.call q8)
                  clear q8
                  go_wp2_with fail
                  go_meet
                  case rel => exact ⟨by rw [HA1.out.1], by rw [HA1.out.2], R8.out⟩
              case rest =>
                obtain ⟨rfl, rfl, rl⟩ := hcut
                have RL := hid rl
                have hsa : (autO l).size ≤ 140737488355328 := by
                  show ((autW l).getD ⟨#[]⟩).size ≤ _
                  cases hb : ba with
                  | true => rw [HAU0.out.1 hb]; exact HSA.out
                  | false => rw [HAU0.out.2 hb]; exact HSH.out
                have hE9 : autE l = match autW l with | none => 183 | some a => if auS a && !(l.any fun f => eqS f.1 kHos && !eqS f.2 a) then 0 else 182 := rfl
                have hao : autO l = (autW l).getD ⟨#[]⟩ := rfl
                clear rl R7 HAU0 HSA HSH HHS
                cases hw : autW l with
                | none =>
                  have HE8 := hid (show chE l c s = 183 from by rw [HE.out, hE9, hw])
                  clear HE hE9 hao hw hsa HGOOD HF0 HX
                  have HG := hid (HBAD.out 183 (HE8.out) (by first | decide | assumption))
                  go_wp2_with (first | (refine wpList_buildTo rfl 34 _ rfl _ rfl rq0C (by kernel_rfl) ?_; refine wpList_store_row rfl 34 _ _ rfl b1 _ rfl rfl 34 _ RL.out.z (info31 _ _ _ _ _ _) rfl (HO.out _ _ _ _ _ _) ?_; rw [setRow_self RL.out.z]))
                  refine bodyPost_ret (res7 _ _ b1 183 _ _ _ _ _ _ rfl rfl RL.out.z) rfl ?_
                  exact ⟨⟨none, 0, 0⟩, by rw [HG.out.1], RL.out.q, by rw [HG.out.2]; exact sub_nil _ _ _, fun b e => by cases e⟩
                | some a =>
                  rw [hw] at hE9 hao
                  dsimp only at hE9
                  have hao' : autO l = a := hao
                  rw [hao'] at hsa HGOOD
                  rw [hao']
                  have HAR := hid (fun W => rauth_any a W hsa)
                  clear hao hao' hw hsa
                  cases has : auS a with
                  | false =>
                    rw [has] at HAR
                    have HE8 := hid (show chE l c s = 182 from by rw [HE.out, hE9, has]; rfl)
                    clear HE hE9 HGOOD HF0 HX
                    have HG := hid (HBAD.out 182 (HE8.out) (by first | decide | assumption))
                    go_wp2_with (first | (go_at_call 43; refine (HAR.out _).mono ?_; rintro e w8 ⟨rfl, rfl⟩) | (refine wpList_buildTo rfl 34 _ rfl _ rfl rq0C (by kernel_rfl) ?_; refine wpList_store_row rfl 34 _ _ rfl b1 _ rfl rfl 34 _ RL.out.z (info31 _ _ _ _ _ _) rfl (HO.out _ _ _ _ _ _) ?_; rw [setRow_self RL.out.z]))
                    refine bodyPost_ret (res7 _ _ b1 182 _ _ _ _ _ _ rfl rfl RL.out.z) rfl ?_
                    exact ⟨⟨none, 0, 0⟩, by rw [HG.out.1], RL.out.q, by rw [HG.out.2]; exact sub_nil _ _ _, fun b e => by cases e⟩
                  | true =>
                    rw [has] at HAR
                    have HAU := hid (show True ∧ ((l.any fun f => eqS f.1 kHos && !eqS f.2 a) = false → chE l c s = 0) ∧ ((l.any fun f => eqS f.1 kHos && !eqS f.2 a) = true → chE l c s = 182) from
                      ⟨trivial, fun e => by rw [HE.out, hE9, has, e]; rfl, fun e => by rw [HE.out, hE9, has, e]; rfl⟩)
                    clear HE hE9 has
                    go_wp2_with (go_at_call 43; refine (HAR.out _).mono ?_; rintro e w8 ⟨rfl, rfl⟩)
                    clear HAR
                    go_loopw [19] (fun i wr => ∃ (k : Nat) (y : Sv), k ≤ l.length ∧ i = .int .i64 (k : Int) ∧ RJ w b1 b2 (rqC ⟨#[]⟩ ⟨#[]⟩ ⟨#[]⟩ ⟨#[]⟩ y (lenL (l.take k))) wr ∧ RowG wr y (plnL (l.take k)) ∧ New w.heap.size y ∧ (∀ b, blk y.a = some b → b ≠ b1 ∧ b ≠ b2) ∧ ((l.take k).any fun f => eqS f.1 kHos && !eqS f.2 a) = false) (fun i _ => l.length - (intOf i).toNat)
                    case atStart => exact ⟨0, ⟨none, 0, 0⟩, by omega, rfl, RL.out, sub_nil _ _ _, (fun b e => by cases e), (fun b e => by cases e), rfl⟩
                    case round =>
                      obtain ⟨k, ⟨ya, yn, yc⟩, hk, rfl, rj, ry, hny, hne, h0⟩ := hrel
                      have RR := hid rj
                      have HNY := hid hny
                      have HNE := hid hne
                      have RY := hid ry
                      by_cases hlt : k < l.length
                      · obtain ⟨g, off, ⟨p1, p2⟩, ha, hp, c0, c1⟩ := (HX.out.q rj.q).s.at hlt
                        dsimp only at ha
                        subst ha
                        dsimp only at c0 c1
                        have hki : (k : Int) < (l.length : Int) := by omega
                        have hk0 : (0 : Int) ≤ (k : Int) := by omega
                        have hkb : (k : Int) < 8796093022208 := by have := HX.out.b; omega
                        have HC := hid (fun W (q : Q w W) => show W.cell? ⟨g, off + k * 2, none⟩ = some (.string p1) ∧ W.cell? ⟨g, off + k * 2 + 1, none⟩ = some (.string p2) from by
                          obtain ⟨g', off', p', ha', hp', d0, d1⟩ := (HX.out.q q).s.at hlt
                          cases ha'
                          rw [hp] at hp'
                          cases hp'
                          exact ⟨d0, d1⟩)
                        have HLQ := hid (fun W => rlen_any p2 W)
                        have HPQ := hid (fun W => rpseudo_any p1 W)
                        have HLN := hid (lenL_next HF0.out hp)
                        have HPN := hid (pln_snoc (l.take k) (p1, p2))
                        rw [← take_snoc hp] at HPN
                        have HAT := hid (any_at (f := fun f : Fd => eqS f.1 kHos && !eqS f.2 a) (k := l.length) hp h0 hlt)
                        rw [List.take_length] at HAT
                        have HYN := hid (show yn ≤ 4398046511104 from by
                          have h1 := ry.len
                          have h2 := pln_len (l.take k)
                          have h3 : (l.take k).length ≤ l.length := by rw [List.length_take]; omega
                          have h4 := HX.out.b
                          dsimp only at h1
                          omega)
                        have hh : (p1.toList == [104, 111, 115, 116]) = eqS p1 kHos := beq_lit p1 _
                        have hc : (p1.toList == [99, 111, 110, 116, 101, 110, 116, 45, 108, 101, 110, 103, 116, 104]) = eqS p1 kLen := beq_lit p1 _
                        have hv : (p2.toList == a.toList) = eqS p2 a := beq_eqS p2 a
                        have HHC := hid (show eqS p1 kHos = true → eqS p1 kLen = false from fun e => by rw [(eqS_iff p1 kHos).1 e]; rfl)
                        clear rj ry hny hne h0 hp
                        dsimp only at HAT HLN HPN
                        generalize psS p1 = bp at *
                        generalize eqS p1 kHos = bh at *
                        generalize eqS p1 kLen = bc at *
                        generalize eqS p2 a = bv at *
                        generalize lenO p2 = ln at *
                        cases bh with
                        | true =>
                          obtain rfl := HHC.out rfl
                          clear HHC
                          cases bv with
                          | false =>
                            have HE8 := hid (show chE l c s = 182 from (HAU.out.2.2 (HAT.out.1 rfl)))
                            clear HAT HLN HPN HLQ HPQ HYN RY HC
                            have HG := hid (HBAD.out 182 (HE8.out) (by first | decide | assumption))
                            go_wp2_with (first | (refine wpList_buildTo rfl 34 _ rfl _ rfl rq0C (by kernel_rfl) ?_; refine wpList_store_row rfl 34 _ _ rfl b1 _ rfl rfl 34 _ RR.out.z (info31 _ _ _ _ _ _) rfl (HO.out _ _ _ _ _ _) ?_; rw [setRow_self RR.out.z]))
                            refine bodyPost_ret (res7 _ _ b1 182 _ _ _ _ _ _ rfl rfl RR.out.z) rfl ?_
                            exact ⟨⟨none, 0, 0⟩, by rw [HG.out.1], RR.out.q, by rw [HG.out.2]; exact sub_nil _ _ _, fun b e => by cases e⟩
                          | true =>
                            have HAN := hid (HAT.out.2 rfl)
                            have HLEN := hid (show lenL (l.take (k + 1)) = lenL (l.take k) from HLN.out)
                            have HPL := hid (show plnL (l.take (k + 1)) = plnL (l.take k) from by rw [HPN.out]; cases bp <;> rfl)
                            clear HAT HLN HPN HLQ HPQ HYN HC
                            go_wp2_with fail
                            go_roundw
                            case rel => exact ⟨k + 1, ⟨ya, yn, yc⟩, by omega, by go_num, by rw [HLEN.out]; exact RR.out, by rw [HPL.out]; exact RY.out, HNY.out, HNE.out, HAN.out⟩
                            case measure => simp [intOf]; omega
                        | false =>
                          have HAN := hid (HAT.out.2 rfl)
                          have HPLN := hid (show (bp = true → plnL (l.take (k + 1)) = plnL (l.take k)) ∧ (bp = false → plnL (l.take (k + 1)) = plnL (l.take k) ++ [(p1, p2)]) from ⟨fun e => by rw [HPN.out, e]; rfl, fun e => by rw [HPN.out, e]; rfl⟩)
                          clear HHC HAT HPN hv
                          cases bc with
                          | true =>
                            have HLEN := hid (show lenL (l.take (k + 1)) = ln from HLN.out)
                            have l5 : wr.cell? ⟨b2, 5, none⟩ = some (.int .i64 (lenL (l.take k))) := RR.out.b.cell 5
                            have g5 : wr.frozen? ⟨b2, 5, none⟩ = false := RR.out.b.frozen 5
                            have RV := hid (show RJ w b1 b2 (rqC ⟨#[]⟩ ⟨#[]⟩ ⟨#[]⟩ ⟨#[]⟩ ⟨ya, yn, yc⟩ ln) (wr.setCell ⟨b2, 5, none⟩ (.int .i64 ln)) from RR.out.set 5 (.int .i64 ln))
                            have HYV := hid (show RowG (wr.setCell ⟨b2, 5, none⟩ (.int .i64 ln)) ⟨ya, yn, yc⟩ (plnL (l.take k)) from Sub.keep RY.out ((Keep.refl (fun b => b = b2) wr).setCell b2 5 _ (.inl rfl)) (fun b e h => (HNE.out b e).2 h))
                            have HCV0 := hid (HC.out _ RV.out.q)
                            obtain ⟨d00, d01⟩ := HCV0.out
                            clear HLN
                            generalize lenL (l.take k) = l0 at *
                            go_wp2_with (go_at_call 44; refine (HLQ.out _).mono ?_; rintro e w5 ⟨rfl, h5⟩; replace h5 := h5.symm; subst h5)
                            generalize hWV : World.setCell wr _ _ = WV at *
                            clear hWV RR RY l5 g5 c0 c1 d00 d01 HLQ HCV0
                            have HCV := hid (HC.out _ RV.out.q)
                            obtain ⟨c00, c01⟩ := HCV.out
                            have l4 : WV.cell? ⟨b2, 4, none⟩ = some (.slice ya yn yc) := RV.out.b.cell 4
                            have g4 : WV.frozen? ⟨b2, 4, none⟩ = false := RV.out.b.frozen 4
                            have la4 : (WV.alloc (Obj.cells #[Value.string p1, Value.string p2] 57)).cell? ⟨b2, 4, none⟩ = some (.slice ya yn yc) := (RV.out.call ((Q.refl WV).alloc _)).b.cell 4
                            refine (HPQ.out _).mono ?_
                            rintro e w7 ⟨rfl, h7⟩
                            replace h7 := h7.symm
                            subst h7
                            cases bp with
                            | true =>
                              have HPL := hid (HPLN.out.1 rfl)
                              clear HPLN
                              go_wp2_with fail
                              go_roundw
                              case rel => exact ⟨k + 1, ⟨ya, yn, yc⟩, by omega, by go_num, by rw [HLEN.out]; exact RV.out, by rw [HPL.out]; exact HYV.out, HNY.out, HNE.out, HAN.out⟩
                              case measure => simp [intOf]; omega
                            | false =>
                              have HPL := hid (HPLN.out.2 rfl)
                              clear HPLN
                              obtain ⟨⟨za, zn, zc⟩, w6, hrun, hrow, hkp, hbb⟩ := rowG_one (w := WV.drew) (p1, p2) (HYV.out.q (Q.refl WV).drew) HYN.out
                              dsimp only at hrun
                              have R6 := hid (RJ.keep (RV.out.call (Q.refl WV).drew) hkp (fun b e => ⟨HNY.out b e, (HNE.out b e).1, (HNE.out b e).2⟩))
                              have m4 : w6.cell? ⟨b2, 4, none⟩ = some (.slice ya yn yc) := R6.out.b.cell 4
                              have n4 : w6.frozen? ⟨b2, 4, none⟩ = false := R6.out.b.frozen 4
                              have R7 := hid (R6.out.set 4 (.slice za zn zc))
                              have hnew : ∀ b, blk za = some b → w.heap.size ≤ b ∧ b ≠ b1 ∧ b ≠ b2 := fun b e => by
                                rcases hbb b e with h | h
                                · exact ⟨HNY.out b h, HNE.out b h⟩
                                · have h1 : WV.heap.size ≤ b := h
                                  have h2 := RV.out.b.lt
                                  have h3 := RV.out.n1
                                  have h4 := RV.out.n2
                                  exact ⟨by omega, by omega, by omega⟩
                              have HNW := hid hnew
                              have HY7 := hid (show RowG (w6.setCell ⟨b2, 4, none⟩ (.slice za zn zc)) ⟨za, zn, zc⟩ (plnL (l.take k) ++ [(p1, p2)]) from Sub.keep hrow ((Keep.refl (fun b => b = b2) w6).setCell b2 4 _ (.inl rfl)) (fun b e h => (hnew b e).2.2 h))
                              have HR := hid hrun
                              clear hrow hkp hbb hnew hrun R6
                              go_wp2_with fail
                              go_region_law (refine step_append rfl _ _ _ _ rfl (by simp [Act.eval]) (by simp [Act.eval]) HR.out ?_)
                              all_goals
                                go_wp2_with fail
                                go_roundw
                                case rel => exact ⟨k + 1, ⟨za, zn, zc⟩, by omega, by go_num, by rw [HLEN.out]; exact R7.out, by rw [HPL.out]; exact HY7.out, (fun b e => (HNW.out b e).1), (fun b e => (HNW.out b e).2), HAN.out⟩
                                case measure => simp [intOf]; omega
                          | false =>
                            have HLEN := hid (show lenL (l.take (k + 1)) = lenL (l.take k) from HLN.out)
                            have HYV := RY
                            clear HLN HLQ
                            go_wp2_with fail
                            clear c0 c1 RY
                            have HCV := hid (HC.out _ RR.out.q)
                            obtain ⟨c00, c01⟩ := HCV.out
                            have l4 : wr.cell? ⟨b2, 4, none⟩ = some (.slice ya yn yc) := RR.out.b.cell 4
                            have g4 : wr.frozen? ⟨b2, 4, none⟩ = false := RR.out.b.frozen 4
                            have la4 : (wr.alloc (Obj.cells #[Value.string p1, Value.string p2] 57)).cell? ⟨b2, 4, none⟩ = some (.slice ya yn yc) := (RR.out.call ((Q.refl wr).alloc _)).b.cell 4
                            refine (HPQ.out _).mono ?_
                            rintro e w7 ⟨rfl, h7⟩
                            replace h7 := h7.symm
                            subst h7
                            cases bp with
                            | true =>
                              have HPL := hid (HPLN.out.1 rfl)
                              clear HPLN
                              go_wp2_with fail
                              go_roundw
                              case rel => exact ⟨k + 1, ⟨ya, yn, yc⟩, by omega, by go_num, by rw [HLEN.out]; exact RR.out, by rw [HPL.out]; exact HYV.out, HNY.out, HNE.out, HAN.out⟩
                              case measure => simp [intOf]; omega
                            | false =>
                              have HPL := hid (HPLN.out.2 rfl)
                              clear HPLN
                              obtain ⟨⟨za, zn, zc⟩, w6, hrun, hrow, hkp, hbb⟩ := rowG_one (w := wr.drew) (p1, p2) (HYV.out.q (Q.refl wr).drew) HYN.out
                              dsimp only at hrun
                              have R6 := hid (RJ.keep (RR.out.call (Q.refl wr).drew) hkp (fun b e => ⟨HNY.out b e, (HNE.out b e).1, (HNE.out b e).2⟩))
                              have m4 : w6.cell? ⟨b2, 4, none⟩ = some (.slice ya yn yc) := R6.out.b.cell 4
                              have n4 : w6.frozen? ⟨b2, 4, none⟩ = false := R6.out.b.frozen 4
                              have R7 := hid (R6.out.set 4 (.slice za zn zc))
                              have hnew : ∀ b, blk za = some b → w.heap.size ≤ b ∧ b ≠ b1 ∧ b ≠ b2 := fun b e => by
                                rcases hbb b e with h | h
                                · exact ⟨HNY.out b h, HNE.out b h⟩
                                · have h1 : wr.heap.size ≤ b := h
                                  have h2 := RR.out.b.lt
                                  have h3 := RR.out.n1
                                  have h4 := RR.out.n2
                                  exact ⟨by omega, by omega, by omega⟩
                              have HNW := hid hnew
                              have HY7 := hid (show RowG (w6.setCell ⟨b2, 4, none⟩ (.slice za zn zc)) ⟨za, zn, zc⟩ (plnL (l.take k) ++ [(p1, p2)]) from Sub.keep hrow ((Keep.refl (fun b => b = b2) w6).setCell b2 4 _ (.inl rfl)) (fun b e h => (hnew b e).2.2 h))
                              have HR := hid hrun
                              clear hrow hkp hbb hnew hrun R6
                              go_wp2_with fail
                              go_region_law (refine step_append rfl _ _ _ _ rfl (by simp [Act.eval]) (by simp [Act.eval]) HR.out ?_)
                              all_goals
                                go_wp2_with fail
                                go_roundw
                                case rel => exact ⟨k + 1, ⟨za, zn, zc⟩, by omega, by go_num, by rw [HLEN.out]; exact R7.out, by rw [HPL.out]; exact HY7.out, (fun b e => (HNW.out b e).1), (fun b e => (HNW.out b e).2), HAN.out⟩
                                case measure => simp [intOf]; omega
                      · have hki : ¬ (k : Int) < (l.length : Int) := by omega
                        have e0 : l.take k = l := List.take_of_length_le (by omega)
                        rw [e0] at RR RY h0
                        have HG := hid (HGOOD.out (HAU.out.2.1 h0))
                        clear rj ry hny hne h0 e0 hk
                        generalize lenL l = ln at *
                        generalize plnL l = pl at *
                        have c0 : wr.cell? ⟨b2, 0, none⟩ = some (.string ⟨#[]⟩) := RR.out.b.cell 0
                        have f0 : wr.frozen? ⟨b2, 0, none⟩ = false := RR.out.b.frozen 0
                        have RA := hid (show RJ w b1 b2 (rqC m ⟨#[]⟩ ⟨#[]⟩ ⟨#[]⟩ ⟨ya, yn, yc⟩ ln) (wr.setCell ⟨b2, 0, none⟩ (.string m)) from RR.out.set 0 (.string m))
                        have c1' : wr.cell? ⟨b2, 1, none⟩ = some (.string ⟨#[]⟩) := RR.out.b.cell 1
                        have f1' : wr.frozen? ⟨b2, 1, none⟩ = false := RR.out.b.frozen 1
                        have c1 := (RA.out.b.cell 1 : _ = some (Value.string ⟨#[]⟩))
                        have f1 := RA.out.b.frozen 1
                        have RB := hid (show RJ w b1 b2 (rqC m sc ⟨#[]⟩ ⟨#[]⟩ ⟨ya, yn, yc⟩ ln) _ from RA.out.set 1 (.string sc))
                        have c2' : wr.cell? ⟨b2, 2, none⟩ = some (.string ⟨#[]⟩) := RR.out.b.cell 2
                        have f2' : wr.frozen? ⟨b2, 2, none⟩ = false := RR.out.b.frozen 2
                        have c2 := (RB.out.b.cell 2 : _ = some (Value.string ⟨#[]⟩))
                        have f2 := RB.out.b.frozen 2
                        have RC := hid (show RJ w b1 b2 (rqC m sc a ⟨#[]⟩ ⟨ya, yn, yc⟩ ln) _ from RB.out.set 2 (.string a))
                        have c3' : wr.cell? ⟨b2, 3, none⟩ = some (.string ⟨#[]⟩) := RR.out.b.cell 3
                        have f3' : wr.frozen? ⟨b2, 3, none⟩ = false := RR.out.b.frozen 3
                        have c3 := (RC.out.b.cell 3 : _ = some (Value.string ⟨#[]⟩))
                        have f3 := RC.out.b.frozen 3
                        have RD := hid (show RJ w b1 b2 (rqC m sc a pa ⟨ya, yn, yc⟩ ln) _ from RC.out.set 3 (.string pa))
                        have HYD := hid (show RowG ((((wr.setCell ⟨b2, 0, none⟩ (.string m)).setCell ⟨b2, 1, none⟩ (.string sc)).setCell ⟨b2, 2, none⟩ (.string a)).setCell ⟨b2, 3, none⟩ (.string pa)) ⟨ya, yn, yc⟩ pl from
                          Sub.keep RY.out (((((Keep.refl (fun b => b = b2) wr).setCell b2 0 _ (.inl rfl)).setCell b2 1 _ (.inl rfl)).setCell b2 2 _ (.inl rfl)).setCell b2 3 _ (.inl rfl)) (fun b e h => (HNE.out b e).2 h))
                        clear RR RY RA RB RC
                        go_upto_region 43 with fail
                        clear c0 f0 c1 f1 c1' f1' c2 f2 c2' f2' c3 f3 c3' f3'
                        generalize hWD : World.setCell _ _ _ = WD at *
                        clear hWD
                        go_wp2_with (first
                          | (refine wpList_load_row rfl 34 _ rfl b2 rfl 34 _ (0, 0) _ RD.out.b Tryd.underlying34 rfl (info31 m sc a pa ⟨ya, yn, yc⟩ ln) ?_)
                          | (refine wpList_store_row rfl 34 _ _ rfl b1 _ rfl rfl 34 _ RD.out.z (info31 m sc a pa ⟨ya, yn, yc⟩ ln) rfl (HO.out m sc a pa ⟨ya, yn, yc⟩ ln) ?_; refine Hid.out ?_))
                        refine hid ?_
                        have BZ := hid (show (WD.setRow b1 (rqC m sc a pa ⟨ya, yn, yc⟩ ln)).heap[b1]? = some (.cells (rqC m sc a pa ⟨ya, yn, yc⟩ ln) 34 (0, 0)) from setRow_heap _ _ _ _ 34 _ RD.out.z)
                        have KZ := hid (show Keep (fun b => b = b1) WD (WD.setRow b1 (rqC m sc a pa ⟨ya, yn, yc⟩ ln)) from (Keep.refl _ _).setRow _ _ (.inl rfl))
                        have QZ := hid (show Q w (WD.setRow b1 (rqC m sc a pa ⟨ya, yn, yc⟩ ln)) from KZ.out.below RD.out.q RD.out.q.size (fun i e => by have := RD.out.n1; omega))
                        have YZ := hid (show RowG (WD.setRow b1 (rqC m sc a pa ⟨ya, yn, yc⟩ ln)) ⟨ya, yn, yc⟩ pl from Sub.keep HYD.out KZ.out (fun b e h => (HNE.out b e).1 h))
                        generalize hWZ : World.setRow _ _ _ = WZ at *
                        clear hWZ
                        go_wp2
                        refine bodyPost_ret (res7 _ _ b1 0 _ _ _ _ _ _ rfl rfl BZ.out) rfl ?_
                        exact ⟨⟨ya, yn, yc⟩, by rw [(HG.out ⟨ya, yn, yc⟩).1], QZ.out, by rw [(HG.out ⟨ya, yn, yc⟩).2]; exact YZ.out, HNY.out⟩
end Go.Proofs.YtclapheglgiokaaDoor
