/-
  requestOf: contracts that the statements' walks use.
-/
import Derived.Test.YthefijjdffafkaaDoorRnU
namespace Go.Proofs.YthefijjdffafkaaDoor
open Go.RowKit
set_option linter.unusedVariables false
set_option maxRecDepth 20000

/-- A request's cells. -/
abbrev rqC (m s a p : ByteArray) (x : Sv) (n : Int) : Array Value := #[.string m, .string s, .string a, .string p, .slice x.a x.n x.c, .int .i64 n]
def rqV (r : Rq) (x : Sv) : Value := .agg (rqC r.m r.s r.a r.p x r.len)
/-- The reading's own two requests: the result's and the one that is filled. -/
structure RI (w : World) (b1 b2 : Nat) (cs : Array Value) (W : World) : Prop where
  q : Q w W
  z : Blk W b1 24 (rqC ⟨#[]⟩ ⟨#[]⟩ ⟨#[]⟩ ⟨#[]⟩ ⟨none, 0, 0⟩ 0)
  b : Blk W b2 24 cs
  n1 : w.heap.size ≤ b1
  n2 : b1 < b2
theorem RI.call {w W W' : World} {b1 b2 : Nat} {cs : Array Value} (h : RI w b1 b2 cs W) (q : Q W W') : RI w b1 b2 cs W' := ⟨h.q.trans q, h.z.q q, h.b.q q, h.n1, h.n2⟩
theorem RI.set {w W : World} {b1 b2 : Nat} {cs : Array Value} (h : RI w b1 b2 cs W) (j : Nat) (v : Value) : RI w b1 b2 (cs.setIfInBounds j v) (W.setCell ⟨b2, j, none⟩ v) := by
  have h1 := h.n1
  have h2 := h.n2
  exact ⟨h.q.setCell (p := ⟨b2, j, none⟩) (by show w.heap.size ≤ b2; omega) _, h.z.setOther (by omega), h.b.set j v, h.n1, h.n2⟩
theorem ret_27 {fn : Func} {p : Tmp} {a : Act} {w : World} {R : Ending → World → Prop} (hr : fn.results = #[.cell p 24]) (hd : a.defers = [])
    (g : Nat) (cs : Array Value) (hi : (Tryd.prog.info? 24).map (·.size) = some cs.size) (hp : a.tmps.getD p undef = .pointer (some ⟨g, 0, none⟩)) (hb : w.heap[g]? = some (.cells cs 24 (0, 0))) (hR : R (.returned (.agg cs)) w) : bodyPost Tryd.prog fn R .ret a w :=
  ⟨hd, _, results_cell_row hr _ w g 24 _ (0, 0) _ hp hb Tryd.underlying24 rfl hi, hR⟩
theorem flds_ok {x : Sv} {l : List Fd} {w : World} (h : Fin w x l) (h0 : fstE l = 0) : Calls Tryd.prog 25 #[.slice x.a x.n x.c] w fun e w' => e = .returned (.int .i64 (lenL l)) ∧ Q w w' := by
  have := flds_any x l w h.s h.len h.c (by have := h.b; omega) h.d
  rwa [show flA l = .returned (.int .i64 (lenL l)) from by unfold flA; rw [if_pos h0]] at this
theorem flds_bad {x : Sv} {l : List Fd} {w : World} (h : Fin w x l) (h0 : fstE l ≠ 0) : Calls Tryd.prog 25 #[.slice x.a x.n x.c] w fun e w' => e = .panicked [refP (fstE l)] ∧ Q w w' := by
  have := flds_any x l w h.s h.len h.c (by have := h.b; omega) h.d
  rwa [show flA l = .panicked [refP (fstE l)] from by unfold flA; rw [if_neg h0]] at this
theorem tun_none {l : List Fd} (h : tunE l = 0) : schO l = ⟨#[]⟩ ∧ patO l = ⟨#[]⟩ := by
  unfold tunE at h
  by_cases hc : ((fnd l kSch).isSome || (fnd l kPat).isSome) = true
  · rw [if_pos hc] at h; cases h
  · have hc' : (fnd l kSch).isSome = false ∧ (fnd l kPat).isSome = false := by
      cases h1 : (fnd l kSch).isSome <;> cases h2 : (fnd l kPat).isSome <;> rw [h1, h2] at hc <;> simp at hc ⊢
    unfold schO patO
    rw [Option.isSome_eq_false_iff, Option.isNone_iff_eq_none, Option.isSome_eq_false_iff, Option.isNone_iff_eq_none] at hc'
    rw [hc'.1, hc'.2]
    exact ⟨rfl, rfl⟩
set_option maxHeartbeats 8000000 in
theorem req_ok (x : Sv) (l : List Fd) (c s : Int) (w : World) (h : Fin w x l) (hc : chE l c s = 0) : Calls Tryd.prog 19 #[.slice x.a x.n x.c, .agg #[.int .i64 c, .int .i64 s]] w fun e w' => ∃ y : Sv, e = .returned (rqV (rqO l) y) ∧ Q w w' ∧ RowG w' y (plnL l) ∧ New w.heap.size y := by
  obtain ⟨hm, h1⟩ := orE_zero hc
  obtain ⟨hf, h2⟩ := orE_zero h1
  obtain ⟨hme, h3⟩ := orE_zero h2
  obtain ⟨hmi, hau⟩ := orE_zero h3
  have hmuc : muc l c s = false := by
    cases hmm : muc l c s with
    | false => rfl
    | true => rw [hmm, if_pos rfl] at hm; cases hm
  obtain ⟨xa, xn, xc⟩ := x
  have H32 := hid (fun W q => size_ok ⟨xa, xn, xc⟩ l c s W (h.q (w' := W) q).s h.len (by have := h.b; omega) h.d hmuc)
  have H33 := hid (fun W q => flds_ok (h.q (w' := W) q) hf)
  have H34 := hid (fun W q => method_any ⟨xa, xn, xc⟩ l W (h.q (w' := W) q))
  rw [endA_ok _ hme] at H34
  have H37 := hid (fun W q => author_any ⟨xa, xn, xc⟩ l W (h.q (w' := W) q))
  rw [endA_ok _ hau] at H37
  have H38 := hid (fun W q => plain_any ⟨xa, xn, xc⟩ l W (h.q (w' := W) q))
  have H35 := hid (fun W q => tunnel_any ⟨xa, xn, xc⟩ l W (h.q (w' := W) q))
  have H36 := hid (fun W q => target_any ⟨xa, xn, xc⟩ l (metO l) W (h.q (w' := W) q) rfl)
  dsimp only at H32 H33 H34 H35 H36 H37 H38
  have hrq : rqO l = ⟨metO l, schO l, autO l, patO l, plnL l, lenL l⟩ := rfl
  have hCN : ((metO l).toList == [67, 79, 78, 78, 69, 67, 84]) = eqS (metO l) kCNT := beq_lit _ _
  have hmid : midE l = if eqS (metO l) kCNT then tunE l else tarE l := rfl
  have HTN : eqS (metO l) kCNT = true → schO l = ⟨#[]⟩ ∧ patO l = ⟨#[]⟩ := fun h => tun_none (by rw [hmid, if_pos h] at hmi; exact hmi)
  have HT := hid HTN
  clear h hc hm h1 h2 h3 hmuc hf hme hau HTN
  rw [hmid] at hmi
  clear hmid
  generalize lenL l = ln at *
  generalize metO l = m at *
  generalize autO l = au at *
  generalize schO l = sc at *
  generalize patO l = pa at *
  generalize plnL l = pl at *
  rw [hrq]
  clear hrq
  go_enter Tryd.func19, Tryd.ntmps19
  have HQ0 := hid (((Q.refl w).alloc (.cells #[.int .i64 c, .int .i64 s] 30)).alloc (.cells (rqC ⟨#[]⟩ ⟨#[]⟩ ⟨#[]⟩ ⟨#[]⟩ ⟨none, 0, 0⟩ 0) 24))
  have HB1 := hid (show Blk ((w.alloc (.cells #[.int .i64 c, .int .i64 s] 30)).alloc (.cells (rqC ⟨#[]⟩ ⟨#[]⟩ ⟨#[]⟩ ⟨#[]⟩ ⟨none, 0, 0⟩ 0) 24)) (w.heap.size + 1) 24 (rqC ⟨#[]⟩ ⟨#[]⟩ ⟨#[]⟩ ⟨#[]⟩ ⟨none, 0, 0⟩ 0) from by
    have := blk_new (w.alloc (.cells #[.int .i64 c, .int .i64 s] 30)) (rqC ⟨#[]⟩ ⟨#[]⟩ ⟨#[]⟩ ⟨#[]⟩ ⟨none, 0, 0⟩ 0) 24
    rw [World.size_alloc] at this
    exact this)
  have HBS := hid (show w.heap.size ≤ w.heap.size + 1 from by omega)
  go_wp2_with fail
  generalize hW : World.alloc (World.alloc w _) _ = W0 at *
  clear hW
  generalize w.heap.size + 1 = b1 at *
  refine (H32.out _ HQ0.out).mono ?_
  rintro e w1 ⟨rfl, q1⟩
  have Q1 := hid (HQ0.out.trans q1)
  have B1 := hid (HB1.out.q q1)
  clear q1 HB1 HQ0
  go_wp2_with (go_at_call 25; refine (H33.out _ Q1.out).mono ?_; rintro e w2 ⟨rfl, q2⟩; have Q2 := hid (Q1.out.trans q2); have B2 := hid (B1.out.q q2); clear q2 B1 Q1)
  have R2 := hid (show RI w b1 w2.heap.size (rqC ⟨#[]⟩ ⟨#[]⟩ ⟨#[]⟩ ⟨#[]⟩ ⟨none, 0, 0⟩ ln) (w2.alloc (.cells (rqC ⟨#[]⟩ ⟨#[]⟩ ⟨#[]⟩ ⟨#[]⟩ ⟨none, 0, 0⟩ ln) 24)) from
    ⟨Q2.out.alloc _, B2.out.q ((Q.refl _).alloc _), blk_new w2 _ 24, HBS.out, B2.out.lt⟩)
  generalize hW : World.alloc w2 _ = W2 at *
  clear hW Q2 B2
  generalize w2.heap.size = b2 at *
  refine (H34.out _ R2.out.q).mono ?_
  rintro e w3 ⟨rfl, q3⟩
  have R3 := hid (R2.out.call q3)
  have c0 : w3.cell? ⟨b2, 0, none⟩ = some (.string ⟨#[]⟩) := R3.out.b.cell 0
  have f0 : w3.frozen? ⟨b2, 0, none⟩ = false := R3.out.b.frozen 0
  have R4 := hid (show RI w b1 b2 (rqC m ⟨#[]⟩ ⟨#[]⟩ ⟨#[]⟩ ⟨none, 0, 0⟩ ln) (w3.setCell ⟨b2, 0, none⟩ (.string m)) from R3.out.set 0 (.string m))
  clear q3 R3 R2
  have HI27 := hid (show ∀ (m s a p : ByteArray) (x : Sv) (n : Int), (Tryd.prog.info? 24).map (·.size) = some (rqC m s a p x n).size from fun _ _ _ _ _ _ => by kernel_rfl)
  have HO27 := hid (show ∀ (m s a p : ByteArray) (x : Sv) (n : Int), (rqC m s a p x n).all (·.oneCell') = true from fun _ _ _ _ _ _ => by kernel_rfl)
  cases hcc : eqS m kCNT with
  | true =>
    obtain ⟨hsc, hpa⟩ := HT.out hcc
    rw [hcc, if_pos rfl] at hmi
    replace H35 := hid (fun W q => (by have := H35.out W q; rw [endA_ok _ hmi] at this; exact this : Calls Tryd.prog 27 #[.slice xa xn xc] W fun e w' => e = .returned (.tuple #[]) ∧ Q W w'))
    rw [hcc] at hCN
    subst hsc
    subst hpa
    clear HT hcc hmi H36
    go_wp2_with (first
      | (go_at_call 27; refine (H35.out _ R4.out.q).mono ?_; rintro e w5 ⟨rfl, q5⟩; have R5 := hid (R4.out.call q5); clear q5)
      | (go_at_call 29; refine (H37.out _ R5.out.q).mono ?_; rintro e w7 ⟨rfl, q7⟩; have R6 := hid (R5.out.call q7); have c2 : w7.cell? ⟨b2, 2, none⟩ = some (.string ⟨#[]⟩) := R6.out.b.cell 2; have f2 : w7.frozen? ⟨b2, 2, none⟩ = false := R6.out.b.frozen 2; have R7 := hid (R6.out.set 2 (.string au)); have LT7 := hid R7.out.b.lt; clear q7)
      | (go_at_call 30; refine (H38.out _ R7.out.q).mono ?_; rintro e w8 ⟨⟨ya, yn, yc⟩, rfl, q8, r8, n8⟩; refine Hid.out ?_))
    refine hid ?_
    have Y8 := hid (show RowG (w8.setCell ⟨b2, 4, none⟩ (.slice ya yn yc)) ⟨ya, yn, yc⟩ pl from Sub.keep r8 ((Keep.refl (fun b => b = b2) w8).setCell b2 4 _ (.inl rfl)) (fun b e h => by have := n8 b e; have h1 := LT7.out; omega))
    have N8 := hid (show New w.heap.size ⟨ya, yn, yc⟩ from fun b e => by have := n8 b e; have h1 := LT7.out; have h2 := R7.out.n1; have h3 := R7.out.n2; omega)
    have M8 := hid (show ∀ b, blk ya = some b → b ≠ b1 from fun b e h => by have := n8 b e; have h1 := LT7.out; have h3 := R7.out.n2; omega)
    have R9 := hid ((R7.out.call q8).set 4 (.slice ya yn yc))
    have RC := hid (R7.out.call q8)
    have c4 : w8.cell? ⟨b2, 4, none⟩ = some (.slice none 0 0) := RC.out.b.cell 4
    have f4 : w8.frozen? ⟨b2, 4, none⟩ = false := RC.out.b.frozen 4
    clear q8 r8 n8 RC
    go_wp2_with (first
      | (refine wpList_load_row rfl 24 _ rfl b2 rfl 24 _ (0, 0) _ R9.out.b Tryd.underlying24 rfl (HI27.out m ⟨#[]⟩ au ⟨#[]⟩ ⟨ya, yn, yc⟩ ln) ?_)
      | (refine wpList_store_row rfl 24 _ _ rfl b1 _ rfl rfl 24 _ R9.out.z (HI27.out m ⟨#[]⟩ au ⟨#[]⟩ ⟨ya, yn, yc⟩ ln) rfl (HO27.out m ⟨#[]⟩ au ⟨#[]⟩ ⟨ya, yn, yc⟩ ln) ?_; refine Hid.out ?_))
    refine hid ?_
    have BZ := hid (show ((w8.setCell ⟨b2, 4, none⟩ (.slice ya yn yc)).setRow b1 (rqC m ⟨#[]⟩ au ⟨#[]⟩ ⟨ya, yn, yc⟩ ln)).heap[b1]? = some (.cells (rqC m ⟨#[]⟩ au ⟨#[]⟩ ⟨ya, yn, yc⟩ ln) 24 (0, 0)) from setRow_heap _ _ _ _ 24 _ R9.out.z)
    have KZ := hid (show Keep (fun b => b = b1) (w8.setCell ⟨b2, 4, none⟩ (.slice ya yn yc)) ((w8.setCell ⟨b2, 4, none⟩ (.slice ya yn yc)).setRow b1 (rqC m ⟨#[]⟩ au ⟨#[]⟩ ⟨ya, yn, yc⟩ ln)) from (Keep.refl _ _).setRow _ _ (.inl rfl))
    have QZ := hid (show Q w ((w8.setCell ⟨b2, 4, none⟩ (.slice ya yn yc)).setRow b1 (rqC m ⟨#[]⟩ au ⟨#[]⟩ ⟨ya, yn, yc⟩ ln)) from KZ.out.below R9.out.q R9.out.q.size (fun i e => by have := R9.out.n1; omega))
    have YZ := hid (show RowG ((w8.setCell ⟨b2, 4, none⟩ (.slice ya yn yc)).setRow b1 (rqC m ⟨#[]⟩ au ⟨#[]⟩ ⟨ya, yn, yc⟩ ln)) ⟨ya, yn, yc⟩ pl from Sub.keep Y8.out KZ.out (fun b e h => M8.out b e h))
    generalize hWZ : World.setRow _ _ _ = WZ at *
    clear hWZ
    go_wp2
    exact ret_27 rfl rfl b1 _ (HI27.out m ⟨#[]⟩ au ⟨#[]⟩ ⟨ya, yn, yc⟩ ln) rfl BZ.out ⟨⟨ya, yn, yc⟩, rfl, QZ.out, YZ.out, N8.out⟩
  | false =>
    rw [hcc, if_neg (by decide)] at hmi
    replace H36 := hid (fun W q => (by have := H36.out W q; rw [endA_ok _ hmi] at this; exact this : Calls Tryd.prog 28 #[.slice xa xn xc, .string m] W fun e w' => e = .returned (.tuple #[.string sc, .string pa]) ∧ Q W w'))
    rw [hcc] at hCN
    clear HT hcc hmi H35
    go_wp2_with (first
      | (go_at_call 28; refine (H36.out _ R4.out.q).mono ?_; rintro e w5 ⟨rfl, q5⟩; have RA := hid (R4.out.call q5); have c1 : w5.cell? ⟨b2, 1, none⟩ = some (.string ⟨#[]⟩) := RA.out.b.cell 1; have f1 : w5.frozen? ⟨b2, 1, none⟩ = false := RA.out.b.frozen 1; have RB := hid (RA.out.set 1 (.string sc)); have c3 : (w5.setCell ⟨b2, 1, none⟩ (.string sc)).cell? ⟨b2, 3, none⟩ = some (.string ⟨#[]⟩) := RB.out.b.cell 3; have c3' : w5.cell? ⟨b2, 3, none⟩ = some (.string ⟨#[]⟩) := RA.out.b.cell 3; have f3 : (w5.setCell ⟨b2, 1, none⟩ (.string sc)).frozen? ⟨b2, 3, none⟩ = false := RB.out.b.frozen 3; have f3' : w5.frozen? ⟨b2, 3, none⟩ = false := RA.out.b.frozen 3; have R5 := hid (RB.out.set 3 (.string pa)); clear q5)
      | (go_at_call 29; refine (H37.out _ R5.out.q).mono ?_; rintro e w7 ⟨rfl, q7⟩; have R6 := hid (R5.out.call q7); have c2 : w7.cell? ⟨b2, 2, none⟩ = some (.string ⟨#[]⟩) := R6.out.b.cell 2; have f2 : w7.frozen? ⟨b2, 2, none⟩ = false := R6.out.b.frozen 2; have R7 := hid (R6.out.set 2 (.string au)); have LT7 := hid R7.out.b.lt; clear q7)
      | (go_at_call 30; refine (H38.out _ R7.out.q).mono ?_; rintro e w8 ⟨⟨ya, yn, yc⟩, rfl, q8, r8, n8⟩; refine Hid.out ?_))
    refine hid ?_
    have Y8 := hid (show RowG (w8.setCell ⟨b2, 4, none⟩ (.slice ya yn yc)) ⟨ya, yn, yc⟩ pl from Sub.keep r8 ((Keep.refl (fun b => b = b2) w8).setCell b2 4 _ (.inl rfl)) (fun b e h => by have := n8 b e; have h1 := LT7.out; omega))
    have N8 := hid (show New w.heap.size ⟨ya, yn, yc⟩ from fun b e => by have := n8 b e; have h1 := LT7.out; have h2 := R7.out.n1; have h3 := R7.out.n2; omega)
    have M8 := hid (show ∀ b, blk ya = some b → b ≠ b1 from fun b e h => by have := n8 b e; have h1 := LT7.out; have h3 := R7.out.n2; omega)
    have R9 := hid ((R7.out.call q8).set 4 (.slice ya yn yc))
    have RC := hid (R7.out.call q8)
    have c4 : w8.cell? ⟨b2, 4, none⟩ = some (.slice none 0 0) := RC.out.b.cell 4
    have f4 : w8.frozen? ⟨b2, 4, none⟩ = false := RC.out.b.frozen 4
    clear q8 r8 n8 RC
    go_wp2_with (first
      | (refine wpList_load_row rfl 24 _ rfl b2 rfl 24 _ (0, 0) _ R9.out.b Tryd.underlying24 rfl (HI27.out m sc au pa ⟨ya, yn, yc⟩ ln) ?_)
      | (refine wpList_store_row rfl 24 _ _ rfl b1 _ rfl rfl 24 _ R9.out.z (HI27.out m sc au pa ⟨ya, yn, yc⟩ ln) rfl (HO27.out m sc au pa ⟨ya, yn, yc⟩ ln) ?_; refine Hid.out ?_))
    refine hid ?_
    have BZ := hid (show ((w8.setCell ⟨b2, 4, none⟩ (.slice ya yn yc)).setRow b1 (rqC m sc au pa ⟨ya, yn, yc⟩ ln)).heap[b1]? = some (.cells (rqC m sc au pa ⟨ya, yn, yc⟩ ln) 24 (0, 0)) from setRow_heap _ _ _ _ 24 _ R9.out.z)
    have KZ := hid (show Keep (fun b => b = b1) (w8.setCell ⟨b2, 4, none⟩ (.slice ya yn yc)) ((w8.setCell ⟨b2, 4, none⟩ (.slice ya yn yc)).setRow b1 (rqC m sc au pa ⟨ya, yn, yc⟩ ln)) from (Keep.refl _ _).setRow _ _ (.inl rfl))
    have QZ := hid (show Q w ((w8.setCell ⟨b2, 4, none⟩ (.slice ya yn yc)).setRow b1 (rqC m sc au pa ⟨ya, yn, yc⟩ ln)) from KZ.out.below R9.out.q R9.out.q.size (fun i e => by have := R9.out.n1; omega))
    have YZ := hid (show RowG ((w8.setCell ⟨b2, 4, none⟩ (.slice ya yn yc)).setRow b1 (rqC m sc au pa ⟨ya, yn, yc⟩ ln)) ⟨ya, yn, yc⟩ pl from Sub.keep Y8.out KZ.out (fun b e h => M8.out b e h))
    generalize hWZ : World.setRow _ _ _ = WZ at *
    clear hWZ
    go_wp2
    exact ret_27 rfl rfl b1 _ (HI27.out m sc au pa ⟨ya, yn, yc⟩ ln) rfl BZ.out ⟨⟨ya, yn, yc⟩, rfl, QZ.out, YZ.out, N8.out⟩
end Go.Proofs.YthefijjdffafkaaDoor
