/-
  What the law's book does when packets are told: a contract that the walk of the law LossOnce uses.
-/
import Derived.Test.YtjhihcmemnhbbaaOnN
import Derived.StillTailTactics
import Derived.BigRegion
namespace Go.Proofs.Ytjhihcmemnhbbaa
open Go.RowKit
set_option linter.unusedVariables false
set_option maxRecDepth 20000

theorem flt_drop {α : Type} {f : α → List Value} {m : Nat} (hf : ∀ x, (f x).length = m) (l : List α) (i : Nat) (h : i ≤ l.length) : (flt f l).drop (i * m) = flt f (l.drop i) := by
  have e : flt f l = flt f (l.take i) ++ flt f (l.drop i) := by rw [← flt_append, List.take_append_drop]
  rw [e, List.drop_left' (by rw [flt_len hf, List.length_take]; congr 1; omega)]
section
variable {ops : Array Oper} {rest : List Oper} {o : Oper} {a : Act} {w : World} {K : Act → World → Prop} {R : Exit → Act → World → Prop} {E : Prop}
/-- append by its run's equation, as one step of a region that draws, where the slot is known. -/
theorem step_append_at (q : Nat) (hq : o.dst = some q) (hg : o.guard = none) (s x : Operand) (t1 t2 : TypeId) (hop : o.op = Op.call { callee := Callee.builtin Builtin.append, args := #[s, x], argTypes := #[t1, t2] })
    {sv xv v : Value} {w2 : World} (hs : a.eval s = sv) (hx : a.eval x = xv) (hr : (Builtin.append_ #[t1, t2] o.type #[sv, xv]).run Try.prog w = .ok v w2) (hK : K (a.put o.dst v) w2) :
    if Region.wanted o (yielded ops a.tmps) = true then Oper.wp Try.prog o a w K R else E := step_append hg s x t1 t2 hop hs hx hr hK
end
/-- The book's row without one entry. -/
theorem rowO_cut {w : World} {d : Sv} {l : List On} (h : RowO w d l) {i : Nat} (hi : i < d.n) (hn : d.n ≤ 12288) {a' : Option Addr} (ha' : a' = if d.c = i + 1 then d.a else d.a.map (·.add ((i + 1) * 3))) :
    ∃ (x : Sv) (w1 : World) (y : Sv) (w2 : World), (Builtin.append_ #[35, 35] 35 #[.slice (some ⟨w.heap.size, 0, none⟩) 0 0, .slice d.a i d.c]).run Try.prog (w.alloc (.cells #[] 43)) = .ok (.slice x.a x.n x.c) w1 ∧
      (Builtin.append_ #[35, 35] 35 #[.slice x.a x.n x.c, .slice a' (d.n - (i + 1)) (d.c - (i + 1))]).run Try.prog w1 = .ok (.slice y.a y.n y.c) w2 ∧ RowO w2 y (l.eraseIdx i) ∧ Q w w1 ∧ Q w w2 ∧ ∀ b, blk y.a = some b → w.heap.size ≤ b := by
  obtain ⟨i0, hinf, hz0, hz1, hz2⟩ := info_parts info43
  have hl := h.len
  have hcap := Sub.cap h
  have qa : Q w (w.alloc (.cells #[] 43)) := (Q.refl w).alloc _
  obtain ⟨g, o, ha, hf, hc⟩ := h.some_ (by omega)
  have S0 : Sub (w.alloc (.cells #[] 43)) 43 3 (some ⟨w.heap.size, 0, none⟩) 0 0 [] := ⟨rfl, .inr ⟨w.heap.size, 0, #[], rfl, heap_alloc_new w _, Nat.le_refl _, Nat.zero_le _, by simp, fun j hj => by simp at hj⟩⟩
  have src1 : Src Try.prog 3 35 (.slice d.a i d.c) i (flt ocl (l.take i)) (w.alloc (.cells #[] 43)) := by
    rw [ha]
    refine Src.ofSlice _ Try.underlying35 ⟨g, o, none⟩ i d.c _ (by rw [flt_len ocl_len, List.length_take]; congr 1; omega) (fun j v hj => ?_) (flt_one ocl_one _)
    rw [← flt_take ocl_len l i, List.getElem?_take] at hj
    split at hj
    · have h1 := hc j v hj
      rw [addr_add, qa.cell (by exact lt_of_cell h1)]; exact h1
    · cases hj
  obtain ⟨xa, xc, w1, r1, S1, k1, b1⟩ := sub_append (P := Try.prog) (ty := 35) Try.underlying35 hinf hz0 hz1 hz2 (by rfl) S0 src1 (by unfold maxLen; omega) (by omega)
  have q1 : Q w w1 := ((Keep.ofQ (F := fun b => b = w.heap.size) qa).trans (k1.mono (fun b _ e => by simpa [blk] using e.symm))).toQ (fun b hb e => by omega)
  have hx : ∀ b, blk xa = some b → w.heap.size ≤ b := fun b e => by
    rcases b1 with h1 | h1
    · rw [h1] at e; simp [blk] at e; omega
    · rw [h1] at e; simp at e; have := qa.size; omega
  obtain ⟨o2, ha2⟩ : ∃ o2, a' = some ⟨g, o2, none⟩ ∧ (o2 = o ∧ d.n - (i + 1) = 0 ∨ o2 = o + (i + 1) * 3) := by
    rw [ha', ha]
    split
    · exact ⟨o, rfl, .inl ⟨rfl, by omega⟩⟩
    · exact ⟨o + (i + 1) * 3, by simp only [Option.map_some, addr_add], .inr rfl⟩
  have src2 : Src Try.prog 3 35 (.slice a' (d.n - (i + 1)) (d.c - (i + 1))) (d.n - (i + 1)) (flt ocl (l.drop (i + 1))) w1 := by
    rw [ha2.1]
    refine Src.ofSlice _ Try.underlying35 ⟨g, o2, none⟩ _ _ _ (by rw [flt_len ocl_len, List.length_drop, hl]) (fun j v hj => ?_) (flt_one ocl_one _)
    rcases ha2.2 with ⟨_, e⟩ | e
    · rw [List.getElem?_eq_none (by rw [flt_len ocl_len, List.length_drop, hl, e]; omega)] at hj; cases hj
    · rw [← flt_drop ocl_len l (i + 1) (by omega), List.getElem?_drop] at hj
      have h1 := hc _ v hj
      rw [addr_add, e, Nat.add_assoc, q1.cell (by exact lt_of_cell h1)]; exact h1
  obtain ⟨ya, yc, w2, r2, S2, k2, b2⟩ := sub_append (P := Try.prog) (ty := 35) Try.underlying35 hinf hz0 hz1 hz2 (by rfl) S1 src2 (by unfold maxLen; omega) (by omega)
  have q2 : Q w w2 := ((Keep.ofQ (F := fun b => w.heap.size ≤ b) q1).trans (k2.mono (fun b _ e => hx b e))).toQ (fun b hb e => by omega)
  refine ⟨⟨xa, 0 + i, xc⟩, w1, ⟨ya, 0 + i + (d.n - (i + 1)), yc⟩, w2, r1, r2, ?_, q1, q2, fun b e => ?_⟩
  · show Sub _ _ _ _ _ _ (flt ocl _)
    rw [List.eraseIdx_eq_take_drop_succ, flt_append]
    exact S2
  · rcases b2 with h1 | h1
    · exact hx b (by rw [← h1]; exact e)
    · simp only at e; rw [h1] at e; simp at e; have := q1.size; omega

/-- What holds when j numbers have been taken. -/
structure TB (w : World) (bb : Nat) (d0 : Sv) (k : Int) (ns : List Int) (l0 : List On) (U0 : Int) (j : Nat) (wr : World) (d : Sv) (l : List On) (U : Int) : Prop where
  bk : Bk wr bb d l U
  eq : tkB k ns l0 U0 = tkB k (ns.drop j) l U
  len : l.length ≤ 12288
  sum : U = sumB l
  sz : ∀ x ∈ l, 0 ≤ x.s ∧ x.s ≤ 65535
  kp : Keep (fun b => b = bb) w wr
  fr : ∀ b, blk d.a = some b → blk d0.a = some b ∨ w.heap.size ≤ b
theorem sumB_bound {l : List On} (h : ∀ x ∈ l, 0 ≤ x.s ∧ x.s ≤ 65535) : 0 ≤ sumB l ∧ sumB l ≤ 65535 * (l.length : Int) := by
  induction l with
  | nil => simp [sumB]
  | cons p r ih =>
    have h1 := ih (fun q hq => h q (List.mem_cons_of_mem _ hq))
    have h2 := h p List.mem_cons_self
    rw [sumB_cons, List.length_cons]
    omega
/-- What take answers. -/
def BkAns (w : World) (bb : Nat) (d0 : Sv) (R : Bool × List On × Int) (e : Ending) (w' : World) : Prop :=
  e = .returned (.bool R.1) ∧ ∃ d, Bk w' bb d R.2.1 R.2.2 ∧ Keep (fun b => b = bb) w w' ∧ ∀ b, blk d.a = some b → blk d0.a = some b ∨ w.heap.size ≤ b

set_option maxHeartbeats 4000000 in
theorem btake_any {w : World} {bb : Nat} {d0 : Sv} {l0 : List On} {U0 : Int} (h : Bk w bb d0 l0 U0) (hlen : l0.length ≤ 12288) (hU : U0 = sumB l0) (hsz : ∀ x ∈ l0, 0 ≤ x.s ∧ x.s ≤ 65535) (k : Int) {x : Sv} {ns : List Int} (hx : RowI w x ns) (hfar : blk x.a ≠ some bb) :
    Calls Try.prog 17 #[.pointer (some ⟨bb, 0, none⟩), .int .i64 k, .slice x.a x.n x.c] w fun e w' => BkAns w bb d0 (tkB k ns l0 U0) e w' := by
  obtain ⟨xa, m, xc⟩ := x
  have hxl := hx.len
  simp only at hxl hfar
  have hmm : m ≤ 9223372036854775807 := by
    rcases hx.2 with ⟨_, e, _⟩ | ⟨_, _, _, _, _, g1, g2, _⟩
    · simp only at e; omega
    · simp only [maxLen] at g1 g2; omega
  have T0 := hid (show TB w bb d0 k ns l0 U0 0 w d0 l0 U0 from ⟨h, rfl, hlen, hU, hsz, Keep.refl _ _, fun b e => .inl e⟩)
  have HX := hid hx
  have HXL := hid hxl
  have HF := hid hfar
  have HMM := hid hmm
  clear h hlen hU hsz hx hxl hfar hmm
  go_enter Try.func17, Try.ntmps17
  go_wp2_with fail
  go_loopw [13] (fun i wr => ∃ (j : Nat) (d : Sv) (l : List On) (U : Int), j ≤ m ∧ i = .int .i64 j ∧ TB w bb d0 k ns l0 U0 j wr d l U) (fun i _ => m - (intOf i).toNat)
  case atStart => exact ⟨0, d0, l0, U0, Nat.zero_le _, rfl, T0.out⟩
  case round =>
    obtain ⟨j, d, l, U, hj, rfl, hT⟩ := hrel
    by_cases hlt : j < m
    · have hlt' : (j : Int) < (m : Int) := by omega
      have hwi : IntKind.i64.wrap ((j : Int) + 1) = ((j + 1 : Nat) : Int) := by have := HMM.out; rw [IntKind.wrap_i64]; omega
      obtain ⟨xg, xo, rfl, _, hxc⟩ := (Sub.keep HX.out hT.kp (fun b e1 e2 => HF.out (by rw [← e2]; exact e1))).some_ (show 0 < m by omega)
      have cx := hxc j (.int .i64 (ns.getD j 0)) (by
        have := HXL.out
        rw [List.getElem?_map, List.getD_eq_getElem?_getD, List.getElem?_eq_getElem (by omega)]; rfl)
      have HND := hid (show ns.drop j = ns.getD j 0 :: ns.drop (j + 1) by
        have := HXL.out
        rw [List.drop_eq_getElem_cons (by omega), List.getD_eq_getElem?_getD, List.getElem?_eq_getElem (by omega)]; rfl)
      generalize ns.getD j 0 = n at *
      have hbd := hT.bk.hd
      have c0 : wr.cell? ⟨bb, 0, none⟩ = some (.slice d.a d.n d.c) := by rw [cell_of_row _ _ _ _ 37 (0, 0) hbd]; rfl
      have c1 : wr.cell? ⟨bb, 1, none⟩ = some (.int .i64 U) := by rw [cell_of_row _ _ _ _ 37 (0, 0) hbd]; rfl
      have f1 := frozen_of_row wr bb 1 _ 37 hbd
      have HT := hid hT
      have HLE := hid hT.bk.row.len
      obtain ⟨da, dn, dc⟩ := d
      simp only at c0 HLE
      have hdn : dn ≤ 12288 := by have := HLE.out; have := hT.len; omega
      clear hT hbd hxc
      go_wp2_with fail
      generalize hws : wr = ws at *
      clear hws
      go_loopw [9, 22] (fun at_ i2 wx => ∃ j2 : Nat, j2 ≤ dn ∧ i2 = .int .i64 j2 ∧ at_ = .int .i64 (atB l k n j2) ∧ ws = wx) (fun _ i2 _ => dn - (intOf i2).toNat)
      case atStart => exact ⟨0, Nat.zero_le _, rfl, rfl, rfl⟩
      case round =>
        obtain ⟨j2, hj2, rfl, rfl, rfl⟩ := hrel
        by_cases hl2 : j2 < dn
        · have hl2' : (j2 : Int) < (dn : Int) := by omega
          have hw2 : IntKind.i64.wrap ((j2 : Int) + 1) = ((j2 + 1 : Nat) : Int) := by rw [IntKind.wrap_i64]; omega
          obtain ⟨g, o, hda, _, hat⟩ := RowO.at_ HT.out.bk.row hl2
          simp only at hda
          subst hda
          have e0 := hat.c0
          have e1 := hat.c1
          have HS := hid (show atB l k n (j2 + 1) = if hit k n (l.getD j2 noOn) = true then (j2 : Int) else atB l k n j2 from rfl)
          obtain ⟨y, hy⟩ : ∃ y, y = l.getD j2 noOn := ⟨_, rfl⟩
          rw [← hy] at e0 e1 HS
          clear hat hy
          by_cases h1 : y.k = k
          · have b1 : (y.k == k) = true := by simpa using h1
            by_cases h2 : y.n = n
            · have b2 : (y.n == n) = true := by simpa using h2
              have HR := hid (show atB l k n (j2 + 1) = (j2 : Int) by rw [HS.out, if_pos (by unfold hit; simp [h1, h2])])
              clear h1 h2
              go_wp2
              go_roundw
              case rel => exact ⟨j2 + 1, by omega, by go_num, by rw [HR.out], by first | rfl | trivial⟩
              case measure => simp [intOf]; omega
            · have b2 : (y.n == n) = false := by simpa using h2
              have HR := hid (show atB l k n (j2 + 1) = atB l k n j2 by rw [HS.out, if_neg (by unfold hit; simp [h2])])
              clear h1 h2
              go_wp2
              go_roundw
              case rel => exact ⟨j2 + 1, by omega, by go_num, by rw [HR.out], by first | rfl | trivial⟩
              case measure => simp [intOf]; omega
          · have b1 : (y.k == k) = false := by simpa using h1
            have HR := hid (show atB l k n (j2 + 1) = atB l k n j2 by rw [HS.out, if_neg (by unfold hit; simp [h1])])
            clear h1
            go_wp2
            go_roundw
            case rel => exact ⟨j2 + 1, by omega, by go_num, by rw [HR.out], by first | rfl | trivial⟩
            case measure => simp [intOf]; omega
        · obtain rfl : j2 = dn := by omega
          have HLL := HLE.out
          by_cases hneg : atB l k n j2 < 0
          · have HR := hid (show tkB k ns l0 U0 = (false, l, U) by rw [HT.out.eq, HND.out, tkB, if_pos (by rw [HLL]; exact hneg)])
            have d1 : decide (atB l k n j2 < 0) = true := by simp [hneg]
            clear HLL hl2 hj2 hlt hj hdn
            go_wp2
            go_ret
            refine ⟨ret_bool (by rw [HR.out]), ⟨da, j2, dc⟩, ?_, HT.out.kp, HT.out.fr⟩
            rw [HR.out]; exact HT.out.bk
          · have d1 : decide (atB l k n j2 < 0) = false := by simp; omega
            have hrg := atB_range l k n j2
            have HQ := hid (show tkB k ns l0 U0 = tkB k (ns.drop (j + 1)) (l.eraseIdx (atB l k n j2).toNat) (U - (l.getD (atB l k n j2).toNat noOn).s) by rw [HT.out.eq, HND.out, tkB, if_neg (by rw [HLL]; exact hneg), HLL])
            generalize atB l k n j2 = A at *
            obtain ⟨P, rfl⟩ : ∃ P : Nat, A = (P : Int) := ⟨A.toNat, by omega⟩
            rw [Int.toNat_natCast] at HQ
            have hPl : P < j2 := by omega
            have hPi : (P : Int) < (j2 : Int) := by omega
            obtain ⟨g, o, hda, _, hat⟩ := RowO.at_ HT.out.bk.row hPl
            simp only at hda
            subst hda
            have e2 := hat.c2
            have hPm : l.getD P noOn ∈ l := by rw [List.getD_eq_getElem?_getD, List.getElem?_eq_getElem (by omega)]; exact List.getElem_mem _
            have hys := HT.out.sz _ hPm
            have hsb := sumB_bound HT.out.sz
            have hsm := HT.out.sum
            have hll := HT.out.len
            have her := sumB_erase (show P < l.length by omega)
            obtain ⟨y, hy⟩ : ∃ y, y = (l.getD P noOn).s := ⟨_, rfl⟩
            rw [← hy] at e2 hys HQ her
            have hwU : IntKind.i64.wrap (U - y) = U - y := by rw [IntKind.wrap_i64]; omega
            have hcap := Sub.cap HT.out.bk.row
            simp only at hcap
            have hwP : IntKind.i64.wrap ((P : Int) + 1) = ((P + 1 : Nat) : Int) := by rw [IntKind.wrap_i64]; omega
            have hbd := HT.out.bk.hd
            have hbl := lt_of_block hbd
            obtain ⟨w4, hw4⟩ : ∃ w4, w4 = (ws.setCell ⟨bb, 1, none⟩ (.int .i64 (U - y))).drew := ⟨_, rfl⟩
            have hb4 : w4.heap[bb]? = some (.cells #[.slice (some ⟨g, o, none⟩) j2 dc, .int .i64 (U - y)] 37 (0, 0)) := by
              rw [hw4]; exact heap_setCell_same ws bb 1 _ 37 _ hbd
            have k4 : Keep (fun b => b = bb) ws w4 := by rw [hw4]; exact ((Keep.refl (fun b => b = bb) ws).setCell bb 1 _ (.inl rfl)).drew
            have row4 := Sub.keep HT.out.bk.row k4 (fun b e1 e2 => HT.out.bk.far (by rw [← e2]; exact e1))
            obtain ⟨x1, w1, y2, w2, r1, r2, hrow, q1, q2, hnew⟩ := rowO_cut (w := w4.drew) (d := ⟨some ⟨g, o, none⟩, j2, dc⟩) (Sub.q row4 ((Q.refl w4).drew)) hPl hdn rfl
            have hb4d : w4.drew.heap[bb]? = some (.cells #[.slice (some ⟨g, o, none⟩) j2 dc, .int .i64 (U - y)] 37 (0, 0)) := hb4
            have hb2 := (Below.block q2 _ (lt_of_block hb4d)).trans hb4d
            have hb1 := (Below.block q1 _ (lt_of_block hb4d)).trans hb4d
            have z0 : w4.cell? ⟨bb, 0, none⟩ = some (.slice (some ⟨g, o, none⟩) j2 dc) := by rw [cell_of_row _ _ _ _ 37 (0, 0) hb4]; rfl
            have za : (w4.alloc (.cells #[] 43)).cell? ⟨bb, 0, none⟩ = some (.slice (some ⟨g, o, none⟩) j2 dc) := (((Q.refl w4).alloc _).cell (p := ⟨bb, 0, none⟩) (lt_of_block hb4)).trans z0
            have z1 : w1.cell? ⟨bb, 0, none⟩ = some (.slice (some ⟨g, o, none⟩) j2 dc) := by rw [cell_of_row _ _ _ _ 37 (0, 0) hb1]; rfl
            have z2 : w2.cell? ⟨bb, 0, none⟩ = some (.slice (some ⟨g, o, none⟩) j2 dc) := by rw [cell_of_row _ _ _ _ 37 (0, 0) hb2]; rfl
            have zf := frozen_of_row w2 bb 0 _ 37 hb2
            have hb5 := heap_setCell_same w2 bb 0 _ 37 (.slice y2.a y2.n y2.c) hb2
            have k5 : Keep (fun b => b = bb) ws (w2.setCell ⟨bb, 0, none⟩ (.slice y2.a y2.n y2.c)) := (k4.trans (Keep.ofQ (((Q.refl w4).drew).trans q2))).setCell bb 0 _ (.inl rfl)
            have hne : blk y2.a ≠ some bb := fun e => by have h1 := hnew _ e; have h2 := lt_of_block hb4d; omega
            have FIN := hid (show TB w bb d0 k ns l0 U0 (j + 1) (w2.setCell ⟨bb, 0, none⟩ (.slice y2.a y2.n y2.c)) y2 (l.eraseIdx P) (U - y) from by
              refine ⟨⟨hb5, Sub.keep hrow ((Keep.refl (fun b => b = bb) w2).setCell bb 0 _ (.inl rfl)) (fun b e1 e2 => hne (by rw [← e2]; exact e1)), hne⟩, HQ.out, ?_, by omega, fun x hx => HT.out.sz x (List.mem_of_mem_eraseIdx hx), HT.out.kp.trans k5, fun b e => .inr ?_⟩
              · rw [List.length_eraseIdx]; split <;> omega
              · have h1 : w4.heap.size ≤ b := hnew b e; have h2 := HT.out.kp.size; have h3 := k4.size; omega)
            have hPd : P ≤ dc := by omega
            have hP1 : (P : Int) + 1 ≤ (j2 : Int) := by omega
            have hP0 : (0 : Int) ≤ (P : Int) + 1 := by omega
            have hP2 : P + 1 ≤ j2 := by omega
            have R1 := hid r1
            have R2 := hid r2
            have HW4 := hid hw4.symm
            clear hneg hrg hat hPm hys hsb hsm hll her hy hbd hbl hb4 k4 row4 r1 r2 hrow q1 q2 hnew hb4d hb2 hb1 hb5 k5 hne hw4 HLL hl2 hj2 HQ
            go_wp2_with fail
            go_still_tail 15, (by kernel_rfl)
            go_wp2_with fail
            rw [HW4.out]
            by_cases hd : dc = P + 1
            · have R3 := hid (show (Builtin.append_ #[35, 35] 35 #[.slice x1.a x1.n x1.c, .slice (some ⟨g, o, none⟩) (j2 - (P + 1)) (dc - (P + 1))]).run Try.prog w1 = .ok (.slice y2.a y2.n y2.c) w2 from by have h1 := R2.out; simp only [if_pos hd] at h1; exact h1)
              have hdT : (dc = P + 1) = True := eq_true hd
              clear hd R2
              go_region_law (first | (refine step_append_at 74 rfl rfl _ _ _ _ rfl (by simp [Act.eval, Act.put]) (by simp [Act.eval, Act.put]) R1.out ?_) | (refine step_append_at 82 rfl rfl _ _ _ _ rfl (by simp [Act.eval, Act.put]) (by simp [Act.eval, Act.put]) R3.out ?_))
              all_goals
                go_wp2_with fail
                go_roundw
                case rel => exact ⟨j + 1, _, _, _, by omega, by go_num, FIN.out⟩
                case measure => simp [intOf]; omega
            · have R3 := hid (show (Builtin.append_ #[35, 35] 35 #[.slice x1.a x1.n x1.c, .slice (some ⟨g, o + (P + 1) * 3, none⟩) (j2 - (P + 1)) (dc - (P + 1))]).run Try.prog w1 = .ok (.slice y2.a y2.n y2.c) w2 from by have h1 := R2.out; simp only [if_neg hd, Option.map_some, addr_add] at h1; exact h1)
              have hdF : (dc = P + 1) = False := eq_false hd
              clear hd R2
              go_region_law (first | (refine step_append_at 74 rfl rfl _ _ _ _ rfl (by simp [Act.eval, Act.put]) (by simp [Act.eval, Act.put]) R1.out ?_) | (refine step_append_at 82 rfl rfl _ _ _ _ rfl (by simp [Act.eval, Act.put]) (by simp [Act.eval, Act.put]) R3.out ?_))
              all_goals
                go_wp2_with fail
                go_roundw
                case rel => exact ⟨j + 1, _, _, _, by omega, by go_num, FIN.out⟩
                case measure => simp [intOf]; omega
    · obtain rfl : j = m := by omega
      have HR := hid (show tkB k ns l0 U0 = (true, l, U) by rw [hT.eq, List.drop_of_length_le (by rw [HXL.out]; exact Nat.le_refl _)]; rfl)
      have HT := hid hT
      clear hT hlt hj
      go_wp2
      go_ret
      refine ⟨ret_bool (by rw [HR.out]), d, ?_, HT.out.kp, HT.out.fr⟩
      rw [HR.out]; exact HT.out.bk
end Go.Proofs.Ytjhihcmemnhbbaa
