/-
  What the document's own rightID, take and Usual do: contracts that the statements' walks use.
-/
import Derived.Test.YtidbimhcebfjfaaRDr
namespace Go.Proofs.Ytidbimhcebfjfaa
open Go.RowKit
set_option linter.unusedVariables false
set_option maxRecDepth 20000

/-- A whole row is loaded by an operation that its guard lets by. -/
theorem wpList_load_g {ops : Array Oper} {rest : List Oper} {o : Oper} {a : Act} {w : World} {Q : Exit → Act → World → Prop} (hw : Region.wanted o (yielded ops a.tmps) = true) (x : Operand) (ho : o.op = .load 36 x)
    (g : Nat) (hx : a.eval x = .pointer (some ⟨g, 0, none⟩)) (m : Pm) (s : Nat → Sv) (hg : RB w g (rc m s))
    (h : wpList Try.prog ops Q rest (a.put o.dst (.agg (rc m s))) w) : wpList Try.prog ops Q (o :: rest) a w := by
  unfold wpList
  rw [if_pos hw]
  exact .inl (wp_load_row (P := Try.prog) 36 x ho g hx 36 (rc m s) (0, 0) _ hg Try.underlying36 rfl info36 h)

set_option maxHeartbeats 8000000 in
theorem rrid_any (m : Pm) (s : Nat → Sv) (i : Nat) (srv : Bool) (w : World) (hl : Len m s) :
    Calls Try.prog 39 #[.agg (rc m s), .int .i64 (i : Int), .bool srv] w fun e w' => e = .returned (.bool (rgt m i srv)) ∧ Q w w' := by
  have KI := hid (rkind_any i)
  by_cases h0 : kd i = 0
  · have hr : rgt m i srv = true := by unfold rgt; rw [h0]; rfl
    have hk : kB i = 32 := by unfold kB; rw [h0]; rfl
    rw [hr]
    rw [hk] at KI
    clear hr hk h0
    go_enter Try.func39, Try.ntmps39
    go_upto_region 1 with fail
    generalize hw1 : World.alloc w _ = w1
    have Q1 := hid (show Q w w1 from by rw [← hw1]; exact (Q.refl w).alloc _)
    clear hw1
    go_wp2_with (go_at_call 27; refine (KI.out _).mono ?_; rintro e w2 ⟨rfl, rfl⟩)
    go_ret
    exact ⟨rfl, Q1.out⟩
  · have hk : (kB i == 32) = false := by
      have := kd_le i
      unfold kB
      rcases (show kd i = 1 ∨ kd i = 2 ∨ kd i = 3 ∨ kd i = 4 by omega) with h | h | h | h <;> rw [h] <;> rfl
    have HC := hid (fun (W : World) => rright_any m s i srv W h0 hl)
    clear h0 hl
    generalize rgt m i srv = rv at *
    generalize kB i = kb at *
    go_enter Try.func39, Try.ntmps39
    go_upto_region 1 with fail
    generalize hw1 : World.alloc w _ = w1
    have R1 := hid (show RB w1 w.heap.size (rc m s) from by rw [← hw1]; exact heap_alloc_new w _)
    have Q1 := hid (show Q w w1 from by rw [← hw1]; exact (Q.refl w).alloc _)
    clear hw1
    go_wp2_with (first
      | (go_at_call 27; refine (KI.out _).mono ?_; rintro e w2 ⟨rfl, rfl⟩)
      | (refine wpList_load_g (by kernel_rfl) _ rfl w.heap.size rfl m s R1.out ?_)
      | (go_at_call 43; refine (HC.out _).mono ?_; rintro e w3 ⟨rfl, q3⟩; have Q3 := hid (Q1.out.trans q3); clear q3))
    go_ret
    exact ⟨rfl, Q3.out⟩

set_option maxHeartbeats 8000000 in
theorem rusual_any (w : World) : Calls Try.prog 17 #[] w fun e w' => e = .returned (.agg (rc usM (fun _ => nilS))) ∧ Q w w' := by
  go_enter Try.func17, Try.ntmps17
  go_upto_region 1 with fail
  generalize hw1 : World.alloc w _ = w1
  have T1 := hid (show RB w1 w.heap.size (rc zeM (fun _ => nilS)) from by rw [← hw1]; exact heap_alloc_new w _)
  have Q1 := hid (show Q w w1 from by rw [← hw1]; exact (Q.refl w).alloc _)
  clear hw1
  go_wp2_with (refine wpList_store_row rfl 36 _ _ rfl w1.heap.size (rc zeM (fun _ => nilS)) rfl rfl 36 _ (heap_alloc_new w1 _) info36 rfl (rc_one _ _) ?_; refine Hid.out ?_)
  refine hid ?_
  generalize hw2 : World.setRow _ _ _ = w2
  have k2 : Keep (fun i => i = w1.heap.size) w1 w2 := by rw [← hw2]; exact ((Keep.refl _ w1).alloc _).setRow _ _ (.inl rfl)
  have R2 := hid (show RB w2 w1.heap.size (rc zeM (fun _ => nilS)) from by rw [← hw2]; exact setRow_heap _ _ _ _ 36 _ (heap_alloc_new w1 _))
  clear hw2
  have l1 := lt_of_block T1.out
  have T2 := hid (show RB w2 w.heap.size (rc zeM (fun _ => nilS)) from (k2.block _ l1 (by omega)).trans T1.out)
  have Q2 := hid (show Q w w2 from k2.below Q1.out Q1.out.size (fun i e => by have := Q1.out.size; omega))
  have HN := hid (show w.heap.size ≠ w1.heap.size ∧ w.heap.size ≤ w1.heap.size from by omega)
  clear k2 T1 Q1 l1
  generalize w1.heap.size = qb at *
  clear w1
  generalize hpb : w.heap.size = pb at *
  have HPB := hid hpb
  clear hpb
  have r3 := R2.out.cell (j := 3) (v := .int .i64 0) rfl
  have r10 := R2.out.cell (j := 10) (v := .int .i64 0) rfl
  have r11 := R2.out.cell (j := 11) (v := .int .i64 0) rfl
  have r14 := R2.out.cell (j := 14) (v := .int .i64 0) rfl
  have f3 := R2.out.free 3
  have f10 := R2.out.free 10
  have f11 := R2.out.free 11
  have f14 := R2.out.free 14
  go_upto_region 3 with fail
  generalize hw3 : World.setCell _ _ _ = w3
  have k3 : Keep (fun i => i = qb) w2 w3 := by rw [← hw3]; exact ((((Keep.refl (fun i => i = qb) _).setCell _ _ _ (.inl rfl)).setCell _ _ _ (.inl rfl)).setCell _ _ _ (.inl rfl)).setCell _ _ _ (.inl rfl)
  have R3 := hid (show RB w3 qb (rc usM (fun _ => nilS)) from by rw [← hw3]; exact (((R2.out.set 3 (.int .i64 65527)).set 10 (.int .i64 3)).set 11 (.int .i64 25)).set 14 (.int .i64 2))
  clear hw3
  have T3 := hid (show RB w3 pb (rc zeM (fun _ => nilS)) from (k3.block _ T2.out.lt HN.out.1).trans T2.out)
  have Q3 := hid (show Q w w3 from k3.below Q2.out Q2.out.size (fun i e => by have := HN.out; have := HPB.out; omega))
  clear k3 T2 Q2 R2 r3 r10 r11 r14 f3 f10 f11 f14
  go_wp2_with (first
    | (refine wpList_load_row rfl 36 _ rfl qb rfl 36 (rc usM (fun _ => nilS)) (0, 0) _ R3.out Try.underlying36 rfl info36 ?_)
    | (refine wpList_store_row rfl 36 _ _ rfl pb (rc usM (fun _ => nilS)) rfl rfl 36 _ T3.out info36 rfl (rc_one _ _) ?_; refine Hid.out ?_))
  refine hid ?_
  generalize hw7 : World.setRow _ _ _ = w7
  have k7 : Keep (fun i => i = pb) w3 w7 := by rw [← hw7]; exact (Keep.refl _ w3).setRow _ _ (.inl rfl)
  have b7 : w7.heap[pb]? = some (.cells (rc usM (fun _ => nilS)) 36 (0, 0)) := by rw [← hw7]; exact setRow_heap _ _ _ _ 36 _ T3.out
  clear hw7
  have q7 : Q w w7 := k7.below Q3.out Q3.out.size (fun i e => by have := HPB.out; omega)
  go_wp2
  exact ret_rs rfl rfl pb 36 (rc usM (fun _ => nilS)) rfl rfl b7 ⟨rfl, q7⟩

/-- What take tells. -/
def RTA (w : World) (pb : Nat) (m : Pm) (s : Nat → Sv) (i : Nat) (v : List Int) (y : Sv) (e : Ending) (w' : World) : Prop :=
  Keep (fun j => j = pb) w w' ∧ ((e = .returned (.bool true) ∧ ∃ m', tkn m i v = some m' ∧ RB w' pb (rc m' (updS s i y))) ∨ (e = .returned (.bool false) ∧ tkn m i v = none))
theorem kd_lt {i : Nat} (h : kd i ≠ 0) : i < 17 := by
  by_cases h' : 16 < i
  · exact absurd (kd_big h') h
  · omega

set_option maxHeartbeats 8000000 in
theorem rtake_any (pb : Nat) (m : Pm) (s : Nat → Sv) (i : Nat) (y : Sv) (v : List Int) (w : World) (hr : RB w pb (rc m s)) (hv : v.length = y.n) (hn : y.n ≤ 140737488355328) (hz : ∀ y ∈ v, 0 ≤ y ∧ y < 256) (hs : Seg w y.a v) :
    Calls Try.prog 38 #[.pointer (some ⟨pb, 0, none⟩), .int .i64 (i : Int), sv y] w fun e w' => RTA w pb m s i v y e w' := by
  have KI := hid (rkind_any i)
  have HR := hid hr
  have HV := hid hv
  have HZ := hid hz
  have HS := hid hs
  clear hr hv hz hs
  obtain ⟨ya, yn, yc⟩ := y
  dsimp only at hn
  have hle := kd_le i
  rcases (show kd i = 0 ∨ kd i = 1 ∨ (kd i = 2 ∨ kd i = 3) ∨ kd i = 4 by omega) with h | h | h | h
  · have hk : kB i = 32 := by unfold kB; rw [h]; rfl
    rw [hk] at KI
    have HT := hid (show tkn m i v = some m from by unfold tkn; rw [h]; rfl)
    have HU := hid (updS_num (s := s) (i := i) (y := ⟨ya, yn, yc⟩) (by omega))
    clear hk h hle
    go_enter Try.func38, Try.ntmps38
    go_wp2_with (go_at_call 27; refine (KI.out _).mono ?_; rintro e w2 ⟨rfl, rfl⟩)
    go_ret
    exact ⟨Keep.refl _ _, .inl ⟨rfl, m, HT.out, by rw [HU.out]; exact HR.out⟩⟩
  · have hk : kB i = 110 := by unfold kB; rw [h]; rfl
    rw [hk] at KI
    have hlt := kd_lt (i := i) (by omega)
    have HU := hid (updS_num (s := s) (i := i) (y := ⟨ya, yn, yc⟩) (by omega))
    have HG := hid (rget_any ya yn yc v 0 w HV.out (by omega) HZ.out HS.out)
    have HT := hid (show tkn m i v = (if (rd v 0).2.2 == 0 && (rd v 0).2.1 == (v.length : Int) then some (updN m i (rd v 0).1) else none) from by unfold tkn; rw [if_pos h]; rfl)
    rw [HV.out] at HT
    dsimp only at HT
    obtain ⟨x1, _, _⟩ := rc_at m s i hlt
    have c1 := HR.out.cell x1
    have f1 := HR.out.free i
    have RS := hid (fun (q : Int) => show RB (w.setCell ⟨pb, i, none⟩ (.int .i64 q)) pb (rc (updN m i q) s) from by have := HR.out.set i (.int .i64 q); rw [rc_num i hlt] at this; exact this)
    have h17 : (i : Int) < 17 := by omega
    have h00 : (0 : Int) ≤ (i : Int) := by omega
    generalize (rd v 0).1 = q at *
    generalize (rd v 0).2.1 = en at *
    generalize (rd v 0).2.2 = er at *
    clear hk h hle x1
    have hpl := lt_of_cell c1
    by_cases e1 : er = 0
    · subst e1
      by_cases e2 : en = (yn : Int)
      · have hb2 : (en == (yn : Int)) = true := by simpa using e2
        have HT2 := hid (show tkn m i v = some (updN m i q) from by rw [HT.out, e2]; simp)
        clear HT e2
        go_enter Try.func38, Try.ntmps38
        go_wp2_with (first | (go_at_call 27; refine (KI.out _).mono ?_; rintro e w2 ⟨rfl, rfl⟩) | (go_at_call 47; refine HG.out.mono ?_; rintro e w2 ⟨rfl, rfl⟩))
        go_ret
        exact ⟨keep_set _ _ _ _, .inl ⟨rfl, _, HT2.out, by rw [HU.out]; exact RS.out q⟩⟩
      · have hb2 : (en == (yn : Int)) = false := by simpa using e2
        have HT2 := hid (show tkn m i v = none from by rw [HT.out, hb2]; rfl)
        clear HT e2
        go_enter Try.func38, Try.ntmps38
        go_wp2_with (first | (go_at_call 27; refine (KI.out _).mono ?_; rintro e w2 ⟨rfl, rfl⟩) | (go_at_call 47; refine HG.out.mono ?_; rintro e w2 ⟨rfl, rfl⟩))
        go_ret
        exact ⟨keep_set _ _ _ _, .inr ⟨rfl, HT2.out⟩⟩
    · have hb1 : (er == 0) = false := by simpa using e1
      have HT2 := hid (show tkn m i v = none from by rw [HT.out, hb1]; rfl)
      clear HT e1
      go_enter Try.func38, Try.ntmps38
      go_wp2_with (first | (go_at_call 27; refine (KI.out _).mono ?_; rintro e w2 ⟨rfl, rfl⟩) | (go_at_call 47; refine HG.out.mono ?_; rintro e w2 ⟨rfl, rfl⟩))
      go_ret
      exact ⟨keep_set _ _ _ _, .inr ⟨rfl, HT2.out⟩⟩
  · have hk : kB i = 98 := by unfold kB; rcases h with h | h <;> rw [h] <;> rfl
    rw [hk] at KI
    have hlt := kd_lt (i := i) (by omega)
    have HT := hid (show tkn m i v = some (updB m i v) from by unfold tkn; rw [if_neg (by omega), if_pos h]; rfl)
    have eU : updS s i ⟨ya, yn, yc⟩ = fun j => if j = i then ⟨ya, yn, yc⟩ else s j := by
      funext j; unfold updS
      by_cases e : j = i
      · rw [if_pos ⟨h, e⟩, if_pos e]
      · rw [if_neg (fun x => e x.2), if_neg e]
    have HU := hid eU
    obtain ⟨_, x2, x3⟩ := rc_at m s i hlt
    have c2 := HR.out.cell x2
    have c3 := HR.out.cell x3
    have f2 := HR.out.free (17 + i)
    have f3 := HR.out.free (34 + i)
    have RS := hid (show RB ((w.setCell ⟨pb, 17 + i, none⟩ (.bool true)).setCell ⟨pb, 34 + i, none⟩ (sv ⟨ya, yn, yc⟩)) pb (rc (updB m i v) (fun j => if j = i then ⟨ya, yn, yc⟩ else s j)) from by have := (HR.out.set (17 + i) (.bool true)).set (34 + i) (sv ⟨ya, yn, yc⟩); rw [rc_byt i hlt m s v] at this; exact this)
    have h17 : (i : Int) < 17 := by omega
    have h00 : (0 : Int) ≤ (i : Int) := by omega
    have hpl := lt_of_cell c2
    generalize m.has i = hb at *
    generalize s i = sx at *
    obtain ⟨sa, sn, sc⟩ := sx
    clear hk h hle x2 x3 eU
    go_enter Try.func38, Try.ntmps38
    go_wp2_with (go_at_call 27; refine (KI.out _).mono ?_; rintro e w2 ⟨rfl, rfl⟩)
    go_region
    all_goals
      go_wp2
      go_ret
      refine ⟨?_, .inl ⟨rfl, _, HT.out, ?_⟩⟩
      · exact ((keep_set _ _ _ _).trans (keep_set _ _ _ _)).drew
      · rw [HU.out]; exact RS.out
  · obtain rfl := kd_four h
    have hk : kB 12 = 48 := rfl
    rw [hk] at KI
    have HU := hid (updS_num (s := s) (i := 12) (y := ⟨ya, yn, yc⟩) (by decide))
    have c1 := HR.out.cell (j := 51) (v := .bool m.mv) rfl
    have f1 := HR.out.free 51
    have RS := hid (show RB (w.setCell ⟨pb, 51, none⟩ (.bool true)) pb (rc { m with mv := true } s) from by have := HR.out.set 51 (.bool true); rw [rc_mrk] at this; exact this)
    have hpl := lt_of_cell c1
    clear hk h hle
    by_cases e : yn = 0
    · subst e
      have HT := hid (show tkn m 12 v = some { m with mv := true } from by rw [show v = [] from List.length_eq_zero_iff.1 HV.out]; rfl)
      go_enter Try.func38, Try.ntmps38
      go_wp2_with (go_at_call 27; refine (KI.out _).mono ?_; rintro e w2 ⟨rfl, rfl⟩)
      go_ret
      exact ⟨keep_set _ _ _ _, .inl ⟨rfl, _, HT.out, by rw [HU.out]; exact RS.out⟩⟩
    · have hb : ((yn : Int) == 0) = false := by simp; omega
      have HT := hid (show tkn m 12 v = none from by
        have hv0 : v ≠ [] := by intro h0; rw [h0] at HV; exact e HV.out.symm
        unfold tkn; rw [if_neg (by decide), if_neg (by decide), if_pos (show kd 12 = 4 from rfl), if_neg hv0])
      clear e
      go_enter Try.func38, Try.ntmps38
      go_wp2_with (go_at_call 27; refine (KI.out _).mono ?_; rintro e w2 ⟨rfl, rfl⟩)
      go_ret
      exact ⟨keep_set _ _ _ _, .inr ⟨rfl, HT.out⟩⟩
end Go.Proofs.Ytidbimhcebfjfaa
