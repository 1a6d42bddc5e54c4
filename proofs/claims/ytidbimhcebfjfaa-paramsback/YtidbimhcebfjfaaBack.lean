/-
  Parameters that are right for a side are read back from their bytes, with one more behind them that nobody knows: whatever the parameters, the side and that one.
-/
import Derived.Test.YtidbimhcebfjfaaRows
import Derived.Test.YtidbimhcebfjfaaBkB
import Derived.Test.YtidbimhcebfjfaaEnc
import Derived.Test.YtidbimhcebfjfaaCpd
import Derived.Test.YtidbimhcebfjfaaJnF
import Derived.Test.YtidbimhcebfjfaaRef
import Derived.Test.YtidbimhcebfjfaaAwk
import Derived.WalkKit
import Derived.ProofKit
import Derived.OpenShut
import Derived.ShutString
import Derived.ChangeOld
import Derived.Below
import Derived.SizedLaws
namespace Go.Proofs.Ytidbimhcebfjfaa.paramsBack
open Go.ChangeShapes Go.WideShapes Go.ChangeAt Go.RowKit
open Go.ChangeMaps (open_string shut_string)
set_option linter.unusedVariables false

set_option maxRecDepth 20000
theorem wpList_load_w {ops : Array Oper} {rest : List Oper} {o : Oper} {a : Act} {w : World} {R : Exit → Act → World → Prop} (hw : Region.wanted o (yielded ops a.tmps) = true) (x : Operand) (ho : o.op = .load 24 x)
    (g : Nat) (hx : a.eval x = .pointer (some ⟨g, 0, none⟩)) (m : Pm) (s : Nat → Sv) (hg : PB w g m s)
    (h : wpList Try.prog ops R rest (a.put o.dst (.agg (pc m s))) w) : wpList Try.prog ops R (o :: rest) a w := by
  unfold wpList
  rw [if_pos hw]
  exact .inl (wp_load_row (P := Try.prog) 24 x ho g hx 24 (pc m s) (0, 0) _ hg Try.underlying24 rfl info24 h)
set_option maxHeartbeats 8000000 in
theorem walk_no (m : Pm) (s : Nat → Sv) (srv : Bool) (id : Int) (v : Sv) (w : World) (hr : allR m srv = false) (hb : By w m s) (hn : ∀ i, kd i = 2 ∨ kd i = 3 → (s i).n ≤ 140737488355328) :
    Calls Try.prog 5 #[.agg (tc m s srv id v)] w fun r w' => r = .returned (.bool true) ∧ Below w.heap.size w w' := by
  have HAW := hid awake_any
  have HCP := hid (fun (W : World) (q : Q w W) => copied_any m s W (hb.q q) hn)
  have HE := hid (fun (W : World) (s' : Nat → Sv) (h : By W m s') => (encode_any m s' srv W h).mono (R' := fun e w' => ∃ (a : Option Addr) (c : Nat), e = .returned (.tuple #[.slice a 0 c, .int .i64 91]) ∧ Q W w') (by
    rintro e w' ⟨x, rfl, q, _, l⟩
    rw [chkE_no hr]
    unfold encB at l
    rw [hr] at l
    obtain ⟨xa, xn, xc⟩ := x
    have hx : xn = 0 := l.symm
    subst hx
    exact ⟨xa, xc, rfl, q⟩))
  have HK := hid (fun (W : World) (s' : Nat → Sv) (h : By W m s') => check_any m s' srv W h.len)
  rw [chkE_no hr] at HK
  clear hr hb hn
  by_cases hdummy : True
  · go_enter Try.func5, Try.ntmps5
    go_wp2_with fail
    generalize hw1 : World.alloc w _ = w1
    have T1 := hid (show TB w1 w.heap.size m s srv id v from by rw [← hw1]; exact heap_alloc_new w _)
    have Q1 := hid (show Q w w1 from by rw [← hw1]; exact (Q.refl w).alloc _)
    clear hw1
    generalize hR : Code.region 1 _ true = C
    have eR : C = Code.region 1 (RofN Try.f5 1) true := hR.symm.trans (by kernel_rfl)
    clear hR
    subst eR
    refine wp_region_noPanic ?_
    refine rgA (A := B1 m s srv id v w.heap.size) ?_ (rgT m s srv id v w.heap.size w1 _ T1.out (fun c a d v w h => h) ?_)
    · kernel_rfl
    intro w2 q2 p2
    refine NoPanic.normal ?_
    refine ‹∀ a w, Code.wp Try.prog _ _ a w → _› _ _ ?_
    have Q2 := hid (Q1.out.trans q2)
    have P2 := hid p2
    clear q2 p2 T1 Q1
    generalize w1.heap.size = xb at *
    clear w1
    go_wp2_with (first
      | (refine wpList_load_w (by kernel_rfl) _ rfl xb rfl m s (P2.out) ?_)
      | (go_at_call 8; refine (HCP.out _ Q2.out).mono ?_; rintro e w3 ⟨s3, rfl, q3, y3⟩; have Q3 := hid (Q2.out.trans q3); have P3 := hid (P2.out.q q3); have Y3 := hid y3; clear q3 y3)
      | (go_at_call 10; refine (HE.out _ _ Y3.out).mono ?_; rintro e w4 ⟨xa, xc, rfl, q4⟩; have Q4 := hid (Q3.out.trans q4); have P4 := hid (P3.out.q q4); clear q4; refine Hid.out ?_))
    refine hid ?_
    clear Q2 P2 Q3 P3 Y3
    go_wp2_with (first
      | (refine wpList_load_w (by kernel_rfl) _ rfl xb rfl m s (P4.out) ?_)
      | (go_at_call 8; refine (HCP.out _ Q4.out).mono ?_; rintro e w5 ⟨s5, rfl, q5, y5⟩; have Q5 := hid (Q4.out.trans q5); have Y5 := hid y5; clear q5 y5)
      | (go_at_call 9; refine (HK.out _ _ Y5.out).mono ?_; rintro e w6 ⟨rfl, q6⟩; have Q6 := hid (Q5.out.trans q6); clear q6)
      | (go_at_call 13; refine (HAW.out _).mono ?_; rintro e w7 ⟨rfl, q7⟩; have Q7 := hid (Q6.out.trans q7); clear q7))
    go_ret
    exact ⟨rfl, Q7.out⟩
  · exact absurd trivial hdummy

set_option maxHeartbeats 8000000 in
theorem walk_1 (m : Pm) (s : Nat → Sv) (srv : Bool) (id : Int) (v : Sv) (vz : List Int) (w : World) (hr : allR m srv = true) (hb : By w m s) (hrg : ∀ i, kd i = 2 ∨ kd i = 3 → ∀ y ∈ m.byt i, 0 ≤ y ∧ y < 256) (hn : ∀ i, kd i = 2 ∨ kd i = 3 → (s i).n ≤ 140737488355328) (hv : Seg w v.a vz ∧ vz.length = v.n ∧ ∀ y ∈ vz, 0 ≤ y ∧ y < 256) (h1 : ¬ 16 < id) :
    Calls Try.prog 5 #[.agg (tc m s srv id v)] w fun r w' => r = .returned (.bool true) ∧ Below w.heap.size w w' := by
  have hb1 : decide (id > 16) = false := by simp; omega
  have hb1' : decide ((16 : Int) < id) = false := by simp; omega
  have HCP := hid (fun (W : World) (q : Q w W) => copied_any m s W (hb.q q) (fun i hi => by have := hn i hi; omega))
  have HE := hid (fun (W : World) (s' : Nat → Sv) (h : By W m s') => encode_any m s' srv W h)
  unfold encB at HE
  rw [if_pos hr] at HE
  rw [chkE_ok hr] at HE
  have hlen := encT_len hr 16 (by omega)
  have hBT := encT_bytes hrg 16 (by omega)
  have HD := hid (fun (W : World) (x : Sv) (h : Seg W x.a (encT m 16)) (h2 : (encT m 16).length = x.n) => decode_any x.a x.n x.c (encT m 16) srv W h2 (by omega) hBT h)
  unfold AnsD at HD
  rw [dec_enc hr] at HD
  dsimp only at HD
  have HAL := hid (fun (W : World) (sa sb : Nat → Sv) (b1 : By W m sa) (b2 : By W (st m 16) sb) (q : ∀ i, kd i = 2 ∨ kd i = 3 → (m.byt i).length ≤ 140737488355328) => rsame_yes (nrm (st m 16)) (nrm m) (nrS sb) (nrS sa) W (alike_ts b1 b2 q))
  have HBY := hid hb
  have HLN := hid (show ∀ i, kd i = 2 ∨ kd i = 3 → (m.byt i).length ≤ 140737488355328 from fun i hi => by have h5 := (hb i hi).2; have h6 := hn i hi; omega)
  clear hr hrg hn hb hlen hBT h1 hv
  generalize st m 16 = M2 at *
  generalize encT m 16 = zt at *
  by_cases hdummy : True
  · go_enter Try.func5, Try.ntmps5
    go_wp2_with fail
    generalize hw1 : World.alloc w _ = w1
    have T1 := hid (show TB w1 w.heap.size m s srv id v from by rw [← hw1]; exact heap_alloc_new w _)
    have Q1 := hid (show Q w w1 from by rw [← hw1]; exact (Q.refl w).alloc _)
    clear hw1
    generalize hR : Code.region 1 _ true = C
    have eR : C = Code.region 1 (RofN Try.f5 1) true := hR.symm.trans (by kernel_rfl)
    clear hR
    subst eR
    refine wp_region_noPanic ?_
    refine rgA (A := B1 m s srv id v w.heap.size) ?_ (rgT m s srv id v w.heap.size w1 _ T1.out (fun c a d v w h => h) ?_)
    · kernel_rfl
    intro w2 q2 p2
    refine NoPanic.normal ?_
    refine ‹∀ a w, Code.wp Try.prog _ _ a w → _› _ _ ?_
    have Q2 := hid (Q1.out.trans q2)
    have P2 := hid p2
    clear q2 p2 T1 Q1
    generalize w1.heap.size = xb at *
    clear w1
    go_wp2_with (first
      | (refine wpList_load_w (by kernel_rfl) _ rfl xb rfl m s (P2.out) ?_)
      | (go_at_call 8; refine (HCP.out _ Q2.out).mono ?_; rintro e w3 ⟨s3, rfl, q3, y3⟩; have Q3 := hid (Q2.out.trans q3); have P3 := hid (P2.out.q q3); have Y3 := hid y3; clear q3 y3)
      | (go_at_call 10; refine (HE.out _ _ Y3.out).mono ?_; rintro e w4 ⟨x, rfl, q4, x4, n4⟩; have Q4 := hid (Q3.out.trans q4); have P4 := hid (P3.out.q q4); have X4 := hid x4; have N4 := hid n4; clear q4 x4 n4)
      | (go_at_call 19; refine (HD.out _ x X4.out N4.out).mono ?_; rintro e w6 ⟨s2, rfl, q6, y6⟩; have Q6 := hid (Q4.out.trans q6); have P6 := hid (P4.out.q q6); have Y6 := hid y6; clear q6 y6)
      | (refine wpList_store_row rfl 24 _ _ rfl w6.heap.size (pc M2 s2) rfl rfl 24 _ (heap_alloc_new w6 _) (pc_info M2 s2) rfl (pc_one M2 s2) ?_; refine Hid.out ?_))
    refine hid ?_
    generalize hw9 : World.setRow _ _ _ = w9
    have q9 : Q w6 w9 := by rw [← hw9]; exact (((Keep.refl (fun _ => False) w6).alloc _).setRow _ _ (.inr (Nat.le_refl _))).toQ (fun _ _ h => h)
    have P9 := hid (show PB w9 w6.heap.size M2 s2 from by rw [← hw9]; exact setRow_heap _ _ _ _ 24 _ (heap_alloc_new w6 _))
    clear hw9
    have Q9 := hid (Q6.out.trans q9)
    have X9 := hid (P6.out.q q9)
    have HS6 := hid (fun (W : World) (q : Q w9 W) => HAL.out W s s2 ((HBY.out.q Q9.out).q q) ((Y6.out.q q9).q q) HLN.out)
    clear q9
    generalize w6.heap.size = yb at *
    go_wp2_with fail
    generalize hR : Code.region 8 _ true = C
    have eR : C = Code.region 8 (RofN Try.f5 8) true := hR.symm.trans (by kernel_rfl)
    clear hR
    subst eR
    refine wp_region_noPanic ?_
    refine rgA (A := C80 m s srv id v w.heap.size xb yb x x M2 s2 s3 (.int .i64 id) (.bool false) (.bool false) undef undef (.bool false) (.bool false) undef undef undef (.bool false) undef undef undef undef undef undef undef undef undef) ?_ (rgB m s srv id v w.heap.size xb yb x x M2 s2 s3 (.int .i64 id) (.bool false) (.bool false) undef undef (.bool false) (.bool false) undef undef undef (.bool false) undef undef undef undef undef undef undef undef undef w9 _ ⟨Q.refl _, X9.out, P9.out⟩ (fun c a d v w h => h) HS6.out ?_)
    · kernel_rfl
    intro A W hd h2 hq
    refine NoPanic.normal ?_
    refine ‹∀ a w, Code.wp Try.prog _ _ a w → _› _ _ ?_
    go_wp2
    exact bodyPost_ret (v := .bool true) ((results_tmp (t := 2) rfl _ _ _).trans (by rw [h2])) hd ⟨rfl, Q9.out.trans hq⟩
  · exact absurd trivial hdummy

set_option maxHeartbeats 8000000 in
theorem walk_2 (m : Pm) (s : Nat → Sv) (srv : Bool) (id : Int) (v : Sv) (vz : List Int) (w : World) (hr : allR m srv = true) (hb : By w m s) (hrg : ∀ i, kd i = 2 ∨ kd i = 3 → ∀ y ∈ m.byt i, 0 ≤ y ∧ y < 256) (hn : ∀ i, kd i = 2 ∨ kd i = 3 → (s i).n ≤ 140737488355328) (hv : Seg w v.a vz ∧ vz.length = v.n ∧ ∀ y ∈ vz, 0 ≤ y ∧ y < 256) (h1 : 16 < id) (h2 : ¬ id ≤ 4611686018427387903) :
    Calls Try.prog 5 #[.agg (tc m s srv id v)] w fun r w' => r = .returned (.bool true) ∧ Below w.heap.size w w' := by
  have hb1 : decide (id > 16) = true := by simp; omega
  have hb1' : decide ((16 : Int) < id) = true := by simp; omega
  have hb2 : decide (id ≤ 4611686018427387903) = false := by simp; omega
  have HCP := hid (fun (W : World) (q : Q w W) => copied_any m s W (hb.q q) (fun i hi => by have := hn i hi; omega))
  have HE := hid (fun (W : World) (s' : Nat → Sv) (h : By W m s') => encode_any m s' srv W h)
  unfold encB at HE
  rw [if_pos hr] at HE
  rw [chkE_ok hr] at HE
  have hlen := encT_len hr 16 (by omega)
  have hBT := encT_bytes hrg 16 (by omega)
  have HD := hid (fun (W : World) (x : Sv) (h : Seg W x.a (encT m 16)) (h2 : (encT m 16).length = x.n) => decode_any x.a x.n x.c (encT m 16) srv W h2 (by omega) hBT h)
  unfold AnsD at HD
  rw [dec_enc hr] at HD
  dsimp only at HD
  have HAL := hid (fun (W : World) (sa sb : Nat → Sv) (b1 : By W m sa) (b2 : By W (st m 16) sb) (q : ∀ i, kd i = 2 ∨ kd i = 3 → (m.byt i).length ≤ 140737488355328) => rsame_yes (nrm (st m 16)) (nrm m) (nrS sb) (nrS sa) W (alike_ts b1 b2 q))
  have HBY := hid hb
  have HLN := hid (show ∀ i, kd i = 2 ∨ kd i = 3 → (m.byt i).length ≤ 140737488355328 from fun i hi => by have h5 := (hb i hi).2; have h6 := hn i hi; omega)
  clear hr hrg hn hb hlen hBT h1 h2 hv
  generalize st m 16 = M2 at *
  generalize encT m 16 = zt at *
  by_cases hdummy : True
  · go_enter Try.func5, Try.ntmps5
    go_wp2_with fail
    generalize hw1 : World.alloc w _ = w1
    have T1 := hid (show TB w1 w.heap.size m s srv id v from by rw [← hw1]; exact heap_alloc_new w _)
    have Q1 := hid (show Q w w1 from by rw [← hw1]; exact (Q.refl w).alloc _)
    clear hw1
    generalize hR : Code.region 1 _ true = C
    have eR : C = Code.region 1 (RofN Try.f5 1) true := hR.symm.trans (by kernel_rfl)
    clear hR
    subst eR
    refine wp_region_noPanic ?_
    refine rgA (A := B1 m s srv id v w.heap.size) ?_ (rgT m s srv id v w.heap.size w1 _ T1.out (fun c a d v w h => h) ?_)
    · kernel_rfl
    intro w2 q2 p2
    refine NoPanic.normal ?_
    refine ‹∀ a w, Code.wp Try.prog _ _ a w → _› _ _ ?_
    have Q2 := hid (Q1.out.trans q2)
    have P2 := hid p2
    clear q2 p2 T1 Q1
    generalize w1.heap.size = xb at *
    clear w1
    go_wp2_with (first
      | (refine wpList_load_w (by kernel_rfl) _ rfl xb rfl m s (P2.out) ?_)
      | (go_at_call 8; refine (HCP.out _ Q2.out).mono ?_; rintro e w3 ⟨s3, rfl, q3, y3⟩; have Q3 := hid (Q2.out.trans q3); have P3 := hid (P2.out.q q3); have Y3 := hid y3; clear q3 y3)
      | (go_at_call 10; refine (HE.out _ _ Y3.out).mono ?_; rintro e w4 ⟨x, rfl, q4, x4, n4⟩; have Q4 := hid (Q3.out.trans q4); have P4 := hid (P3.out.q q4); have X4 := hid x4; have N4 := hid n4; clear q4 x4 n4)
      | (go_at_call 19; refine (HD.out _ x X4.out N4.out).mono ?_; rintro e w6 ⟨s2, rfl, q6, y6⟩; have Q6 := hid (Q4.out.trans q6); have P6 := hid (P4.out.q q6); have Y6 := hid y6; clear q6 y6)
      | (refine wpList_store_row rfl 24 _ _ rfl w6.heap.size (pc M2 s2) rfl rfl 24 _ (heap_alloc_new w6 _) (pc_info M2 s2) rfl (pc_one M2 s2) ?_; refine Hid.out ?_))
    refine hid ?_
    generalize hw9 : World.setRow _ _ _ = w9
    have q9 : Q w6 w9 := by rw [← hw9]; exact (((Keep.refl (fun _ => False) w6).alloc _).setRow _ _ (.inr (Nat.le_refl _))).toQ (fun _ _ h => h)
    have P9 := hid (show PB w9 w6.heap.size M2 s2 from by rw [← hw9]; exact setRow_heap _ _ _ _ 24 _ (heap_alloc_new w6 _))
    clear hw9
    have Q9 := hid (Q6.out.trans q9)
    have X9 := hid (P6.out.q q9)
    have HS6 := hid (fun (W : World) (q : Q w9 W) => HAL.out W s s2 ((HBY.out.q Q9.out).q q) ((Y6.out.q q9).q q) HLN.out)
    clear q9
    generalize w6.heap.size = yb at *
    go_wp2_with fail
    generalize hR : Code.region 8 _ true = C
    have eR : C = Code.region 8 (RofN Try.f5 8) true := hR.symm.trans (by kernel_rfl)
    clear hR
    subst eR
    refine wp_region_noPanic ?_
    refine rgA (A := C80 m s srv id v w.heap.size xb yb x x M2 s2 s3 (.int .i64 id) (.bool true) (.bool true) (.int .i64 id) (.bool false) (.bool false) (.bool false) undef undef undef (.bool false) undef undef undef undef undef undef undef undef undef) ?_ (rgB m s srv id v w.heap.size xb yb x x M2 s2 s3 (.int .i64 id) (.bool true) (.bool true) (.int .i64 id) (.bool false) (.bool false) (.bool false) undef undef undef (.bool false) undef undef undef undef undef undef undef undef undef w9 _ ⟨Q.refl _, X9.out, P9.out⟩ (fun c a d v w h => h) HS6.out ?_)
    · kernel_rfl
    intro A W hd h2 hq
    refine NoPanic.normal ?_
    refine ‹∀ a w, Code.wp Try.prog _ _ a w → _› _ _ ?_
    go_wp2
    exact bodyPost_ret (v := .bool true) ((results_tmp (t := 2) rfl _ _ _).trans (by rw [h2])) hd ⟨rfl, Q9.out.trans hq⟩
  · exact absurd trivial hdummy

set_option maxHeartbeats 8000000 in
theorem walk_3 (m : Pm) (s : Nat → Sv) (srv : Bool) (id : Int) (v : Sv) (vz : List Int) (w : World) (hr : allR m srv = true) (hb : By w m s) (hrg : ∀ i, kd i = 2 ∨ kd i = 3 → ∀ y ∈ m.byt i, 0 ≤ y ∧ y < 256) (hn : ∀ i, kd i = 2 ∨ kd i = 3 → (s i).n ≤ 140737488355328) (hv : Seg w v.a vz ∧ vz.length = v.n ∧ ∀ y ∈ vz, 0 ≤ y ∧ y < 256) (h1 : 16 < id) (h2 : id ≤ 4611686018427387903) (h3 : ¬ v.n < 8192) :
    Calls Try.prog 5 #[.agg (tc m s srv id v)] w fun r w' => r = .returned (.bool true) ∧ Below w.heap.size w w' := by
  have hb1 : decide (id > 16) = true := by simp; omega
  have hb1' : decide ((16 : Int) < id) = true := by simp; omega
  have hb2 : decide (id ≤ 4611686018427387903) = true := by simp; omega
  have hb3 : decide ((v.n : Int) < 8192) = false := by simp; omega
  have hb3' : decide (v.n < 8192) = false := by simp; omega
  have HCP := hid (fun (W : World) (q : Q w W) => copied_any m s W (hb.q q) (fun i hi => by have := hn i hi; omega))
  have HE := hid (fun (W : World) (s' : Nat → Sv) (h : By W m s') => encode_any m s' srv W h)
  unfold encB at HE
  rw [if_pos hr] at HE
  rw [chkE_ok hr] at HE
  have hlen := encT_len hr 16 (by omega)
  have hBT := encT_bytes hrg 16 (by omega)
  have HD := hid (fun (W : World) (x : Sv) (h : Seg W x.a (encT m 16)) (h2 : (encT m 16).length = x.n) => decode_any x.a x.n x.c (encT m 16) srv W h2 (by omega) hBT h)
  unfold AnsD at HD
  rw [dec_enc hr] at HD
  dsimp only at HD
  have HAL := hid (fun (W : World) (sa sb : Nat → Sv) (b1 : By W m sa) (b2 : By W (st m 16) sb) (q : ∀ i, kd i = 2 ∨ kd i = 3 → (m.byt i).length ≤ 140737488355328) => rsame_yes (nrm (st m 16)) (nrm m) (nrS sb) (nrS sa) W (alike_ts b1 b2 q))
  have HBY := hid hb
  have HLN := hid (show ∀ i, kd i = 2 ∨ kd i = 3 → (m.byt i).length ≤ 140737488355328 from fun i hi => by have h5 := (hb i hi).2; have h6 := hn i hi; omega)
  clear hr hrg hn hb hlen hBT h1 h2 h3 hv
  generalize st m 16 = M2 at *
  generalize encT m 16 = zt at *
  by_cases hdummy : True
  · go_enter Try.func5, Try.ntmps5
    go_wp2_with fail
    generalize hw1 : World.alloc w _ = w1
    have T1 := hid (show TB w1 w.heap.size m s srv id v from by rw [← hw1]; exact heap_alloc_new w _)
    have Q1 := hid (show Q w w1 from by rw [← hw1]; exact (Q.refl w).alloc _)
    clear hw1
    generalize hR : Code.region 1 _ true = C
    have eR : C = Code.region 1 (RofN Try.f5 1) true := hR.symm.trans (by kernel_rfl)
    clear hR
    subst eR
    refine wp_region_noPanic ?_
    refine rgA (A := B1 m s srv id v w.heap.size) ?_ (rgT m s srv id v w.heap.size w1 _ T1.out (fun c a d v w h => h) ?_)
    · kernel_rfl
    intro w2 q2 p2
    refine NoPanic.normal ?_
    refine ‹∀ a w, Code.wp Try.prog _ _ a w → _› _ _ ?_
    have Q2 := hid (Q1.out.trans q2)
    have P2 := hid p2
    clear q2 p2 T1 Q1
    generalize w1.heap.size = xb at *
    clear w1
    go_wp2_with (first
      | (refine wpList_load_w (by kernel_rfl) _ rfl xb rfl m s (P2.out) ?_)
      | (go_at_call 8; refine (HCP.out _ Q2.out).mono ?_; rintro e w3 ⟨s3, rfl, q3, y3⟩; have Q3 := hid (Q2.out.trans q3); have P3 := hid (P2.out.q q3); have Y3 := hid y3; clear q3 y3)
      | (go_at_call 10; refine (HE.out _ _ Y3.out).mono ?_; rintro e w4 ⟨x, rfl, q4, x4, n4⟩; have Q4 := hid (Q3.out.trans q4); have P4 := hid (P3.out.q q4); have X4 := hid x4; have N4 := hid n4; clear q4 x4 n4)
      | (go_at_call 19; refine (HD.out _ x X4.out N4.out).mono ?_; rintro e w6 ⟨s2, rfl, q6, y6⟩; have Q6 := hid (Q4.out.trans q6); have P6 := hid (P4.out.q q6); have Y6 := hid y6; clear q6 y6)
      | (refine wpList_store_row rfl 24 _ _ rfl w6.heap.size (pc M2 s2) rfl rfl 24 _ (heap_alloc_new w6 _) (pc_info M2 s2) rfl (pc_one M2 s2) ?_; refine Hid.out ?_))
    refine hid ?_
    generalize hw9 : World.setRow _ _ _ = w9
    have q9 : Q w6 w9 := by rw [← hw9]; exact (((Keep.refl (fun _ => False) w6).alloc _).setRow _ _ (.inr (Nat.le_refl _))).toQ (fun _ _ h => h)
    have P9 := hid (show PB w9 w6.heap.size M2 s2 from by rw [← hw9]; exact setRow_heap _ _ _ _ 24 _ (heap_alloc_new w6 _))
    clear hw9
    have Q9 := hid (Q6.out.trans q9)
    have X9 := hid (P6.out.q q9)
    have HS6 := hid (fun (W : World) (q : Q w9 W) => HAL.out W s s2 ((HBY.out.q Q9.out).q q) ((Y6.out.q q9).q q) HLN.out)
    clear q9
    generalize w6.heap.size = yb at *
    go_wp2_with fail
    generalize hR : Code.region 8 _ true = C
    have eR : C = Code.region 8 (RofN Try.f5 8) true := hR.symm.trans (by kernel_rfl)
    clear hR
    subst eR
    refine wp_region_noPanic ?_
    refine rgA (A := C80 m s srv id v w.heap.size xb yb x x M2 s2 s3 (.int .i64 id) (.bool true) (.bool true) (.int .i64 id) (.bool true) (.bool true) (.bool true) (sv v) (.int .i64 (v.n : Int)) (.bool false) (.bool false) undef undef undef undef undef undef undef undef undef) ?_ (rgB m s srv id v w.heap.size xb yb x x M2 s2 s3 (.int .i64 id) (.bool true) (.bool true) (.int .i64 id) (.bool true) (.bool true) (.bool true) (sv v) (.int .i64 (v.n : Int)) (.bool false) (.bool false) undef undef undef undef undef undef undef undef undef w9 _ ⟨Q.refl _, X9.out, P9.out⟩ (fun c a d v w h => h) HS6.out ?_)
    · kernel_rfl
    intro A W hd h2 hq
    refine NoPanic.normal ?_
    refine ‹∀ a w, Code.wp Try.prog _ _ a w → _› _ _ ?_
    go_wp2
    exact bodyPost_ret (v := .bool true) ((results_tmp (t := 2) rfl _ _ _).trans (by rw [h2])) hd ⟨rfl, Q9.out.trans hq⟩
  · exact absurd trivial hdummy

set_option maxHeartbeats 8000000 in
theorem walk_4 (m : Pm) (s : Nat → Sv) (srv : Bool) (id : Int) (v : Sv) (vz : List Int) (w : World) (hr : allR m srv = true) (hb : By w m s) (hrg : ∀ i, kd i = 2 ∨ kd i = 3 → ∀ y ∈ m.byt i, 0 ≤ y ∧ y < 256) (hn : ∀ i, kd i = 2 ∨ kd i = 3 → (s i).n ≤ 140737488355328) (hv : Seg w v.a vz ∧ vz.length = v.n ∧ ∀ y ∈ vz, 0 ≤ y ∧ y < 256) (h1 : 16 < id) (h2 : id ≤ 4611686018427387903) (h3 : v.n < 8192) :
    Calls Try.prog 5 #[.agg (tc m s srv id v)] w fun r w' => r = .returned (.bool true) ∧ Below w.heap.size w w' := by
  have hb1 : decide (id > 16) = true := by simp; omega
  have hb1' : decide ((16 : Int) < id) = true := by simp; omega
  have hb2 : decide (id ≤ 4611686018427387903) = true := by simp; omega
  have hb3 : decide ((v.n : Int) < 8192) = true := by simp; omega
  have hb3' : decide (v.n < 8192) = true := by simp; omega
  have HCP := hid (fun (W : World) (q : Q w W) => copied_any m s W (hb.q q) (fun i hi => by have := hn i hi; omega))
  have HE := hid (fun (W : World) (s' : Nat → Sv) (h : By W m s') => encode_any m s' srv W h)
  unfold encB at HE
  rw [if_pos hr] at HE
  rw [chkE_ok hr] at HE
  have hlen := encT_len hr 16 (by omega)
  have hBT := encT_bytes hrg 16 (by omega)
  have HF1 := hid (show sz id = sz id from rfl)
  have HF2 := hid (show sz (v.n : Int) = sz (v.n : Int) from rfl)
  have hdm := dec_enc_more (i := id.toNat) (v := vz) hr (by omega) (by omega) (by omega)
  rw [Int.toNat_of_nonneg (by omega), hv.2.1] at hdm
  have HJ := hid (fun (W : World) (x y z : Sv) (hx : Seg W x.a (encT m 16) ∧ (encT m 16).length = x.n) (hy : Seg W y.a (form id) ∧ (form id).length = y.n) (hz : Seg W z.a (form (v.n : Int)) ∧ (form (v.n : Int)).length = z.n) (q : Q w W) => join4 W x y z v _ _ _ vz hx hy hz ⟨hv.1.q q, hv.2.1⟩ (by have := form_len id; have := form_len (v.n : Int); omega))
  have HL5 := hid (show (encT m 16 ++ (form id ++ form (v.n : Int) ++ vz)).length ≤ 140737488355328 from by have := form_len id; have := form_len (v.n : Int); simp only [List.length_append]; omega)
  have HB5 := hid (show ∀ y ∈ encT m 16 ++ (form id ++ form (v.n : Int) ++ vz), 0 ≤ y ∧ y < 256 from by
    intro y hy
    rcases List.mem_append.1 hy with h | h
    · exact hBT y h
    · rcases List.mem_append.1 h with h | h
      · rcases List.mem_append.1 h with h | h
        · exact form_bytes _ y h
        · exact form_bytes _ y h
      · exact hv.2.2 y h)
  generalize encT m 16 ++ (form id ++ form (v.n : Int) ++ vz) = zt at *
  have HD := hid (fun (W : World) (x : Sv) (h : Row W x zt) => decode_any x.a x.n x.c zt srv W (Row.len h) (by rw [← Row.len h]; exact HL5.out) HB5.out h.seg)
  unfold AnsD at HD
  rw [hdm] at HD
  dsimp only at HD
  have HP1 := hid (fun (W : World) => rput_ok id W (sz id) (by omega) h2 HF1)
  have HP2 := hid (fun (W : World) => rput_ok (v.n : Int) W (sz (v.n : Int)) (by omega) (by omega) HF2)
  have HZ1 := hid (form_length id)
  have HZ2 := hid (form_length (v.n : Int))
  generalize hz1 : sz id = z1 at *
  generalize hz2 : sz (v.n : Int) = z2 at *
  clear hz1 hz2 HF1 HF2 hdm HL5 HB5
  have HAL := hid (fun (W : World) (sa sb : Nat → Sv) (b1 : By W m sa) (b2 : By W (st m 16) sb) (q : ∀ i, kd i = 2 ∨ kd i = 3 → (m.byt i).length ≤ 140737488355328) => rsame_yes (nrm (st m 16)) (nrm m) (nrS sb) (nrS sa) W (alike_ts b1 b2 q))
  have HBY := hid hb
  have HLN := hid (show ∀ i, kd i = 2 ∨ kd i = 3 → (m.byt i).length ≤ 140737488355328 from fun i hi => by have h5 := (hb i hi).2; have h6 := hn i hi; omega)
  clear hr hrg hn hb hlen hBT h1 h2 h3 hv
  generalize st m 16 = M2 at *
  generalize encT m 16 = ze at *
  generalize form id = f1 at *
  generalize form (v.n : Int) = f2 at *
  by_cases hdummy : True
  · go_enter Try.func5, Try.ntmps5
    go_wp2_with fail
    generalize hw1 : World.alloc w _ = w1
    have T1 := hid (show TB w1 w.heap.size m s srv id v from by rw [← hw1]; exact heap_alloc_new w _)
    have Q1 := hid (show Q w w1 from by rw [← hw1]; exact (Q.refl w).alloc _)
    clear hw1
    generalize hR : Code.region 1 _ true = C
    have eR : C = Code.region 1 (RofN Try.f5 1) true := hR.symm.trans (by kernel_rfl)
    clear hR
    subst eR
    refine wp_region_noPanic ?_
    refine rgA (A := B1 m s srv id v w.heap.size) ?_ (rgT m s srv id v w.heap.size w1 _ T1.out (fun c a d v w h => h) ?_)
    · kernel_rfl
    intro w2 q2 p2
    refine NoPanic.normal ?_
    refine ‹∀ a w, Code.wp Try.prog _ _ a w → _› _ _ ?_
    have Q2 := hid (Q1.out.trans q2)
    have P2 := hid p2
    clear q2 p2 T1 Q1
    generalize w1.heap.size = xb at *
    clear w1
    go_wp2_with (first
      | (refine wpList_load_w (by kernel_rfl) _ rfl xb rfl m s (P2.out) ?_)
      | (go_at_call 8; refine (HCP.out _ Q2.out).mono ?_; rintro e w3 ⟨s3, rfl, q3, y3⟩; have Q3 := hid (Q2.out.trans q3); have P3 := hid (P2.out.q q3); have Y3 := hid y3; clear q3 y3)
      | (go_at_call 10; refine (HE.out _ _ Y3.out).mono ?_; rintro e w4 ⟨x, rfl, q4, x4, n4⟩; have Q4 := hid (Q3.out.trans q4); have P4 := hid (P3.out.q q4); have X4 := hid x4; have N4 := hid n4; clear q4 x4 n4)
      | (go_at_call 22; first | (refine (HP1.out _).mono ?_; rintro e w5 ⟨g1, rfl, q5, o5⟩; have Q5 := hid (Q4.out.trans q5); have P5 := hid (P4.out.q q5); have X5 := hid (X4.out.q q5); have O5 := hid o5; clear q5 o5 P4 X4 HP1) | (refine (HP2.out _).mono ?_; rintro e w7 ⟨g2, rfl, q7, o7⟩; have Q7 := hid (Q5.out.trans q7); have P7 := hid (P5.out.q q7); have X7 := hid (X5.out.q q7); have O7 := hid o7; have O8 := hid (O5.out.q q7); clear q7 o7 P5 X5 O5))
      | (go_at_call 21; refine (HJ.out w7 x ⟨some ⟨g1, 0, none⟩, z1, z1⟩ ⟨some ⟨g2, 0, none⟩, z2, z2⟩ ⟨X7.out, N4.out⟩ ⟨O8.out.seg, HZ1.out⟩ ⟨O7.out.seg, HZ2.out⟩ Q7.out).mono ?_; rintro e w8 ⟨y, rfl, q8, r8⟩; have Q8 := hid (Q7.out.trans q8); have P8 := hid (P7.out.q q8); have R8 := hid r8; clear q8 r8)
      | (go_at_call 19; refine (HD.out _ y R8.out).mono ?_; rintro e w6 ⟨s2, rfl, q6, y6⟩; have Q6 := hid (Q8.out.trans q6); have P6 := hid (P8.out.q q6); have Y6 := hid y6; clear q6 y6)
      | (refine wpList_store_row rfl 24 _ _ rfl w6.heap.size (pc M2 s2) rfl rfl 24 _ (heap_alloc_new w6 _) (pc_info M2 s2) rfl (pc_one M2 s2) ?_; refine Hid.out ?_))
    refine hid ?_
    generalize hw9 : World.setRow _ _ _ = w9
    have q9 : Q w6 w9 := by rw [← hw9]; exact (((Keep.refl (fun _ => False) w6).alloc _).setRow _ _ (.inr (Nat.le_refl _))).toQ (fun _ _ h => h)
    have P9 := hid (show PB w9 w6.heap.size M2 s2 from by rw [← hw9]; exact setRow_heap _ _ _ _ 24 _ (heap_alloc_new w6 _))
    clear hw9
    have Q9 := hid (Q6.out.trans q9)
    have X9 := hid (P6.out.q q9)
    have HS6 := hid (fun (W : World) (q : Q w9 W) => HAL.out W s s2 ((HBY.out.q Q9.out).q q) ((Y6.out.q q9).q q) HLN.out)
    clear q9
    generalize w6.heap.size = yb at *
    generalize w7.heap.size = jb at *
    go_wp2_with fail
    generalize hR : Code.region 8 _ true = C
    have eR : C = Code.region 8 (RofN Try.f5 8) true := hR.symm.trans (by kernel_rfl)
    clear hR
    subst eR
    refine wp_region_noPanic ?_
    refine rgA (A := C80 m s srv id v w.heap.size xb yb x y M2 s2 s3 (.int .i64 id) (.bool true) (.bool true) (.int .i64 id) (.bool true) (.bool true) (.bool true) (sv v) (.int .i64 (v.n : Int)) (.bool true) (.bool true) (sv x) (.int .i64 id) (.slice (some ⟨g1, 0, none⟩) z1 z1) (sv v) (.int .i64 (v.n : Int)) (.slice (some ⟨g2, 0, none⟩) z2 z2) (sv v) (.slice (some ⟨jb, 0, none⟩) 4 4) (sv y)) ?_ (rgB m s srv id v w.heap.size xb yb x y M2 s2 s3 (.int .i64 id) (.bool true) (.bool true) (.int .i64 id) (.bool true) (.bool true) (.bool true) (sv v) (.int .i64 (v.n : Int)) (.bool true) (.bool true) (sv x) (.int .i64 id) (.slice (some ⟨g1, 0, none⟩) z1 z1) (sv v) (.int .i64 (v.n : Int)) (.slice (some ⟨g2, 0, none⟩) z2 z2) (sv v) (.slice (some ⟨jb, 0, none⟩) 4 4) (sv y) w9 _ ⟨Q.refl _, X9.out, P9.out⟩ (fun c a d v w h => h) HS6.out ?_)
    · kernel_rfl
    intro A W hd h2 hq
    refine NoPanic.normal ?_
    refine ‹∀ a w, Code.wp Try.prog _ _ a w → _› _ _ ?_
    go_wp2
    exact bodyPost_ret (v := .bool true) ((results_tmp (t := 2) rfl _ _ _).trans (by rw [h2])) hd ⟨rfl, Q9.out.trans hq⟩
  · exact absurd trivial hdummy

theorem walk (m : Pm) (s : Nat → Sv) (srv : Bool) (id : Int) (v : Sv) (vz : List Int) (w : World) (hb : By w m s) (hrg : ∀ i, kd i = 2 ∨ kd i = 3 → ∀ y ∈ m.byt i, 0 ≤ y ∧ y < 256) (hn : ∀ i, kd i = 2 ∨ kd i = 3 → (s i).n ≤ 140737488355328) (hv : Seg w v.a vz ∧ vz.length = v.n ∧ ∀ y ∈ vz, 0 ≤ y ∧ y < 256) :
    Calls Try.prog 5 #[.agg (tc m s srv id v)] w fun r w' => r = .returned (.bool true) ∧ Below w.heap.size w w' := by
  cases hr : allR m srv with
  | false => exact walk_no m s srv id v w hr hb hn
  | true =>
    by_cases h1 : 16 < id
    · by_cases h2 : id ≤ 4611686018427387903
      · by_cases h3 : v.n < 8192
        · exact walk_4 m s srv id v vz w hr hb hrg hn hv h1 h2 h3
        · exact walk_3 m s srv id v vz w hr hb hrg hn hv h1 h2 h3
      · exact walk_2 m s srv id v vz w hr hb hrg hn hv h1 h2
    · exact walk_1 m s srv id v vz w hr hb hrg hn hv h1

set_option maxRecDepth 100000 in
theorem lifted (os : Os) (started : os.Started) (H : Type) (enc : TypeId × Value → H) :
    ReturnsInHanded {} Try.checked os 5 .any (Rows.paramsBackSpec.pre6 enc Try.prog Try.f5 Rows.paramsBackRow.domain false) (Rows.paramsBackSpec.post enc Try.prog Try.f5 false true false false) := by
  refine returnsInHanded_of_change_sized (C := Try.checked) own_knob started (by kernel_rfl) Try.func5
    (ChangeSpec.witness6 (enc := enc) (C := Try.checked) false ⟨#[], #[.agg (tc zeM (fun _ => nilS) false 0 nilS)], []⟩ 8 (by kernel_rfl) (by kernel_rfl) (by kernel_rfl) (by kernel_rfl)) ?_
  intro W base args ds gs before hval0 hW hcnd hsz0 _
  have hval : ∀ (j : Nat) t v, Try.f5.params[j]? = some t → args[j]? = some v → Value.okWide Try.prog W .any base t v := hval0
  have hsz : (DataW.weightsEach Try.prog (Try.f5.params.toList ++ Rows.paramsBackSpec.plain.varTypes Try.prog) (ds ++ gs)).all (· ≤ reachBytes) = true := hsz0
  have hW' := hW
  obtain ⟨p, q, hA0, hV, rfl, hfz, hnd⟩ := hW
  have hA : DataW.TrodAll enc Try.prog W 0 (fun _ => true) true Try.f5.params.toList args.toList ds p := hA0
  rw [Try.params5] at hA hval hsz
  obtain ⟨v0, vs0, d0, ds0, p0, q0, hargs, rfl, rfl, h0, r0⟩ := trodAll_cons hA
  obtain ⟨rfl, rfl, rfl⟩ := trodAll_nil r0
  obtain rfl : args = #[v0] := by cases args; simp_all
  obtain ⟨rfl, rfl⟩ := trodVars_none hV
  obtain ⟨cs0, rfl, hcs0⟩ := okWide_struct Try.underlying51 (hval 0 51 v0 rfl rfl)
  have k0 := h0
  have lt0 : ∀ x ∈ p0, x.block < W.heap.size := by obtain ⟨m, hm⟩ := k0; exact DataW.trod_lt m _ _ _ hm
  obtain ⟨m0, s0, sr0, id0, v0s, vz0, rfl, hc0⟩ := open_told h0 hcs0
  have ft0 := told_fit hsz (j := 0) rfl rfl hc0
  clear hA0 hval0
  refine (walk m0 s0 sr0 id0 v0s vz0 W ft0.2.1 ft0.2.2 (fun i hi => by have := ft0.1 i hi; omega) hc0.val).mono fun e W' ⟨he, bel⟩ => ?_
  subst he
  exact ⟨_, rfl, _, _, _, [], _, [], hW', trodAll_mk1 (shut_bool Try.underlying4 _), (trodAll_cons_mk (Below.trod laid_out (by kernel_rfl) (of_decide_eq_true (by kernel_rfl)) k0 bel lt0) trodAll_mk0), rfl, bel.frame _, fun h => by cases h⟩

theorem over : Rows.paramsBackRow.holds Try.pinned (OpenSpec.ofChange Rows.paramsBackSpec) :=
  OpenClaim.holds_of_wide 5 Try.f5 rfl rfl rfl rfl rfl rfl rfl ⟨rfl, rfl, rfl, rfl, rfl⟩ rfl rfl rfl rfl rfl (by kernel_rfl) Try.func5 (by kernel_rfl)
    (of_decide_eq_true (by kernel_rfl)) (by unfold Func.isWrapper; first | (rw [if_pos (by decide +kernel)]; kernel_rfl) | (rw [if_neg (by decide +kernel)]; exact ⟨rfl, rfl⟩))
    (fun os started H enc _ => lifted os started H enc)

end Go.Proofs.Ytidbimhcebfjfaa.paramsBack
namespace Go.Proofs.Ytidbimhcebfjfaa

/-- The statement. -/
theorem paramsBack_holds : Rows.ParamsBackSaid := paramsBack.over
#print axioms paramsBack_holds
end Go.Proofs.Ytidbimhcebfjfaa
