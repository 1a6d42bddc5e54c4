/-
  Check: a contract that the statements' walks use.
-/
import Derived.Test.YthefijjdffafkaaDoorRnY
namespace Go.Proofs.YthefijjdffafkaaDoor
open Go.RowKit
set_option linter.unusedVariables false
set_option maxRecDepth 20000

abbrev rq0C : Array Value := rqC ⟨#[]⟩ ⟨#[]⟩ ⟨#[]⟩ ⟨#[]⟩ ⟨none, 0, 0⟩ 0
theorem Blk.keep {F : Nat → Prop} {w w' : World} {g t : Nat} {cs : Array Value} (h : Blk w g t cs) (k : Keep F w w') (hg : ¬ F g) : Blk w' g t cs := (k.block g (lt_of_block h) hg).trans h
theorem info27 (m s a p : ByteArray) (x : Sv) (n : Int) : (Tryd.prog.info? 24).map (·.size) = some (rqC m s a p x n).size := by kernel_rfl
set_option maxHeartbeats 4000000 in
/-- The request's own text. -/
theorem cl14_ok (bf bl br : Nat) (x : Sv) (l : List Fd) (c s : Int) (w : World) (hf : Blk w bf 22 #[.slice x.a x.n x.c]) (hl : Blk w bl 30 #[.int .i64 c, .int .i64 s]) (hr : Blk w br 24 rq0C) (h : Fin w x l) (hc : chE l c s = 0) :
    Calls Tryd.prog 18 #[.pointer (some ⟨bf, 0, none⟩), .pointer (some ⟨bl, 0, none⟩), .pointer (some ⟨br, 0, none⟩)] w fun e w' => ∃ y : Sv, e = .returned (.tuple #[]) ∧ Keep (fun b => b = br) w w' ∧ Blk w' br 24 (rqC (rqO l).m (rqO l).s (rqO l).a (rqO l).p y (rqO l).len) ∧ RowG w' y (plnL l) ∧ New w.heap.size y := by
  have c0 : w.cell? ⟨bf, 0, none⟩ = some (.slice x.a x.n x.c) := hf.cell 0
  have c1 : w.cell? ⟨bl, 0, none⟩ = some (.int .i64 c) := hl.cell 0
  have c2 : w.cell? ⟨bl, 1, none⟩ = some (.int .i64 s) := hl.cell 1
  obtain ⟨xa, xn, xc⟩ := x
  have HR := hid (req_ok ⟨xa, xn, xc⟩ l c s w h hc)
  have HZ := hid hr
  dsimp only at HR c0
  clear h hf hl hr hc
  have hv : ∀ y, rqV (rqO l) y = .agg (rqC (rqO l).m (rqO l).s (rqO l).a (rqO l).p y (rqO l).len) := fun _ => rfl
  generalize (rqO l).m = m at *
  generalize (rqO l).s = sc at *
  generalize (rqO l).a = a at *
  generalize (rqO l).p = p at *
  generalize (rqO l).len = n at *
  have HV := hid hv
  clear hv
  go_enter Tryd.func18, Tryd.ntmps18
  go_wp2_with (first
    | (go_at_call 19; refine HR.out.mono ?_; rintro e w1 ⟨⟨ya, yn, yc⟩, rfl, q1, r1, n1⟩; rw [HV.out]; have Q1 := hid q1; have Y1 := hid r1; have N1 := hid n1; clear q1 r1 n1)
    | (refine wpList_store_row rfl 24 _ _ rfl br _ rfl rfl 24 _ (HZ.out.q Q1.out) (info27 m sc a p ⟨ya, yn, yc⟩ n) rfl (by kernel_rfl) ?_; refine Hid.out ?_))
  refine hid ?_
  have KZ := hid (show Keep (fun b => b = br) w1 (w1.setRow br (rqC m sc a p ⟨ya, yn, yc⟩ n)) from (Keep.refl _ _).setRow _ _ (.inl rfl))
  have BZ := hid (show Blk (w1.setRow br (rqC m sc a p ⟨ya, yn, yc⟩ n)) br 24 (rqC m sc a p ⟨ya, yn, yc⟩ n) from setRow_heap _ _ _ _ 24 _ (HZ.out.q Q1.out))
  have YZ := hid (show RowG (w1.setRow br (rqC m sc a p ⟨ya, yn, yc⟩ n)) ⟨ya, yn, yc⟩ (plnL l) from Sub.keep Y1.out KZ.out (fun b e h => by have := N1.out b e; have := HZ.out.lt; omega))
  generalize World.setRow _ _ _ = WZ at *
  go_wp2
  go_end0
  exact ⟨⟨ya, yn, yc⟩, rfl, (Keep.ofQ Q1.out).trans KZ.out, BZ.out, YZ.out, N1.out⟩
theorem cl14_bad (bf bl br : Nat) (x : Sv) (l : List Fd) (c s : Int) (w : World) (hf : Blk w bf 22 #[.slice x.a x.n x.c]) (hl : Blk w bl 30 #[.int .i64 c, .int .i64 s]) (h : Fin w x l) (hc : chE l c s ≠ 0) :
    Calls Tryd.prog 18 #[.pointer (some ⟨bf, 0, none⟩), .pointer (some ⟨bl, 0, none⟩), .pointer (some ⟨br, 0, none⟩)] w fun e w' => e = .panicked [refP (chE l c s)] ∧ Q w w' := by
  have c0 : w.cell? ⟨bf, 0, none⟩ = some (.slice x.a x.n x.c) := hf.cell 0
  have c1 : w.cell? ⟨bl, 0, none⟩ = some (.int .i64 c) := hl.cell 0
  have c2 : w.cell? ⟨bl, 1, none⟩ = some (.int .i64 s) := hl.cell 1
  obtain ⟨xa, xn, xc⟩ := x
  have HR := hid (req_bad ⟨xa, xn, xc⟩ l c s w h hc)
  dsimp only at HR c0
  clear h hf hl hc
  generalize chE l c s = y at *
  go_enter Tryd.func18, Tryd.ntmps18
  go_wp2_with (go_at_call 19; refine HR.out.mono ?_; rintro e w1 ⟨rfl, q1⟩)
  exact ⟨rfl, rfl, q1⟩
abbrev cap14 (bf bl br : Nat) : Value := .func (.func 18) #[] #[.pointer (some ⟨bf, 0, none⟩), .pointer (some ⟨bl, 0, none⟩), .pointer (some ⟨br, 0, none⟩)]
set_option maxHeartbeats 4000000 in
theorem fault14_bad (bf bl br : Nat) (x : Sv) (l : List Fd) (c s : Int) (w : World) (hf : Blk w bf 22 #[.slice x.a x.n x.c]) (hl : Blk w bl 30 #[.int .i64 c, .int .i64 s]) (h : Fin w x l) (hc : chE l c s ≠ 0) :
    Calls Tryd.prog 17 #[cap14 bf bl br] w fun e w' => e = .returned (.int .i64 (chE l c s)) ∧ Q w w' := by
  have hmf : ∀ (fn : Fn) (first cap : Array Value) (w : World), (Instr.makeFunc fn first cap).run Tryd.prog w = .ok (.func fn first cap) w := fun _ _ _ _ => rfl
  have HV := hid (fun u (k : Q w u) => cl14_bad bf bl br x l c s u (hf.q k) (hl.q k) (h.q k) hc)
  have HB := hid (heap_alloc_new w (.cells #[.int .i64 0] 25))
  have HQ := hid ((Q.refl w).alloc (.cells #[.int .i64 0] 25))
  clear h hf hl hc
  generalize chE l c s = y at *
  go_enter_defers Tryd.func17, Tryd.ntmps17
  go_wp2_with fail
  generalize hW : World.alloc w _ = W0 at *
  clear hW
  refine (HV.out _ HQ.out).mono ?_
  rintro e w1 ⟨rfl, q1⟩
  refine out_caught y ((Below.block q1 _ (lt_of_block HB.out)).trans HB.out) rfl (fun w'' ks => ⟨rfl, ?_⟩)
  have qw := HQ.out.trans q1
  exact ks.below qw qw.size (fun i e => by omega)
set_option maxHeartbeats 4000000 in
theorem fault14_ok (bf bl br : Nat) (x : Sv) (l : List Fd) (c s : Int) (w : World) (hf : Blk w bf 22 #[.slice x.a x.n x.c]) (hl : Blk w bl 30 #[.int .i64 c, .int .i64 s]) (hr : Blk w br 24 rq0C) (h : Fin w x l) (hc : chE l c s = 0) :
    Calls Tryd.prog 17 #[cap14 bf bl br] w fun e w' => ∃ y : Sv, e = .returned (.int .i64 0) ∧ Keep (fun b => b = br) w w' ∧ Blk w' br 24 (rqC (rqO l).m (rqO l).s (rqO l).a (rqO l).p y (rqO l).len) ∧ RowG w' y (plnL l) ∧ New w.heap.size y := by
  have hmf : ∀ (fn : Fn) (first cap : Array Value) (w : World), (Instr.makeFunc fn first cap).run Tryd.prog w = .ok (.func fn first cap) w := fun _ _ _ _ => rfl
  have HV := hid (fun u (k : Q w u) => cl14_ok bf bl br x l c s u (hf.q k) (hl.q k) (hr.q k) (h.q k) hc)
  have HRL := hid hr.lt
  have HB := hid (heap_alloc_new w (.cells #[.int .i64 0] 25))
  have HQ := hid ((Q.refl w).alloc (.cells #[.int .i64 0] 25))
  have HSZ := hid (show (w.alloc (.cells #[.int .i64 0] 25)).heap.size = w.heap.size + 1 from World.size_alloc _ _)
  clear h hf hl hc hr
  generalize (rqO l).m = m at *
  generalize (rqO l).s = sc at *
  generalize (rqO l).a = a at *
  generalize (rqO l).p = p at *
  generalize (rqO l).len = n at *
  go_enter_defers Tryd.func17, Tryd.ntmps17
  go_wp2_with fail
  generalize hW : World.alloc w _ = W0 at *
  clear hW
  refine (HV.out _ HQ.out).mono ?_
  rintro e w1 ⟨⟨ya, yn, yc⟩, rfl, k1, b1, r1, n1⟩
  have B1 := hid (show Blk w1 w.heap.size 25 #[.int .i64 0] from Blk.keep HB.out k1 (by have := HRL.out; omega))
  have K1 := hid ((Keep.ofQ HQ.out).trans k1)
  have R1 := hid b1
  have Y1 := hid r1
  have N1 := hid n1
  clear k1 b1 r1 n1
  have c0 : w1.cell? ⟨w.heap.size, 0, none⟩ = some (.int .i64 0) := B1.out.cell 0
  have z0 : w1.frozen? ⟨w.heap.size, 0, none⟩ = false := B1.out.frozen 0
  have KS := hid (show Keep (fun b => b = w.heap.size) w1 (w1.setCell ⟨w.heap.size, 0, none⟩ (.int .i64 0)) from (Keep.refl _ _).setCell _ _ _ (.inl rfl))
  have HC := hid (show (w1.setCell ⟨w.heap.size, 0, none⟩ (.int .i64 0)).cell? ⟨w.heap.size, 0, none⟩ = some (.int .i64 0) from by rw [cell_of_row _ _ 0 _ 25 (0, 0) (heap_setCell_same w1 w.heap.size 0 _ 25 (.int .i64 0) B1.out)]; rfl)
  have HK := hid (show Keep (fun b => b = br) w (w1.setCell ⟨w.heap.size, 0, none⟩ (.int .i64 0)) from K1.out.trans' KS.out (fun i hi e => by omega))
  have HBR := hid (Blk.keep R1.out KS.out (by have := HRL.out; omega))
  have HY := hid (show RowG (w1.setCell ⟨w.heap.size, 0, none⟩ (.int .i64 0)) ⟨ya, yn, yc⟩ (plnL l) from Sub.keep Y1.out KS.out (fun b e h => by have := N1.out b e; have := HSZ.out; omega))
  have HN := hid (show New w.heap.size ⟨ya, yn, yc⟩ from N1.out.mono (by have := HSZ.out; omega))
  go_wp2
  exact out_idle (be := w.heap.size) 0 HC.out rfl ⟨⟨ya, yn, yc⟩, rfl, HK.out, HBR.out, HY.out, HN.out⟩
theorem res6 (tmps : Array Value) (w : World) (g : Nat) (e : Int) (m s a p : ByteArray) (x : Sv) (n : Int) (h4 : tmps.getD 4 undef = .pointer (some ⟨g, 0, none⟩)) (h5 : tmps.getD 5 undef = .int .i64 e) (hb : w.heap[g]? = some (.cells (rqC m s a p x n) 24 (0, 0))) :
    (results Tryd.f6 tmps).run Tryd.prog w = .ok (.tuple #[.agg (rqC m s a p x n), .int .i64 e]) w := by
  have h4' : tmps[4]?.getD undef = .pointer (some ⟨g, 0, none⟩) := by simpa using h4
  have h5' : tmps[5]?.getD undef = .int .i64 e := by simpa using h5
  have hl := run_loadVar_row w g 24 24 _ (0, 0) _ hb Tryd.underlying24 rfl (info27 m s a p x n)
  simp [results, Tryd.results6, h4', h5', asAddr, hl]
/-- What Check tells. -/
def chV (l : List Fd) (c s : Int) (y : Sv) : Value := .tuple #[rqV (chR l c s) y, .int .i64 (chE l c s)]
set_option maxHeartbeats 4000000 in
theorem check_any (x : Sv) (l : List Fd) (c s : Int) (w : World) (h : Fin w x l) : Calls Tryd.prog 6 #[.slice x.a x.n x.c, .agg #[.int .i64 c, .int .i64 s]] w fun e w' => ∃ y : Sv, e = .returned (chV l c s y) ∧ Q w w' ∧ RowG w' y (chR l c s).fs ∧ New w.heap.size y := by
  have hmf : ∀ (fn : Fn) (first cap : Array Value) (w : World), (Instr.makeFunc fn first cap).run Tryd.prog w = .ok (.func fn first cap) w := fun _ _ _ _ => rfl
  obtain ⟨xa, xn, xc⟩ := x
  have HQ := hid ((((Q.refl w).alloc (.cells #[.slice xa xn xc] 22)).alloc (.cells #[.int .i64 c, .int .i64 s] 30)).alloc (.cells rq0C 24))
  have HB1 := hid (((blk_new w #[.slice xa xn xc] 22).q ((Q.refl _).alloc (.cells #[.int .i64 c, .int .i64 s] 30))).q ((Q.refl _).alloc (.cells rq0C 24)))
  have HB2 := hid (show Blk (((w.alloc (.cells #[.slice xa xn xc] 22)).alloc (.cells #[.int .i64 c, .int .i64 s] 30)).alloc (.cells rq0C 24)) (w.heap.size + 1) 30 #[.int .i64 c, .int .i64 s] from by
    have := (blk_new (w.alloc (.cells #[.slice xa xn xc] 22)) #[.int .i64 c, .int .i64 s] 30).q ((Q.refl _).alloc (.cells rq0C 24))
    rw [World.size_alloc] at this
    exact this)
  have HB3 := hid (show Blk (((w.alloc (.cells #[.slice xa xn xc] 22)).alloc (.cells #[.int .i64 c, .int .i64 s] 30)).alloc (.cells rq0C 24)) (w.heap.size + 2) 24 rq0C from by
    have := blk_new ((w.alloc (.cells #[.slice xa xn xc] 22)).alloc (.cells #[.int .i64 c, .int .i64 s] 30)) rq0C 24
    rw [World.size_alloc, World.size_alloc] at this
    exact this)
  have HSZ := hid (show (((w.alloc (.cells #[.slice xa xn xc] 22)).alloc (.cells #[.int .i64 c, .int .i64 s] 30)).alloc (.cells rq0C 24)).heap.size = w.heap.size + 3 from by rw [World.size_alloc, World.size_alloc, World.size_alloc])
  have HO := hid (show ∀ (m s a p : ByteArray) (x : Sv) (n : Int), (rqC m s a p x n).all (·.oneCell') = true from fun _ _ _ _ _ _ => by kernel_rfl)
  by_cases hc : chE l c s = 0
  · have HV := hid (fault14_ok w.heap.size (w.heap.size + 1) (w.heap.size + 2) ⟨xa, xn, xc⟩ l c s _ HB1.out HB2.out HB3.out (h.q HQ.out) hc)
    have hpost : ∀ y, chV l c s y = .tuple #[.agg (rqC (rqO l).m (rqO l).s (rqO l).a (rqO l).p y (rqO l).len), .int .i64 0] := fun y => by unfold chV chR; rw [if_pos hc, hc]; rfl
    have hfs : (chR l c s).fs = plnL l := by unfold chR; rw [if_pos hc]; rfl
    have HP := hid hpost
    have HFS := hid hfs
    clear h HB1 HB2 HB3 hc hpost hfs
    generalize (rqO l).m = m at *
    generalize (rqO l).s = sc at *
    generalize (rqO l).a = a at *
    generalize (rqO l).p = p at *
    generalize (rqO l).len = n at *
    go_enter Tryd.func6, Tryd.ntmps6
    go_wp2_with (first
      | (go_at_call 17; refine HV.out.mono ?_; rintro e w1 ⟨⟨ya, yn, yc⟩, rfl, k1, b1, r1, n1⟩; have K1 := hid k1; have R1 := hid b1; have Y1 := hid r1; have N1 := hid n1; clear k1 b1 r1 n1)
      | (refine wpList_load_row rfl 24 _ rfl (w.heap.size + 2) rfl 24 _ (0, 0) _ R1.out Tryd.underlying24 rfl (info27 m sc a p ⟨ya, yn, yc⟩ n) ?_)
      | (refine wpList_store_row rfl 24 _ _ rfl (w.heap.size + 2) _ rfl rfl 24 _ R1.out (info27 m sc a p ⟨ya, yn, yc⟩ n) rfl (HO.out m sc a p ⟨ya, yn, yc⟩ n) ?_; rw [setRow_self R1.out]))
    refine bodyPost_ret (res6 _ _ (w.heap.size + 2) 0 m sc a p ⟨ya, yn, yc⟩ n rfl rfl R1.out) rfl ?_
    refine ⟨⟨ya, yn, yc⟩, ?_, ?_, ?_, ?_⟩
    · rw [HP.out]
    · exact K1.out.below HQ.out HQ.out.size (fun i e => by omega)
    · rw [HFS.out]; exact Y1.out
    · exact N1.out.mono (by have := HSZ.out; omega)
  · have HV := hid (fault14_bad w.heap.size (w.heap.size + 1) (w.heap.size + 2) ⟨xa, xn, xc⟩ l c s _ HB1.out HB2.out (h.q HQ.out) hc)
    have hpost : chV l c s ⟨none, 0, 0⟩ = .tuple #[.agg rq0C, .int .i64 (chE l c s)] := by unfold chV chR; rw [if_neg hc]; rfl
    have hfs : (chR l c s).fs = [] := by unfold chR; rw [if_neg hc]; rfl
    have HP := hid hpost
    have HFS := hid hfs
    clear h HB1 HB2 hc hpost hfs
    generalize chE l c s = y at *
    go_enter Tryd.func6, Tryd.ntmps6
    go_wp2_with (first
      | (go_at_call 17; refine HV.out.mono ?_; rintro e w1 ⟨rfl, q1⟩; have R1 := hid (HB3.out.q q1); have Q1 := hid (HQ.out.trans q1); clear q1)
      | (refine wpList_load_row rfl 24 _ rfl (w.heap.size + 2) rfl 24 _ (0, 0) _ R1.out Tryd.underlying24 rfl (info27 _ _ _ _ _ _) ?_)
      | (refine wpList_store_row rfl 24 _ _ rfl (w.heap.size + 2) _ rfl rfl 24 _ R1.out (info27 _ _ _ _ _ _) rfl (HO.out _ _ _ _ _ _) ?_; rw [setRow_self R1.out]))
    refine bodyPost_ret (res6 _ _ (w.heap.size + 2) y _ _ _ _ _ _ rfl rfl R1.out) rfl ?_
    refine ⟨⟨none, 0, 0⟩, ?_, Q1.out, ?_, ?_⟩
    · rw [HP.out]
    · rw [HFS.out]; exact sub_nil _ _ _
    · intro b e; cases e
end Go.Proofs.YthefijjdffafkaaDoor
