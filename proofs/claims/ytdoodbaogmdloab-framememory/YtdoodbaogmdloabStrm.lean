/-
  What a reading's stream does: a contract that the statements' walks use.
-/
import Derived.Test.YtdoodbaogmdloabBx
namespace Go.Proofs.Ytdoodbaogmdloab
open Go.RowKit
set_option linter.unusedVariables false
set_option maxRecDepth 20000

/-- Spans in a row. -/
abbrev flatS (l : List (Int × Int)) : List Value := l.flatMap fun x => [.int .i64 x.1, .int .i64 x.2]
abbrev RowS (w : World) (s : Sv) (l : List (Int × Int)) : Prop := Sub w 36 2 s.a s.n s.c (flatS l)
theorem flatS_len (l : List (Int × Int)) : (flatS l).length = l.length * 2 := by
  induction l with
  | nil => rfl
  | cons x r ih => simp [flatS] at ih ⊢; omega
theorem RowS.len {w : World} {d : Sv} {l : List (Int × Int)} (h : RowS w d l) : l.length = d.n := by
  have := h.1; rw [flatS_len] at this; omega
theorem flatS_get {l : List (Int × Int)} : ∀ {i : Nat}, i < l.length → (flatS l)[i * 2]? = some (.int .i64 (l.getD i (0, 0)).1) ∧ (flatS l)[i * 2 + 1]? = some (.int .i64 (l.getD i (0, 0)).2) := by
  induction l with
  | nil => intro i hi; simp at hi
  | cons x r ih =>
    intro i hi
    cases i with
    | zero => simp [flatS]
    | succ i =>
      have := ih (i := i) (by simpa using hi)
      rw [show flatS (x :: r) = .int .i64 x.1 :: .int .i64 x.2 :: flatS r from rfl]
      rw [show (i + 1) * 2 = i * 2 + 1 + 1 by omega]
      simpa using this
theorem RowS.seg {w : World} {d : Sv} {l : List (Int × Int)} (h : RowS w d l) : SegS w d.a l := by
  intro hne
  have hl := RowS.len h
  have hp : 0 < d.n := by
    cases l with
    | nil => exact absurd rfl hne
    | cons x r => simp at hl; omega
  obtain ⟨g, off, ha, _, hc⟩ := h.some_ hp
  exact ⟨g, off, ha, fun i hi => ⟨hc _ _ (flatS_get hi).1, by rw [Nat.add_assoc]; exact hc _ _ (flatS_get hi).2⟩⟩

/-- A frame's words hold it in memory that was made since the heap had B blocks. -/
structure HoldsR (B : Nat) (w : World) (f : Fr) (d c s : Sv) : Prop where
  dr : Row w d f.data
  cr : Row w c f.cid
  sr : RowS w s f.sp
  nd : New B d
  nc : New B c
  ns : New B s
theorem HoldsR.holds {B : Nat} {w : World} {f : Fr} {d c s : Sv} (h : HoldsR B w f d c s) : Holds w f d c s := ⟨h.dr.len, h.dr.seg, h.cr.len, h.cr.seg, h.sr.len, h.sr.seg⟩
theorem HoldsR.keep {F : Nat → Prop} {B : Nat} {w w' : World} {f : Fr} {d c s : Sv} (h : HoldsR B w f d c s) (k : Keep F w w') (hF : ∀ i, F i → i < B ∨ w.heap.size ≤ i) : HoldsR B w' f d c s := by
  have key : ∀ {e z : Nat} {x : Sv} {vs : List Value}, Sub w e z x.a x.n x.c vs → New B x → ∀ i, blk x.a = some i → ¬ F i := fun hs hn i hi hf => by
    have h1 := hs.lt i hi
    have h2 := hn i hi
    rcases hF i hf with h3 | h3 <;> omega
  exact ⟨h.dr.keep k (key h.dr h.nd), h.cr.keep k (key h.cr h.nc), h.sr.keep k (key h.sr h.ns), h.nd, h.nc, h.ns⟩
theorem HoldsR.q {B : Nat} {w w' : World} {f : Fr} {d c s : Sv} (h : HoldsR B w f d c s) (k : Q w w') : HoldsR B w' f d c s := h.keep (Keep.ofQ (F := fun _ => False) k) (fun _ f => f.elim)
def FrV (B : Nat) (f : Fr) (w' : World) (v : Value) : Prop := ∃ d c s, v = fv f d c s ∧ HoldsR B w' f d c s
theorem new_nil (B : Nat) : New B ⟨none, 0, 0⟩ := by intro b hb; cases hb

theorem Ans.stopped {α β : Type} {V : β → World → Value → Prop} {O : Out β} {o : Out α} {w w' : World} {rk rb g : Nat} {b : Sv} {zs : List Int} {pl : Int} (f : α → Int → Out β) (hk : Keep (fun k => k = rb) w w') (hs : o.stop) (e : O = o.bind f) : Ans w rk rb g b zs pl V O (.panicked o.ends) w' := by
  have := Out.bind_stop hs f
  rw [← e] at this
  exact ⟨hk, .inr ⟨this.1, by rw [this.2]⟩⟩

def strm3 (fin : Bool) (id pl : Int) (data : List Int) : Fr := ⟨8, id, pl, 0, 0, fin, data, [], [], 0, 0, 0, 0⟩
def strmD (zs : List Int) (ln : Bool) (q : Int) : Out (List Int) := if ln then (numO zs q).bind fun n q => someO zs q n else someO zs q ((zs.length : Int) - q)
def strm2 (zs : List Int) (fin ln : Bool) (id pl q : Int) : Out Fr := (strmD zs ln q).bind fun data q => .ok (strm3 fin id pl data) q
def strm1 (zs : List Int) (fin at_ ln : Bool) (id q : Int) : Out Fr := (if at_ then numO zs q else .ok 0 q).bind fun pl q => strm2 zs fin ln id pl q
def strmO (zs : List Int) (p : Int) (fin at_ ln : Bool) : Out Fr := (numO zs p).bind fun id q => strm1 zs fin at_ ln id q

/-- The frame that is read lies in its block; the blocks are new. -/
structure Fbk (w u : World) (rk rb g : Nat) (b : Sv) (zs : List Int) (pl q : Int) (R F : Nat) (f : Fr) (d c s : Sv) : Prop where
  keep : Keep (fun k => k = rb) w u
  rg : Rg u rk rb g b zs pl q
  res : ∃ f0 d0 c0 s0, Box u 34 R f0 d0 c0 s0
  box : Box u 34 F f d c s
  hr : HoldsR w.heap.size u f d c s
  r0 : w.heap.size ≤ R
  f0 : w.heap.size ≤ F
  ne : R ≠ F
  nrd : blk d.a ≠ some F
  nrc : blk c.a ≠ some F
  nrs : blk s.a ≠ some F
  mrd : blk d.a ≠ some R
  mrc : blk c.a ≠ some R
  mrs : blk s.a ≠ some R
section
variable {w u u' : World} {rk rb g : Nat} {b : Sv} {zs : List Int} {pl q q' : Int} {R F : Nat} {f : Fr} {d c s : Sv} {p0 : Int}
/-- .. after a call of the reading. -/
theorem Fbk.call (h : Fbk w u rk rb g b zs pl q R F f d c s) (h0 : Rg w rk rb g b zs pl p0) (k : Keep (fun k => k = rb) u u') (r : Rg u' rk rb g b zs pl q') : Fbk w u' rk rb g b zs pl q' R F f d c s := by
  have hlt := h0.rdr.lt
  obtain ⟨f1, d1, c1, s1, hres⟩ := h.res
  exact ⟨h.keep.trans k, r, ⟨f1, d1, c1, s1, hres.keep k (by have := h.r0; omega)⟩, h.box.keep k (by have := h.f0; omega), h.hr.keep k (fun i e => .inl (by omega)), h.r0, h.f0, h.ne, h.nrd, h.nrc, h.nrs, h.mrd, h.mrc, h.mrs⟩
/-- .. where a word of the frame is set. -/
theorem Fbk.set (h : Fbk w u rk rb g b zs pl q R F f d c s) (h0 : Rg w rk rb g b zs pl p0) (k : Keep (fun k => k = F) u u') {f' : Fr} {d' c' s' : Sv} (hb : Box u' 34 F f' d' c' s') (hh : HoldsR w.heap.size u f' d' c' s')
    (nd : blk d'.a ≠ some F) (nc : blk c'.a ≠ some F) (ns : blk s'.a ≠ some F) (md : blk d'.a ≠ some R) (mc : blk c'.a ≠ some R) (ms : blk s'.a ≠ some R) : Fbk w u' rk rb g b zs pl q R F f' d' c' s' := by
  obtain ⟨f1, d1, c1, s1, hres⟩ := h.res
  refine ⟨h.keep.old k (fun i e => .inr (by rw [e]; exact h.f0)), h.rg.keepNew k h0 (fun i e => by rw [e]; exact h.f0), ⟨f1, d1, c1, s1, hres.keep k h.ne⟩, hb, ?_, h.r0, h.f0, h.ne, nd, nc, ns, md, mc, ms⟩
  exact ⟨hh.dr.keep k (fun i hi e => nd (by rw [hi, e])), hh.cr.keep k (fun i hi e => nc (by rw [hi, e])), hh.sr.keep k (fun i hi e => ns (by rw [hi, e])), hh.nd, hh.nc, hh.ns⟩
/-- A slice that a call made since is neither block. -/
theorem Fbk.fresh (h : Fbk w u rk rb g b zs pl q R F f d c s) {x : Sv} (hx : New u.heap.size x) : blk x.a ≠ some F ∧ blk x.a ≠ some R := by
  obtain ⟨f1, d1, c1, s1, hres⟩ := h.res
  exact ⟨fun e => by have := hx F e; have := h.box.lt; omega, fun e => by have := hx R e; have := hres.lt; omega⟩
/-- The end: the frame is handed on in its result's block. -/
theorem Fbk.done (h : Fbk w u rk rb g b zs pl q R F f d c s) (h0 : Rg w rk rb g b zs pl p0) (k : Keep (fun k => k = R) u u') {O : Out Fr} (hO : O = .ok f q) : Ans w rk rb g b zs pl (FrV w.heap.size) O (.returned (fv f d c s)) u' :=
  ⟨h.keep.old k (fun i e => .inr (by rw [e]; exact h.r0)), .inl ⟨f, q, _, hO, rfl, ⟨d, c, s, rfl, ⟨h.hr.dr.keep k (fun i hi e => h.mrd (by rw [hi, e])), h.hr.cr.keep k (fun i hi e => h.mrc (by rw [hi, e])), h.hr.sr.keep k (fun i hi e => h.mrs (by rw [hi, e])), h.hr.nd, h.hr.nc, h.hr.ns⟩⟩, h.rg.keepNew k h0 (fun i e => by rw [e]; exact h.r0)⟩⟩
end

theorem fcells_one (f : Fr) (d c s : Sv) : (fcells f d c s).all (·.oneCell') = true := by
  simp [Value.oneCell']
theorem fcells_info (f : Fr) (d c s : Sv) : (Try.prog.info? 34).map (·.size) = some (fcells f d c s).size := by
  show _ = some 13
  kernel_rfl
section
variable (rk rb g : Nat) (b : Sv) (zs : List Int) (pl p : Int) (w : World)
def zf : Fr := ⟨0, 0, 0, 0, 0, false, [], [], [], 0, 0, 0, 0⟩
def nilS : Sv := ⟨none, 0, 0⟩
theorem holdsR_nil (B : Nat) (w : World) (f : Fr) (h1 : f.data = []) (h2 : f.cid = []) (h3 : f.sp = []) : HoldsR B w f nilS nilS nilS :=
  ⟨by rw [h1]; exact sub_nil _ _ _, by rw [h2]; exact sub_nil _ _ _, by rw [h3]; exact sub_nil _ _ _, new_nil _, new_nil _, new_nil _⟩
theorem Fbk.start {w w1 w2 u : World} {rk rb g : Nat} {b : Sv} {zs : List Int} {pl p q : Int} {f : Fr} (h0 : Rg w rk rb g b zs pl p) (q1 : Q w w1) (b1 : Box w1 34 w.heap.size zf nilS nilS nilS) (k : Keep (fun k => k = rb) w1 w2) (r : Rg w2 rk rb g b zs pl q) (qu : Q w2 u) (bu : Box u 34 w2.heap.size f nilS nilS nilS)
    (h1 : f.data = []) (h2 : f.cid = []) (h3 : f.sp = []) : Fbk w u rk rb g b zs pl q w.heap.size w2.heap.size f nilS nilS nilS := by
  have hlt := h0.rdr.lt
  have hb1 := b1.lt
  have hs := k.size
  have b2 : Box w2 34 w.heap.size zf nilS nilS nilS := b1.keep k (by omega)
  exact ⟨((Keep.ofQ q1).trans k).trans (Keep.ofQ qu), r.q qu, ⟨_, _, _, _, b2.q qu⟩, bu, holdsR_nil _ _ _ h1 h2 h3, Nat.le_refl _, by omega, by omega, by simp [blk, nilS], by simp [blk, nilS], by simp [blk, nilS], by simp [blk, nilS], by simp [blk, nilS], by simp [blk, nilS]⟩

set_option maxHeartbeats 2000000 in
theorem stream_nr (k : Int) (fin : Bool) (h1 : (bits .and .i64 k 1 != 0) = fin) (h4 : (bits .and .i64 k 4 != 0) = false) (h2 : (bits .and .i64 k 2 != 0) = false) (h : Rg w rk rb g b zs pl p) :
    Calls Try.prog 51 #[.pointer (some ⟨rk, 0, none⟩), .int .i64 k] w fun e w' => Ans w rk rb g b zs pl (FrV w.heap.size) (strmO zs p fin false false) e w' := by
  have HH := hid h
  clear h
  go_enter Try.func51, Try.ntmps51
  go_wp2_with fail
  generalize hw1 : World.alloc w _ = w1
  have q1 : Q w w1 := by rw [← hw1]; exact (Q.refl w).alloc _
  have b1 : Box w1 34 w.heap.size zf nilS nilS nilS := by rw [← hw1]; exact heap_alloc_new w _
  clear hw1
  refine (number_at rk rb g b zs pl p w1 (HH.out.q q1)).mono ?_
  rintro e w2 ⟨hk, ⟨id, q, v, ho, rfl, rfl, hr⟩ | ⟨hs, rfl⟩⟩
  rotate_left
  · exact ⟨rfl, Ans.stopped _ ((Keep.ofQ q1).trans hk) hs rfl⟩
  have HO1 := hid (show strmO zs p fin false false = strm1 zs fin false false id q from by unfold strmO; rw [ho]; rfl)
  have hltw : w.heap.size < w2.heap.size := by have := b1.lt; have := hk.size; omega
  have ST := hid (fun (u : World) (f : Fr) (qu : Q w2 u) (bu : Box u 34 w2.heap.size f nilS nilS nilS) (e1 : f.data = []) (e2 : f.cid = []) (e3 : f.sp = []) => Fbk.start HH.out q1 b1 hk hr qu bu e1 e2 e3)
  have c1 := hr.c1
  have hrk := hr.lt
  clear q1 b1 hk ho hr
  go_wp2_with fail
  generalize hw3 : World.alloc w2 _ = u
  have HF := hid (ST.out u (strm3 fin id 0 []) (by rw [← hw3]; exact (Q.refl w2).alloc _) (by rw [← hw3]; exact heap_alloc_new w2 _) rfl rfl rfl)
  have hu : w2.heap.size < u.heap.size := HF.out.box.lt
  clear hw3 ST
  have HO2 := hid (show strmO zs p fin false false = strm2 zs fin false id 0 q from by rw [HO1.out]; rfl)
  have HRD := hid HF.out.rg.rdr
  have HL0 := hid (show 0 ≤ q ∧ q ≤ b.n from ⟨HF.out.rg.p0, HF.out.rg.p1⟩)
  have HLB := hid (show b.n ≤ 140737488355328 from by have := HH.out.small; omega)
  refine (left_any rb _ b.n b.n q 0 u HLB.out HL0.out.1 HL0.out.2 HRD.out).mono ?_
  rintro e w4 ⟨rfl, k4, rfl⟩
  rw [if_pos rfl]
  have HO3 := hid (show strmO zs p fin false false = (someO zs q ((b.n : Int) - q)).bind (fun data q => .ok (strm3 fin id 0 data) q) from by rw [HO2.out]; unfold strm2 strmD; rw [if_neg (by simp), HH.out.len])
  have F4 := hid (HF.out.call HH.out ((Keep.refl _ u).drewN k4) (HF.out.rg.q ((Q.refl u).drewN k4)))
  clear HF HO2 HRD
  go_wp2_with fail
  generalize World.drewN u k4 = w4 at *
  refine (some_at rk rb g b zs pl q w4 ((b.n : Int) - q) F4.out.rg).mono ?_
  rintro e w5 ⟨hk, ⟨data, q5, v, ho, rfl, ⟨x, rfl, hrow, hnew⟩, hr⟩ | ⟨hs, rfl⟩⟩
  rotate_left
  · exact ⟨rfl, Ans.stopped _ (F4.out.keep.trans hk) hs HO3.out⟩
  have HO5 := hid (show strmO zs p fin false false = .ok (strm3 fin id 0 data) q5 from by rw [HO3.out, ho]; rfl)
  have hfr := F4.out.fresh hnew
  have hnw : New w.heap.size x := hnew.mono F4.out.keep.size
  have F5 := F4.out.call HH.out hk hr
  have c6 := F5.box.c6
  have g6 := F5.box.free 6
  have F6 := F5.set HH.out ((Keep.refl (fun k => k = w2.heap.size) w5).setCell _ 6 (.slice x.a x.n x.c) (.inl rfl)) (F5.box.data_ x data) ⟨hrow, F5.hr.cr, F5.hr.sr, hnw, F5.hr.nc, F5.hr.ns⟩ hfr.1 F5.nrc F5.nrs hfr.2 F5.mrc F5.mrs
  obtain ⟨f0, d0, c0, s0, hres⟩ := F6.res
  have a0 := F6.box.all
  obtain ⟨a0, a1, a2, a3, a4, a5, a6, a7, a8, a9, a10, a11, a12⟩ := a0
  have D6 := hid (fun (u' : World) (k : Keep (fun k => k = w.heap.size) _ u') => F6.done HH.out k HO5.out)
  have BR := hid hres
  have hs5 : w2.heap.size < w5.heap.size := F5.box.lt
  clear hk ho hr hrow hnew hfr hnw F5 F6 F4 HO3
  go_wp2_with (refine wpList_store_row rfl 34 _ _ rfl w.heap.size (fcells (strm3 fin id 0 data) x nilS nilS) rfl rfl 34 _ BR.out (fcells_info _ _ _ _) rfl (fcells_one _ _ _ _) ?_)
  refine ret_frame rfl rfl w.heap.size 34 (strm3 fin id 0 data) x nilS nilS rfl (BR.out.row_ _ _ _ _) (D6.out _ ((Keep.refl _ _).setRow _ _ (.inl rfl)))

set_option maxHeartbeats 2000000 in
theorem stream_nl (k : Int) (fin : Bool) (h1 : (bits .and .i64 k 1 != 0) = fin) (h4 : (bits .and .i64 k 4 != 0) = false) (h2 : (bits .and .i64 k 2 != 0) = true) (h : Rg w rk rb g b zs pl p) :
    Calls Try.prog 51 #[.pointer (some ⟨rk, 0, none⟩), .int .i64 k] w fun e w' => Ans w rk rb g b zs pl (FrV w.heap.size) (strmO zs p fin false true) e w' := by
  have HH := hid h
  clear h
  go_enter Try.func51, Try.ntmps51
  go_wp2_with fail
  generalize hw1 : World.alloc w _ = w1
  have q1 : Q w w1 := by rw [← hw1]; exact (Q.refl w).alloc _
  have b1 : Box w1 34 w.heap.size zf nilS nilS nilS := by rw [← hw1]; exact heap_alloc_new w _
  clear hw1
  refine (number_at rk rb g b zs pl p w1 (HH.out.q q1)).mono ?_
  rintro e w2 ⟨hk, ⟨id, q, v, ho, rfl, rfl, hr⟩ | ⟨hs, rfl⟩⟩
  rotate_left
  · exact ⟨rfl, Ans.stopped _ ((Keep.ofQ q1).trans hk) hs rfl⟩
  have HO1 := hid (show strmO zs p fin false true = strm1 zs fin false true id q from by unfold strmO; rw [ho]; rfl)
  have hltw : w.heap.size < w2.heap.size := by have := b1.lt; have := hk.size; omega
  have ST := hid (fun (u : World) (f : Fr) (qu : Q w2 u) (bu : Box u 34 w2.heap.size f nilS nilS nilS) (e1 : f.data = []) (e2 : f.cid = []) (e3 : f.sp = []) => Fbk.start HH.out q1 b1 hk hr qu bu e1 e2 e3)
  have c1 := hr.c1
  have hrk := hr.lt
  clear q1 b1 hk ho hr
  go_wp2_with fail
  generalize hw3 : World.alloc w2 _ = u
  have HF := hid (ST.out u (strm3 fin id 0 []) (by rw [← hw3]; exact (Q.refl w2).alloc _) (by rw [← hw3]; exact heap_alloc_new w2 _) rfl rfl rfl)
  have hu : w2.heap.size < u.heap.size := HF.out.box.lt
  clear hw3 ST
  have HO2 := hid (show strmO zs p fin false true = strm2 zs fin true id 0 q from by rw [HO1.out]; rfl)
  refine (number_at rk rb g b zs pl q u HF.out.rg).mono ?_
  rintro e w4 ⟨hk, ⟨n, q3, v, ho, rfl, rfl, hr⟩ | ⟨hs, rfl⟩⟩
  rotate_left
  · refine ⟨rfl, Ans.stopped (fun n q => (someO zs q n).bind fun data q => .ok (strm3 fin id 0 data) q) (HF.out.keep.trans hk) hs ?_⟩
    rw [HO2.out]; unfold strm2 strmD; rw [if_pos rfl]; cases numO zs q <;> rfl
  have HO3 := hid (show strmO zs p fin false true = (someO zs q3 n).bind (fun data q => .ok (strm3 fin id 0 data) q) from by rw [HO2.out]; unfold strm2 strmD; rw [if_pos rfl, ho]; rfl)
  have F4 := hid (HF.out.call HH.out hk hr)
  clear hk ho hr HF HO2
  go_wp2_with fail
  refine (some_at rk rb g b zs pl q3 w4 n F4.out.rg).mono ?_
  rintro e w5 ⟨hk, ⟨data, q5, v, ho, rfl, ⟨x, rfl, hrow, hnew⟩, hr⟩ | ⟨hs, rfl⟩⟩
  rotate_left
  · exact ⟨rfl, Ans.stopped _ (F4.out.keep.trans hk) hs HO3.out⟩
  have HO5 := hid (show strmO zs p fin false true = .ok (strm3 fin id 0 data) q5 from by rw [HO3.out, ho]; rfl)
  have hfr := F4.out.fresh hnew
  have hnw : New w.heap.size x := hnew.mono F4.out.keep.size
  have F5 := F4.out.call HH.out hk hr
  have c6 := F5.box.c6
  have g6 := F5.box.free 6
  have F6 := F5.set HH.out ((Keep.refl (fun k => k = w2.heap.size) w5).setCell _ 6 (.slice x.a x.n x.c) (.inl rfl)) (F5.box.data_ x data) ⟨hrow, F5.hr.cr, F5.hr.sr, hnw, F5.hr.nc, F5.hr.ns⟩ hfr.1 F5.nrc F5.nrs hfr.2 F5.mrc F5.mrs
  obtain ⟨f0, d0, c0, s0, hres⟩ := F6.res
  have a0 := F6.box.all
  obtain ⟨a0, a1, a2, a3, a4, a5, a6, a7, a8, a9, a10, a11, a12⟩ := a0
  have D6 := hid (fun (u' : World) (k : Keep (fun k => k = w.heap.size) _ u') => F6.done HH.out k HO5.out)
  have BR := hid hres
  have hs5 : w2.heap.size < w5.heap.size := F5.box.lt
  clear hk ho hr hrow hnew hfr hnw F5 F6 F4 HO3
  go_wp2_with (refine wpList_store_row rfl 34 _ _ rfl w.heap.size (fcells (strm3 fin id 0 data) x nilS nilS) rfl rfl 34 _ BR.out (fcells_info _ _ _ _) rfl (fcells_one _ _ _ _) ?_)
  refine ret_frame rfl rfl w.heap.size 34 (strm3 fin id 0 data) x nilS nilS rfl (BR.out.row_ _ _ _ _) (D6.out _ ((Keep.refl _ _).setRow _ _ (.inl rfl)))

set_option maxHeartbeats 2000000 in
theorem stream_ar (k : Int) (fin : Bool) (h1 : (bits .and .i64 k 1 != 0) = fin) (h4 : (bits .and .i64 k 4 != 0) = true) (h2 : (bits .and .i64 k 2 != 0) = false) (h : Rg w rk rb g b zs pl p) :
    Calls Try.prog 51 #[.pointer (some ⟨rk, 0, none⟩), .int .i64 k] w fun e w' => Ans w rk rb g b zs pl (FrV w.heap.size) (strmO zs p fin true false) e w' := by
  have HH := hid h
  clear h
  go_enter Try.func51, Try.ntmps51
  go_wp2_with fail
  generalize hw1 : World.alloc w _ = w1
  have q1 : Q w w1 := by rw [← hw1]; exact (Q.refl w).alloc _
  have b1 : Box w1 34 w.heap.size zf nilS nilS nilS := by rw [← hw1]; exact heap_alloc_new w _
  clear hw1
  refine (number_at rk rb g b zs pl p w1 (HH.out.q q1)).mono ?_
  rintro e w2 ⟨hk, ⟨id, q, v, ho, rfl, rfl, hr⟩ | ⟨hs, rfl⟩⟩
  rotate_left
  · exact ⟨rfl, Ans.stopped _ ((Keep.ofQ q1).trans hk) hs rfl⟩
  have HO1 := hid (show strmO zs p fin true false = strm1 zs fin true false id q from by unfold strmO; rw [ho]; rfl)
  have hltw : w.heap.size < w2.heap.size := by have := b1.lt; have := hk.size; omega
  have ST := hid (fun (u : World) (f : Fr) (qu : Q w2 u) (bu : Box u 34 w2.heap.size f nilS nilS nilS) (e1 : f.data = []) (e2 : f.cid = []) (e3 : f.sp = []) => Fbk.start HH.out q1 b1 hk hr qu bu e1 e2 e3)
  have c1 := hr.c1
  have hrk := hr.lt
  clear q1 b1 hk ho hr
  go_wp2_with fail
  generalize hw3 : World.alloc w2 _ = u
  have HF := hid (ST.out u (strm3 fin id 0 []) (by rw [← hw3]; exact (Q.refl w2).alloc _) (by rw [← hw3]; exact heap_alloc_new w2 _) rfl rfl rfl)
  have hu : w2.heap.size < u.heap.size := HF.out.box.lt
  clear hw3 ST
  refine (number_at rk rb g b zs pl q u HF.out.rg).mono ?_
  rintro e w3 ⟨hk, ⟨at_, q2, v, ho, rfl, rfl, hr⟩ | ⟨hs, rfl⟩⟩
  rotate_left
  · exact ⟨rfl, Ans.stopped _ (HF.out.keep.trans hk) hs HO1.out⟩
  have HO2 := hid (show strmO zs p fin true false = strm2 zs fin false id at_ q2 from by rw [HO1.out]; unfold strm1; rw [if_pos rfl, ho]; rfl)
  have F3 := HF.out.call HH.out hk hr
  have c2 := F3.box.c2
  have g2 := F3.box.free 2
  have HF2 := hid (F3.set HH.out ((Keep.refl (fun k => k = w2.heap.size) w3).setCell _ 2 (.int .i64 at_) (.inl rfl)) (F3.box.pl_ at_) ⟨F3.hr.dr, F3.hr.cr, F3.hr.sr, F3.hr.nd, F3.hr.nc, F3.hr.ns⟩ F3.nrd F3.nrc F3.nrs F3.mrd F3.mrc F3.mrs)
  have hsz : w2.heap.size < w3.heap.size := F3.box.lt
  have c1 := HF2.out.rg.c1
  clear F3 hk ho hr HF HO1 hu
  go_wp2_with fail
  generalize World.setCell w3 _ _ = u at *
  have HRD := hid HF2.out.rg.rdr
  have HL0 := hid (show 0 ≤ q2 ∧ q2 ≤ b.n from ⟨HF2.out.rg.p0, HF2.out.rg.p1⟩)
  have HLB := hid (show b.n ≤ 140737488355328 from by have := HH.out.small; omega)
  refine (left_any rb _ b.n b.n q2 0 u HLB.out HL0.out.1 HL0.out.2 HRD.out).mono ?_
  rintro e w4 ⟨rfl, k4, rfl⟩
  rw [if_pos rfl]
  have HO3 := hid (show strmO zs p fin true false = (someO zs q2 ((b.n : Int) - q2)).bind (fun data q => .ok (strm3 fin id at_ data) q) from by rw [HO2.out]; unfold strm2 strmD; rw [if_neg (by simp), HH.out.len])
  have F4 := hid (HF2.out.call HH.out ((Keep.refl _ u).drewN k4) (HF2.out.rg.q ((Q.refl u).drewN k4)))
  clear HF2 HO2 HRD
  go_wp2_with fail
  generalize World.drewN u k4 = w4 at *
  refine (some_at rk rb g b zs pl q2 w4 ((b.n : Int) - q2) F4.out.rg).mono ?_
  rintro e w5 ⟨hk, ⟨data, q5, v, ho, rfl, ⟨x, rfl, hrow, hnew⟩, hr⟩ | ⟨hs, rfl⟩⟩
  rotate_left
  · exact ⟨rfl, Ans.stopped _ (F4.out.keep.trans hk) hs HO3.out⟩
  have HO5 := hid (show strmO zs p fin true false = .ok (strm3 fin id at_ data) q5 from by rw [HO3.out, ho]; rfl)
  have hfr := F4.out.fresh hnew
  have hnw : New w.heap.size x := hnew.mono F4.out.keep.size
  have F5 := F4.out.call HH.out hk hr
  have c6 := F5.box.c6
  have g6 := F5.box.free 6
  have F6 := F5.set HH.out ((Keep.refl (fun k => k = w2.heap.size) w5).setCell _ 6 (.slice x.a x.n x.c) (.inl rfl)) (F5.box.data_ x data) ⟨hrow, F5.hr.cr, F5.hr.sr, hnw, F5.hr.nc, F5.hr.ns⟩ hfr.1 F5.nrc F5.nrs hfr.2 F5.mrc F5.mrs
  obtain ⟨f0, d0, c0, s0, hres⟩ := F6.res
  have a0 := F6.box.all
  obtain ⟨a0, a1, a2, a3, a4, a5, a6, a7, a8, a9, a10, a11, a12⟩ := a0
  have D6 := hid (fun (u' : World) (k : Keep (fun k => k = w.heap.size) _ u') => F6.done HH.out k HO5.out)
  have BR := hid hres
  have hs5 : w2.heap.size < w5.heap.size := F5.box.lt
  clear hk ho hr hrow hnew hfr hnw F5 F6 F4 HO3
  go_wp2_with (refine wpList_store_row rfl 34 _ _ rfl w.heap.size (fcells (strm3 fin id at_ data) x nilS nilS) rfl rfl 34 _ BR.out (fcells_info _ _ _ _) rfl (fcells_one _ _ _ _) ?_)
  refine ret_frame rfl rfl w.heap.size 34 (strm3 fin id at_ data) x nilS nilS rfl (BR.out.row_ _ _ _ _) (D6.out _ ((Keep.refl _ _).setRow _ _ (.inl rfl)))

set_option maxHeartbeats 2000000 in
theorem stream_al (k : Int) (fin : Bool) (h1 : (bits .and .i64 k 1 != 0) = fin) (h4 : (bits .and .i64 k 4 != 0) = true) (h2 : (bits .and .i64 k 2 != 0) = true) (h : Rg w rk rb g b zs pl p) :
    Calls Try.prog 51 #[.pointer (some ⟨rk, 0, none⟩), .int .i64 k] w fun e w' => Ans w rk rb g b zs pl (FrV w.heap.size) (strmO zs p fin true true) e w' := by
  have HH := hid h
  clear h
  go_enter Try.func51, Try.ntmps51
  go_wp2_with fail
  generalize hw1 : World.alloc w _ = w1
  have q1 : Q w w1 := by rw [← hw1]; exact (Q.refl w).alloc _
  have b1 : Box w1 34 w.heap.size zf nilS nilS nilS := by rw [← hw1]; exact heap_alloc_new w _
  clear hw1
  refine (number_at rk rb g b zs pl p w1 (HH.out.q q1)).mono ?_
  rintro e w2 ⟨hk, ⟨id, q, v, ho, rfl, rfl, hr⟩ | ⟨hs, rfl⟩⟩
  rotate_left
  · exact ⟨rfl, Ans.stopped _ ((Keep.ofQ q1).trans hk) hs rfl⟩
  have HO1 := hid (show strmO zs p fin true true = strm1 zs fin true true id q from by unfold strmO; rw [ho]; rfl)
  have hltw : w.heap.size < w2.heap.size := by have := b1.lt; have := hk.size; omega
  have ST := hid (fun (u : World) (f : Fr) (qu : Q w2 u) (bu : Box u 34 w2.heap.size f nilS nilS nilS) (e1 : f.data = []) (e2 : f.cid = []) (e3 : f.sp = []) => Fbk.start HH.out q1 b1 hk hr qu bu e1 e2 e3)
  have c1 := hr.c1
  have hrk := hr.lt
  clear q1 b1 hk ho hr
  go_wp2_with fail
  generalize hw3 : World.alloc w2 _ = u
  have HF := hid (ST.out u (strm3 fin id 0 []) (by rw [← hw3]; exact (Q.refl w2).alloc _) (by rw [← hw3]; exact heap_alloc_new w2 _) rfl rfl rfl)
  have hu : w2.heap.size < u.heap.size := HF.out.box.lt
  clear hw3 ST
  refine (number_at rk rb g b zs pl q u HF.out.rg).mono ?_
  rintro e w3 ⟨hk, ⟨at_, q2, v, ho, rfl, rfl, hr⟩ | ⟨hs, rfl⟩⟩
  rotate_left
  · exact ⟨rfl, Ans.stopped _ (HF.out.keep.trans hk) hs HO1.out⟩
  have HO2 := hid (show strmO zs p fin true true = strm2 zs fin true id at_ q2 from by rw [HO1.out]; unfold strm1; rw [if_pos rfl, ho]; rfl)
  have F3 := HF.out.call HH.out hk hr
  have c2 := F3.box.c2
  have g2 := F3.box.free 2
  have HF2 := hid (F3.set HH.out ((Keep.refl (fun k => k = w2.heap.size) w3).setCell _ 2 (.int .i64 at_) (.inl rfl)) (F3.box.pl_ at_) ⟨F3.hr.dr, F3.hr.cr, F3.hr.sr, F3.hr.nd, F3.hr.nc, F3.hr.ns⟩ F3.nrd F3.nrc F3.nrs F3.mrd F3.mrc F3.mrs)
  have hsz : w2.heap.size < w3.heap.size := F3.box.lt
  have c1 := HF2.out.rg.c1
  clear F3 hk ho hr HF HO1 hu
  go_wp2_with fail
  generalize World.setCell w3 _ _ = u at *
  refine (number_at rk rb g b zs pl q2 u HF2.out.rg).mono ?_
  rintro e w4 ⟨hk, ⟨n, q3, v, ho, rfl, rfl, hr⟩ | ⟨hs, rfl⟩⟩
  rotate_left
  · refine ⟨rfl, Ans.stopped (fun n q => (someO zs q n).bind fun data q => .ok (strm3 fin id at_ data) q) (HF2.out.keep.trans hk) hs ?_⟩
    rw [HO2.out]; unfold strm2 strmD; rw [if_pos rfl]; cases numO zs q2 <;> rfl
  have HO3 := hid (show strmO zs p fin true true = (someO zs q3 n).bind (fun data q => .ok (strm3 fin id at_ data) q) from by rw [HO2.out]; unfold strm2 strmD; rw [if_pos rfl, ho]; rfl)
  have F4 := hid (HF2.out.call HH.out hk hr)
  clear hk ho hr HF2 HO2
  go_wp2_with fail
  refine (some_at rk rb g b zs pl q3 w4 n F4.out.rg).mono ?_
  rintro e w5 ⟨hk, ⟨data, q5, v, ho, rfl, ⟨x, rfl, hrow, hnew⟩, hr⟩ | ⟨hs, rfl⟩⟩
  rotate_left
  · exact ⟨rfl, Ans.stopped _ (F4.out.keep.trans hk) hs HO3.out⟩
  have HO5 := hid (show strmO zs p fin true true = .ok (strm3 fin id at_ data) q5 from by rw [HO3.out, ho]; rfl)
  have hfr := F4.out.fresh hnew
  have hnw : New w.heap.size x := hnew.mono F4.out.keep.size
  have F5 := F4.out.call HH.out hk hr
  have c6 := F5.box.c6
  have g6 := F5.box.free 6
  have F6 := F5.set HH.out ((Keep.refl (fun k => k = w2.heap.size) w5).setCell _ 6 (.slice x.a x.n x.c) (.inl rfl)) (F5.box.data_ x data) ⟨hrow, F5.hr.cr, F5.hr.sr, hnw, F5.hr.nc, F5.hr.ns⟩ hfr.1 F5.nrc F5.nrs hfr.2 F5.mrc F5.mrs
  obtain ⟨f0, d0, c0, s0, hres⟩ := F6.res
  have a0 := F6.box.all
  obtain ⟨a0, a1, a2, a3, a4, a5, a6, a7, a8, a9, a10, a11, a12⟩ := a0
  have D6 := hid (fun (u' : World) (k : Keep (fun k => k = w.heap.size) _ u') => F6.done HH.out k HO5.out)
  have BR := hid hres
  have hs5 : w2.heap.size < w5.heap.size := F5.box.lt
  clear hk ho hr hrow hnew hfr hnw F5 F6 F4 HO3
  go_wp2_with (refine wpList_store_row rfl 34 _ _ rfl w.heap.size (fcells (strm3 fin id at_ data) x nilS nilS) rfl rfl 34 _ BR.out (fcells_info _ _ _ _) rfl (fcells_one _ _ _ _) ?_)
  refine ret_frame rfl rfl w.heap.size 34 (strm3 fin id at_ data) x nilS nilS rfl (BR.out.row_ _ _ _ _) (D6.out _ ((Keep.refl _ _).setRow _ _ (.inl rfl)))

/-- stream, at each of the eight types. -/
def streamO (zs : List Int) (p k : Int) : Out Fr := strmO zs p (decide (k % 2 = 1)) (decide (k / 4 % 2 = 1)) (decide (k / 2 % 2 = 1))
theorem stream_at (k : Int) (hk : 8 ≤ k ∧ k ≤ 15) (h : Rg w rk rb g b zs pl p) :
    Calls Try.prog 51 #[.pointer (some ⟨rk, 0, none⟩), .int .i64 k] w fun e w' => Ans w rk rb g b zs pl (FrV w.heap.size) (streamO zs p k) e w' := by
  have hc : k = 8 ∨ k = 9 ∨ k = 10 ∨ k = 11 ∨ k = 12 ∨ k = 13 ∨ k = 14 ∨ k = 15 := by omega
  rcases hc with rfl | rfl | rfl | rfl | rfl | rfl | rfl | rfl
  · exact stream_nr rk rb g b zs pl p w 8 false (by decide) (by decide) (by decide) h
  · exact stream_nr rk rb g b zs pl p w 9 true (by decide) (by decide) (by decide) h
  · exact stream_nl rk rb g b zs pl p w 10 false (by decide) (by decide) (by decide) h
  · exact stream_nl rk rb g b zs pl p w 11 true (by decide) (by decide) (by decide) h
  · exact stream_ar rk rb g b zs pl p w 12 false (by decide) (by decide) (by decide) h
  · exact stream_ar rk rb g b zs pl p w 13 true (by decide) (by decide) (by decide) h
  · exact stream_al rk rb g b zs pl p w 14 false (by decide) (by decide) (by decide) h
  · exact stream_al rk rb g b zs pl p w 15 true (by decide) (by decide) (by decide) h
end
end Go.Proofs.Ytdoodbaogmdloab
