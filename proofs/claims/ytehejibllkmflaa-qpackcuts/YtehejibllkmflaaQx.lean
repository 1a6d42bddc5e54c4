/-
  The dynamic table's insert and resize: contracts that the statements' walks use.
-/
import Derived.Test.YtehejibllkmflaaQw
namespace Go.Proofs.Ytehejibllkmflaa
open Go.RowKit
set_option linter.unusedVariables false
set_option maxRecDepth 20000

theorem shrL_len (m : Int) : ∀ (es : List Fd) (g : Nat), (shrL m g es).1 + (shrL m g es).2.length = g + es.length
  | [], g => rfl
  | f :: r, g => by
    rw [shrL]
    split
    · have := shrL_len m r (g + 1); rw [this, List.length_cons]; omega
    · rfl
theorem shrL_of {m : Int} {g : Nat} {es : List Fd} (h : ¬ sumF es > m) : shrL m g es = (g, es) := by
  cases es with
  | nil => rfl
  | cons f r => rw [shrL, if_neg h]
theorem SHr.eq {w : World} {db : Nat} {D : Dk} {m : Int} {R : Nat × List Fd} {wr : World} {e' : Sv} {g : Nat} {es : List Fd} (h : SHr w db D m R wr e' g es) (hn : ¬ sumF es > m) : R = (g, es) := by rw [← h.r, shrL_of hn]
theorem sumF_app (l : List Fd) (f : Fd) : sumF (l ++ [f]) = sumF l + szF f := by simp [sumF]
/-- What a call on the table leaves. -/
structure TbS (w : World) (db : Nat) (D : Dk) (g : Nat) (es : List Fd) (w' : World) (e' : Sv) : Prop where
  i : DI w' db { D with sz := sumF es, gone := g, e := e' } es
  k : Keep (fun b => b = db ∨ blk D.e.a = some b) w w'
  b : ∀ b, blk e'.a = some b → blk D.e.a = some b ∨ w.heap.size ≤ b
theorem FB.keep {F : Nat → Prop} {u v : World} {fb : Nat} {x y : ByteArray} (h : FB u fb x y) (k : Keep F u v) (hn : ¬ F fb) : FB v fb x y := (k.block _ (lt_of_block h) hn).trans h
set_option maxHeartbeats 16000000 in
theorem insert_any (db : Nat) (D : Dk) (es : List Fd) (f : Fd) (w : World) (h : DI w db D es) (hs : D.sz = sumF es) (hc : szF f ≤ D.cap) (hb : sumF es ≤ 100000000) (hcb : D.cap ≤ 100000000) (hg : D.gone + es.length ≤ 140737488355328) :
    Calls Try.prog 57 #[.pointer (some ⟨db, 3, none⟩), .agg #[.string f.1, .string f.2]] w fun e w' => e = .returned (.tuple #[]) ∧ ∃ e', TbS w db D (shrL (D.cap - szF f) D.gone es).1 ((shrL (D.cap - szF f) D.gone es).2 ++ [f]) w' e' := by
  have hsf := szF_pos f
  have hf1 : (f.1.size : Int) ≤ 1000000000 := by unfold szF at *; omega
  have hf2 : (f.2.size : Int) ≤ 1000000000 := by unfold szF at *; omega
  have HH := hid h
  have HS := hid hs
  have HQ0 := hid ((Q.refl w).alloc (.cells #[.string f.1, .string f.2] 23))
  have HF0 := hid (heap_alloc_new w (.cells #[.string f.1, .string f.2] 23))
  have hdl := lt_of_block h.b
  have hel : ∀ b, blk D.e.a = some b → b < w.heap.size := fun b e => Sub.lt h.r b e
  clear h hs
  go_enter Try.func57, Try.ntmps57
  go_wp2_with fail
  generalize hW : World.alloc w _ = W0 at *
  clear hW
  generalize hR : Code.region 1 _ true = CC
  have eR : CC = Code.region 1 (RofN Try.f57 1) true := hR.symm.trans (by kernel_rfl)
  clear hR
  subst eR
  refine wp_region_noPanic ?_
  refine in1 db w.heap.size f.1 f.2 D.cap (szF f) (D.cap - szF f) W0 _ (fun c a d v w h => h) (fun u v => ∃ e' g es', SHr u db D (D.cap - szF f) (shrL (D.cap - szF f) D.gone es) v e' g es' ∧ ¬ sumF es' > D.cap - szF f) (wrap_id (by omega) (by omega))
    (fun u q => (sizeF_any f.1 f.2 u (by omega) (by omega)).mono (by rintro e v ⟨rfl, q2⟩; exact ⟨rfl, q.trans q2, trivial⟩))
    (fun u q => ((HH.out.q HQ0.out).q q).c 3 _ rfl) (fun u q => blk_q q HF0.out)
    (fun u q => (shrink_any db D es (D.cap - szF f) u ((HH.out.q HQ0.out).q q) (by omega) HS.out (by omega) (by omega)).mono (by rintro e v ⟨rfl, hh⟩; exact ⟨rfl, hh, trivial⟩)) trivial ?_
  rintro u v qu ⟨e1, g1, es1, hsh, hle⟩
  have hRR := hsh.eq hle
  have HSH := hid hsh
  have HRR := hid hRR
  have QU := hid (HQ0.out.trans qu)
  have hsu : w.heap.size < u.heap.size := by have := qu.size; have := lt_of_block HF0.out; omega
  have FV := hid (FB.keep (blk_q qu HF0.out) hsh.k (by
    rintro (e | e)
    · omega
    · have := hel _ e; omega))
  have KV := hid (show Keep (fun b => b = db ∨ blk D.e.a = some b) w v from (Keep.ofQ QU.out).trans hsh.k)
  clear hsh hRR qu HF0
  refine NoPanic.normal ?_
  refine ‹∀ a w, Code.wp Try.prog _ _ a w → _› _ _ ?_
  have hlen1 : es1.length ≤ 4398046511104 := by
    have h1 := sumF_nn es1
    have h2 := HSH.out.s
    omega
  obtain ⟨e2, w1, hrun, hrow, hkp, hbb⟩ := rowG_one (w := v.drew) f (HSH.out.i.r.q ((Q.refl v).drew)) (by have := HSH.out.i.r.len; show e1.n ≤ _; simp only at this; omega)
  have hdv : ∀ b, blk e1.a = some b → b ≠ db := HSH.out.i.d
  have b1 : w1.heap[db]? = some (.cells (dC { D with sz := sumF es1, gone := g1, e := e1 }) 55 (0, 0)) := (hkp.block db (lt_of_block HSH.out.i.b) (fun e => hdv db e rfl)).trans HSH.out.i.b
  go_wp2_with fail
  generalize hR : Code.region 2 _ true = CC
  have eR : CC = Code.region 2 (RofN Try.f57 2) true := hR.symm.trans (by kernel_rfl)
  clear hR
  subst eR
  refine wp_region_noPanic ?_
  refine in2 db w.heap.size f.1 f.2 e1 e2 w1 v _ (fun c a d v w h => h) (fun u q => (HSH.out.i.q q).c 6 _ rfl) (fun u q => blk_q q FV.out) hrun (by rw [cell_of_row w1 _ 6 _ 55 (0, 0) b1]; rfl) (frozen_of_row w1 _ 6 _ 55 b1) trivial ?_
  intro g0
  have hdlt := lt_of_block b1
  have hdvl : db < v.heap.size := lt_of_block HSH.out.i.b
  have hd2 : ∀ b, blk e2.a = some b → b ≠ db := fun b e h => by
    rcases hbb b e with h2 | h2
    · exact hdv b h2 h
    · have : v.heap.size ≤ b := h2
      omega
  have b2 := dC_set b1 6 (.slice e2.a e2.n e2.c) { D with sz := sumF es1, gone := g1, e := e2 } rfl
  have k2 : Keep (fun b => b = db) w1 (w1.setCell ⟨db, 6, none⟩ (.slice e2.a e2.n e2.c)) := (Keep.refl _ w1).setCell db 6 _ (.inl rfl)
  have HI2 := hid (show DI (w1.setCell ⟨db, 6, none⟩ (.slice e2.a e2.n e2.c)) db { D with sz := sumF es1, gone := g1, e := e2 } (es1 ++ [f]) from ⟨b2, hrow.keep k2 (fun b e => hd2 b e), hd2⟩)
  have K2 := hid (show Keep (fun b => b = db ∨ blk D.e.a = some b) v (w1.setCell ⟨db, 6, none⟩ (.slice e2.a e2.n e2.c)) from ((Keep.ofQ ((Q.refl v).drew)).trans (hkp.mono (fun i _ e => .inr (HSH.out.b i e)))).trans (k2.mono (fun i _ e => .inl e)))
  have F2 := hid (FB.keep FV.out K2.out (by
    rintro (e | e)
    · omega
    · have := hel _ e; omega))
  have hvs : u.heap.size ≤ v.heap.size := HSH.out.k.size
  have hws : w.heap.size ≤ v.heap.size := by omega
  have HBB := hid (show ∀ b, blk e2.a = some b → blk D.e.a = some b ∨ w.heap.size ≤ b from fun b e => (hbb b e).elim (fun h => .inl (HSH.out.b b h)) (fun h => .inr (Nat.le_trans hws h)))
  generalize w1.setCell ⟨db, 6, none⟩ (.slice e2.a e2.n e2.c) = w2 at *
  have hss := HSH.out.s
  have hs0 := sumF_nn es1
  clear b1 b2 k2 hkp hbb hrow hrun hd2 hdv
  refine NoPanic.normal ?_
  refine ‹∀ a w, Code.wp Try.prog _ _ a w → _› _ _ ?_
  go_wp2_with fail
  generalize hR : Code.region 3 _ true = CC
  have eR : CC = Code.region 3 (RofN Try.f57 3) true := hR.symm.trans (by kernel_rfl)
  clear hR
  subst eR
  refine wp_region_noPanic ?_
  refine in3 db w.heap.size f.1 f.2 (sumF es1) (szF f) (sumF (es1 ++ [f])) w2 _ (fun c a d v w h => h) (by rw [sumF_app]; exact wrap_id (by omega) (by omega))
    (fun u q => (sizeF_any f.1 f.2 u (by omega) (by omega)).mono (by rintro e v ⟨rfl, q2⟩; exact ⟨rfl, q.trans q2, trivial⟩))
    (fun u q => ⟨(HI2.out.q q).c 4 _ rfl, (HI2.out.q q).f 4⟩) (fun u q => blk_q q F2.out) trivial ?_
  intro u3 q3
  have hi3 := HI2.out.q q3
  have b3 := dC_set hi3.b 4 (.int .i64 (sumF (es1 ++ [f]))) { D with sz := sumF (es1 ++ [f]), gone := g1, e := e2 } rfl
  have k3 : Keep (fun b => b = db) u3 (u3.setCell ⟨db, 4, none⟩ (.int .i64 (sumF (es1 ++ [f])))) := (Keep.refl _ u3).setCell db 4 _ (.inl rfl)
  have HT := hid (show TbS w db D (shrL (D.cap - szF f) D.gone es).1 ((shrL (D.cap - szF f) D.gone es).2 ++ [f]) (u3.setCell ⟨db, 4, none⟩ (.int .i64 (sumF (es1 ++ [f])))) e2 from by
    rw [HRR.out]
    exact ⟨⟨b3, hi3.r.keep k3 (fun b e => hi3.d b e), hi3.d⟩, ((KV.out.trans K2.out).trans (Keep.ofQ q3)).trans (k3.mono (fun i _ e => .inl e)), HBB.out⟩)
  clear hi3 b3 k3
  refine NoPanic.normal ?_
  go_end0
  exact ⟨rfl, e2, HT.out⟩
set_option maxHeartbeats 4000000 in
theorem resize_any (db : Nat) (D : Dk) (es : List Fd) (c : Int) (w : World) (h : DI w db D es) (hs : D.sz = sumF es) (hc : 0 ≤ c) (hb : sumF es ≤ 100000000) (hg : D.gone + es.length ≤ 140737488355328) :
    Calls Try.prog 40 #[.pointer (some ⟨db, 3, none⟩), .int .i64 c] w fun e w' => e = .returned (.tuple #[]) ∧ ∃ e', TbS w db { D with cap := c } (shrL c D.gone es).1 (shrL c D.gone es).2 w' e' := by
  have c3 := h.c 3 _ rfl
  have f3 := h.f 3
  have b2 := dC_set h.b 3 (.int .i64 c) { D with cap := c } rfl
  have k2 : Keep (fun b => b = db) w (w.setCell ⟨db, 3, none⟩ (.int .i64 c)) := (Keep.refl _ w).setCell db 3 _ (.inl rfl)
  have HSH := hid (shrink_any db { D with cap := c } es c _ ⟨b2, h.r.keep k2 (fun b e => h.d b e), h.d⟩ hc hs (by omega) (by show D.gone + es.length ≤ _; omega))
  have HK := hid k2
  clear h b2 k2
  go_enter Try.func40, Try.ntmps40
  go_wp2_with (go_at_call 59; refine HSH.out.mono ?_; rintro e w1 ⟨rfl, e1, g1, es1, hsh, hle⟩)
  go_end0
  refine ⟨rfl, e1, ?_⟩
  have := hsh.eq (by omega)
  rw [this]
  exact ⟨hsh.i, (HK.out.mono (fun i _ e => .inl e)).trans hsh.k, fun b e => .inl (hsh.b b e)⟩
end Go.Proofs.Ytehejibllkmflaa
