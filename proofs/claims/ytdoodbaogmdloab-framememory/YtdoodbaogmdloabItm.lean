/-
  What a reading's items does: a contract that the statements' walks use.
-/
import Derived.Test.YtdoodbaogmdloabAkdTwo
namespace Go.Proofs.Ytdoodbaogmdloab
open Go.RowKit
set_option linter.unusedVariables false
set_option maxRecDepth 20000

def fset (f : Fr) (o : Nat) (x : Int) : Fr := if o = 1 then { f with id := x } else if o = 2 then { f with pl := x } else if o = 3 then { f with num := x } else { f with code := x }
theorem fset_data (f : Fr) (o : Nat) (x : Int) : (fset f o x).data = f.data ∧ (fset f o x).cid = f.cid ∧ (fset f o x).sp = f.sp := by
  unfold fset
  repeat' split
  all_goals exact ⟨rfl, rfl, rfl⟩
theorem Box.fset_ {w : World} {t fb : Nat} {f : Fr} {d c s : Sv} {o : Nat} (h : Box w t fb f d c s) (ho : o = 1 ∨ o = 2 ∨ o = 3 ∨ o = 4) (x : Int) : Box (w.setCell ⟨fb, o, none⟩ (.int .i64 x)) t fb (fset f o x) d c s := by
  rcases ho with rfl | rfl | rfl | rfl
  · exact h.id_ x
  · exact h.pl_ x
  · exact h.num_ x
  · exact h.code_ x
theorem Box.at_ {w : World} {t fb : Nat} {f : Fr} {d c s : Sv} {o : Nat} (h : Box w t fb f d c s) (ho : o = 1 ∨ o = 2 ∨ o = 3 ∨ o = 4) : ∃ v, w.cell? ⟨fb, o, none⟩ = some v := by
  rcases ho with rfl | rfl | rfl | rfl
  · exact ⟨_, h.c1⟩
  · exact ⟨_, h.c2⟩
  · exact ⟨_, h.c3⟩
  · exact ⟨_, h.c4⟩
def leadsO (zs : List Int) : List Nat → Fr → Int → Out Fr
  | [], f, q => .ok f q
  | o :: r, f, q => (numO zs q).bind fun x q => leadsO zs r (fset f o x) q
def lastO (zs : List Int) (k : Int) (f : Fr) (q : Int) : Out Fr :=
  if k = 6 ∨ k = 7 ∨ k = 28 ∨ k = 29 then (numO zs q).bind fun n q => (someO zs q n).bind fun d q => .ok { f with data := d } q
  else if k = 24 then (oneO zs q).bind fun n q => (someO zs q n).bind fun c q => (someO zs q 16).bind fun d q => .ok { f with cid := c, data := d } q
  else if k = 26 ∨ k = 27 then (someO zs q 8).bind fun d q => .ok { f with data := d } q else .ok f q
def genO (zs : List Int) (k p : Int) : Out Fr := (leadsO zs (lead k) { zf with kind := k } p).bind fun f q => lastO zs k f q
def itemsO (zs : List Int) (P : Nat) (p k : Int) : Out Fr :=
  if k = 0 then (zerosO zs P).bind fun n q => .ok { zf with num := n } q else if k = 2 ∨ k = 3 then ackO zs p k else if 8 ≤ k ∧ k ≤ 15 then streamO zs p k else genO zs k p

theorem andNot_no {k : Int} (h0 : 0 ≤ k) (h1 : k ≤ 30) (h : ¬ (8 ≤ k ∧ k ≤ 15)) : (bits .andNot .i64 k 7 == 8) = false := by
  have : k = 0 ∨ k = 1 ∨ k = 2 ∨ k = 3 ∨ k = 4 ∨ k = 5 ∨ k = 6 ∨ k = 7 ∨ k = 16 ∨ k = 17 ∨ k = 18 ∨ k = 19 ∨ k = 20 ∨ k = 21 ∨ k = 22 ∨ k = 23 ∨ k = 24 ∨ k = 25 ∨ k = 26 ∨ k = 27 ∨ k = 28 ∨ k = 29 ∨ k = 30 := by omega
  rcases this with rfl | rfl | rfl | rfl | rfl | rfl | rfl | rfl | rfl | rfl | rfl | rfl | rfl | rfl | rfl | rfl | rfl | rfl | rfl | rfl | rfl | rfl | rfl <;> decide
theorem andNot_yes {k : Int} (h : 8 ≤ k ∧ k ≤ 15) : (bits .andNot .i64 k 7 == 8) = true := by
  have : k = 8 ∨ k = 9 ∨ k = 10 ∨ k = 11 ∨ k = 12 ∨ k = 13 ∨ k = 14 ∨ k = 15 := by omega
  rcases this with rfl | rfl | rfl | rfl | rfl | rfl | rfl | rfl <;> decide

section
variable (rk rb g : Nat) (b : Sv) (zs : List Int) (P : Nat) (p : Int) (w : World)

/-- A frame that a callee told is handed on in its result's block. -/
theorem pass_on {w w1 w2 u : World} {rk rb g : Nat} {b : Sv} {zs : List Int} {pl p q : Int} {f : Fr} {d c s : Sv} {O : Out Fr} (h0 : Rg w rk rb g b zs pl p) (q1 : Q w w1) (b1 : Box w1 34 w.heap.size zf nilS nilS nilS) (k : Keep (fun k => k = rb) w1 w2) (hr : HoldsR w1.heap.size w2 f d c s) (r : Rg w2 rk rb g b zs pl q) (hO : O = .ok f q) (ku : Keep (fun k => k = w.heap.size) w2 u) :
    Ans w rk rb g b zs pl (FrV w.heap.size) O (.returned (fv f d c s)) u := by
  have hb1 := b1.lt
  refine ⟨((Keep.ofQ q1).trans k).old ku (fun i e => .inr (by omega)), .inl ⟨f, q, _, hO, rfl, ⟨d, c, s, rfl, ?_⟩, r.keepNew ku h0 (fun i e => by omega)⟩⟩
  have h2 := hr.keep ku (fun i e => .inl (by omega))
  exact ⟨h2.dr, h2.cr, h2.sr, h2.nd.mono q1.size, h2.nc.mono q1.size, h2.ns.mono q1.size⟩
set_option maxHeartbeats 2000000 in
theorem items_0 (hp : p = P + 1) (h : Rg w rk rb g b zs P p) : Calls Try.prog 35 #[.pointer (some ⟨rk, 0, none⟩), .int .i64 0] w fun e w' => Ans w rk rb g b zs P (FrV w.heap.size) ((zerosO zs P).bind fun n q => .ok { zf with num := n } q) e w' := by
  subst hp
  have HH := hid h
  clear h
  go_enter Try.func35, Try.ntmps35
  go_wp2_with fail
  generalize hw1 : World.alloc w _ = w1
  have q1 : Q w w1 := by rw [← hw1]; exact (Q.refl w).alloc _
  have b1 : Box w1 34 w.heap.size zf nilS nilS nilS := by rw [← hw1]; exact heap_alloc_new w _
  clear hw1
  refine (zeros_at rk rb g b zs P w1 (HH.out.q q1)).mono ?_
  rintro e w2 ⟨hk, ⟨n, q, v, ho, rfl, rfl, hr⟩ | ⟨hs, rfl⟩⟩
  rotate_left
  · exact ⟨rfl, Ans.stopped _ ((Keep.ofQ q1).trans hk) hs rfl⟩
  have BR := hid (b1.keep hk (by have := HH.out.rdr.lt; omega))
  have D := hid (fun (u : World) (ku : Keep (fun k => k = w.heap.size) w2 u) => pass_on (O := (zerosO zs P).bind fun n q => .ok { zf with num := n } q) HH.out q1 b1 hk (holdsR_nil _ _ { zf with num := n } rfl rfl rfl) hr (by rw [ho]; rfl) ku)
  clear q1 b1 hk ho hr
  go_wp2_with (refine wpList_store_row rfl 34 _ _ rfl w.heap.size (fcells { zf with num := n } nilS nilS nilS) rfl rfl 34 _ BR.out (fcells_info _ _ _ _) rfl (fcells_one _ _ _ _) ?_)
  refine ret_frame rfl rfl w.heap.size 34 { zf with num := n } nilS nilS nilS rfl (BR.out.row_ _ _ _ _) (D.out _ ((Keep.refl _ _).setRow _ _ (.inl rfl)))
set_option maxHeartbeats 2000000 in
theorem items_2 (k : Int) (hk2 : k = 2 ∨ k = 3) (h : Rg w rk rb g b zs P p) : Calls Try.prog 35 #[.pointer (some ⟨rk, 0, none⟩), .int .i64 k] w fun e w' => Ans w rk rb g b zs P (FrV w.heap.size) (ackO zs p k) e w' := by
  have HH := hid h
  clear h
  rcases hk2 with rfl | rfl
  all_goals
    go_enter Try.func35, Try.ntmps35
    go_wp2_with fail
    generalize hw1 : World.alloc w _ = w1
    have q1 : Q w w1 := by rw [← hw1]; exact (Q.refl w).alloc _
    have b1 : Box w1 34 w.heap.size zf nilS nilS nilS := by rw [← hw1]; exact heap_alloc_new w _
    clear hw1
    refine (ack_at rk rb g b zs P p w1 _ (by omega) (HH.out.q q1)).mono ?_
    rintro e w2 ⟨hk, ⟨f, q, v, ho, rfl, ⟨d, c, s, rfl, hh⟩, hr⟩ | ⟨hs, rfl⟩⟩
    rotate_left
    · exact ⟨rfl, (Keep.ofQ q1).trans hk, .inr ⟨hs, rfl⟩⟩
    have BR := hid (b1.keep hk (by have := HH.out.rdr.lt; omega))
    have D := hid (fun (u : World) (ku : Keep (fun k => k = w.heap.size) w2 u) => pass_on HH.out q1 b1 hk hh hr ho ku)
    clear q1 b1 hk ho hr hh
    go_wp2_with (refine wpList_store_row rfl 34 _ _ rfl w.heap.size (fcells f d c s) rfl rfl 34 _ BR.out (fcells_info _ _ _ _) rfl (fcells_one _ _ _ _) ?_)
    refine ret_frame rfl rfl w.heap.size 34 f d c s rfl (BR.out.row_ _ _ _ _) (D.out _ ((Keep.refl _ _).setRow _ _ (.inl rfl)))
set_option maxHeartbeats 2000000 in
theorem items_8 (k : Int) (hk8 : 8 ≤ k ∧ k ≤ 15) (h : Rg w rk rb g b zs P p) : Calls Try.prog 35 #[.pointer (some ⟨rk, 0, none⟩), .int .i64 k] w fun e w' => Ans w rk rb g b zs P (FrV w.heap.size) (streamO zs p k) e w' := by
  have HH := hid h
  have hy := andNot_yes hk8
  have HK := hid hk8
  have b0 : (k == 0) = false := by simp; omega
  have b2 : (k == 2) = false := by simp; omega
  have b3 : (k == 3) = false := by simp; omega
  clear h hk8
  go_enter Try.func35, Try.ntmps35
  go_wp2_with fail
  generalize hw1 : World.alloc w _ = w1
  have q1 : Q w w1 := by rw [← hw1]; exact (Q.refl w).alloc _
  have b1 : Box w1 34 w.heap.size zf nilS nilS nilS := by rw [← hw1]; exact heap_alloc_new w _
  clear hw1
  refine (stream_at rk rb g b zs P p w1 _ HK.out (HH.out.q q1)).mono ?_
  rintro e w2 ⟨hk, ⟨f, q, v, ho, rfl, ⟨d, c, s, rfl, hh⟩, hr⟩ | ⟨hs, rfl⟩⟩
  rotate_left
  · exact ⟨rfl, (Keep.ofQ q1).trans hk, .inr ⟨hs, rfl⟩⟩
  have BR := hid (b1.keep hk (by have := HH.out.rdr.lt; omega))
  have D := hid (fun (u : World) (ku : Keep (fun k => k = w.heap.size) w2 u) => pass_on HH.out q1 b1 hk hh hr ho ku)
  clear q1 b1 hk ho hr hh
  go_wp2_with (refine wpList_store_row rfl 34 _ _ rfl w.heap.size (fcells f d c s) rfl rfl 34 _ BR.out (fcells_info _ _ _ _) rfl (fcells_one _ _ _ _) ?_)
  refine ret_frame rfl rfl w.heap.size 34 f d c s rfl (BR.out.row_ _ _ _ _) (D.out _ ((Keep.refl _ _).setRow _ _ (.inl rfl)))
end
end Go.Proofs.Ytdoodbaogmdloab
