/-
  What the document's own Add does where it refuses or has nothing to lay, and small laws for where it lays a span: contracts that the walks of the laws use.
-/
import Derived.Test.YtmcemfjnenfcaaaRefR
namespace Go.Proofs.Ytmcemfjnenfcaaa
open Go.RowKit
set_option linter.unusedVariables false

set_option maxHeartbeats 1000000 in
set_option maxRecDepth 100000 in
theorem radd_bad (rd : Nat) (f t : Int) (w : World) (h : f < 0 ∨ t < f ∨ 4611686018427387903 < t) :
    Calls Try.prog 16 #[.pointer (some ⟨rd, 0, none⟩), .int .i64 f, .int .i64 t] w fun e w' => e = .returned (.tuple #[.int .i64 0, .int .i64 21]) ∧ w = w' := by
  by_cases h1 : f < 0
  · have hb : decide (f < 0) = true := by simp [h1]
    go_enter Try.func16, Try.ntmps16
    go_wp2
    go_ret2
    exact ⟨rfl, rfl⟩
  · have hb : decide (f < 0) = false := by simp [h1]
    by_cases h2 : t < f
    · have hb2 : decide (t < f) = true := by simp [h2]
      go_enter Try.func16, Try.ntmps16
      go_wp2
      go_ret2
      exact ⟨rfl, rfl⟩
    · have hb2 : decide (t < f) = false := by simp [h2]
      have hc : (4611686018427387903 : Int) < t := by omega
      go_enter Try.func16, Try.ntmps16
      go_wp2
      go_ret2
      exact ⟨rfl, rfl⟩

set_option maxHeartbeats 1000000 in
set_option maxRecDepth 100000 in
theorem radd_low (rd : Nat) (most floor : Int) (a : Option Addr) (n c : Nat) (f t : Int) (w : World) (hr : Hd w 36 rd most floor a n c) (h0 : 0 ≤ f) (h1 : f ≤ t) (h2 : t ≤ 4611686018427387903) (h3 : t < floor) :
    Calls Try.prog 16 #[.pointer (some ⟨rd, 0, none⟩), .int .i64 f, .int .i64 t] w fun e w' => e = .returned (.tuple #[.int .i64 0, .int .i64 0]) ∧ w = w' := by
  have c1 := hr.c1
  have hb : decide (f < 0) = false := by simp; omega
  have hb2 : decide (t < f) = false := by simp; omega
  have hc : ¬ (4611686018427387903 : Int) < t := by omega
  clear hr
  go_enter Try.func16, Try.ntmps16
  go_wp2
  go_ret2
  exact ⟨rfl, rfl⟩

theorem One.d0 {w : World} {b : Nat} {p : Sp} (h : One w b p) : w.cell? ⟨b, 0, none⟩ = some (.int .i64 p.1) := by rw [cell_of_row w b 0 _ 49 (0, 0) h]; rfl
theorem One.d1 {w : World} {b : Nat} {p : Sp} (h : One w b p) : w.cell? ⟨b, 1, none⟩ = some (.int .i64 p.2) := by rw [cell_of_row w b 1 _ 49 (0, 0) h]; rfl
theorem One.fz {w : World} {b : Nat} {p : Sp} (h : One w b p) (j : Nat) : w.frozen? ⟨b, j, none⟩ = false := frozen_of_row w b j _ 49 h
theorem One.set0 {w : World} {b : Nat} {p : Sp} (h : One w b p) (u : Int) : One (w.setCell ⟨b, 0, none⟩ (.int .i64 u)) b (u, p.2) := by
  have h1 := heap_setCell_same w b 0 _ 49 (.int .i64 u) h
  simpa [One] using h1
theorem One.set1 {w : World} {b : Nat} {p : Sp} (h : One w b p) (u : Int) : One (w.setCell ⟨b, 1, none⟩ (.int .i64 u)) b (p.1, u) := by
  have h1 := heap_setCell_same w b 1 _ 49 (.int .i64 u) h
  simpa [One] using h1
theorem One.ltt {w : World} {b : Nat} {p : Sp} (h : One w b p) : b < w.heap.size := lt_of_block h
theorem ovs_drop' (y : Sp) (xs : List Sp) (k : Nat) : ovs y (xs.drop k) ≤ ovs y xs := by
  have h := ovs_append y (xs.take k) (xs.drop k)
  rw [List.take_append_drop] at h
  have := ovs_pos y (xs.take k)
  omega


/-- append of a span that was laid in a block of its own, behind another new block, which stays. -/
theorem append_two {wr : World} {base : Nat} {ad : Option Addr} {m cc : Nat} {ys : List Sp} (ho : Own wr base ad m cc ys) (x p : Sp) (hm : m ≤ 100) (hb : base ≤ wr.heap.size) :
    ∃ a' cap' w', (Builtin.append_ #[30, 30] 30 #[.slice ad m cc, .slice (some ⟨wr.heap.size + 1, 0, none⟩) 1 1]).run Try.prog ((wr.alloc (.cells #[.int .i64 x.1, .int .i64 x.2] 49)).alloc (.cells #[.int .i64 p.1, .int .i64 p.2] 49)) = .ok (.slice a' (m + 1) cap') w' ∧ Own w' base a' (m + 1) cap' (ys ++ [p]) ∧ One w' wr.heap.size x ∧ Keep (fun b => blk ad = some b) wr w' := by
  have hq : Q wr ((wr.alloc (.cells #[.int .i64 x.1, .int .i64 x.2] 49)).alloc (.cells #[.int .i64 p.1, .int .i64 p.2] 49)) := ((Q.refl wr).alloc _).alloc _
  have hv : One ((wr.alloc (.cells #[.int .i64 x.1, .int .i64 x.2] 49)).alloc (.cells #[.int .i64 p.1, .int .i64 p.2] 49)) (wr.heap.size + 1) p := by
    have : One ((wr.alloc (.cells #[.int .i64 x.1, .int .i64 x.2] 49)).alloc (.cells #[.int .i64 p.1, .int .i64 p.2] 49)) (wr.alloc (.cells #[.int .i64 x.1, .int .i64 x.2] 49)).heap.size p := heap_alloc_new _ _
    simpa using this
  have hx0 : One (wr.alloc (.cells #[.int .i64 x.1, .int .i64 x.2] 49)) wr.heap.size x := heap_alloc_new wr _
  have hx := hx0.q ((Q.refl _).alloc (.cells #[.int .i64 p.1, .int .i64 p.2] 49))
  obtain ⟨a', cap', w', hr, h1, h2, h3⟩ := append_one (ho.q hq) hv hm (by have := hq.size; omega)
  exact ⟨a', cap', w', hr, h1, hx.keep h3 (fun e => by have := (ho.lt _ e).2; omega), (Keep.ofQ hq).trans h3⟩

/-- append of a span that was laid in a block of its own. -/
theorem append_new1 {wr : World} {base : Nat} {ad : Option Addr} {m cc : Nat} {ys : List Sp} (ho : Own wr base ad m cc ys) (p : Sp) (hm : m ≤ 100) (hb : base ≤ wr.heap.size) :
    ∃ a' cap' w', (Builtin.append_ #[30, 30] 30 #[.slice ad m cc, .slice (some ⟨wr.heap.size, 0, none⟩) 1 1]).run Try.prog (wr.alloc (.cells #[.int .i64 p.1, .int .i64 p.2] 49)) = .ok (.slice a' (m + 1) cap') w' ∧ Own w' base a' (m + 1) cap' (ys ++ [p]) ∧ Keep (fun b => blk ad = some b) wr w' := by
  have hq : Q wr (wr.alloc (.cells #[.int .i64 p.1, .int .i64 p.2] 49)) := (Q.refl wr).alloc _
  have hv : One (wr.alloc (.cells #[.int .i64 p.1, .int .i64 p.2] 49)) wr.heap.size p := heap_alloc_new wr _
  obtain ⟨a', cap', w', hr, h1, h2, h3⟩ := append_one (ho.q hq) hv hm (by have := hq.size; omega)
  exact ⟨a', cap', w', hr, h1, (Keep.ofQ hq).trans h3⟩


theorem fit_many {most floor : Int} {Y : List Sp} (h : most < Y.length) : fitF most floor Y = (Y.getD 0 (0, 0)).2 + 1 ∧ fitL most Y = Y.drop 1 := by
  unfold fitF fitL; rw [if_pos h, if_pos h]; exact ⟨rfl, rfl⟩
theorem fit_few {most floor : Int} {Y : List Sp} (h : ¬ most < Y.length) : fitF most floor Y = floor ∧ fitL most Y = Y := by
  unfold fitF fitL; rw [if_neg h, if_neg h]; exact ⟨rfl, rfl⟩

theorem rt_few {W : World} {rd base M CC n c : Nat} {a AD : Option Addr} {most floor : Int} {xs Y : List Sp} (S : Rt W rd a n c most floor xs) (O : Own W base AD M CC Y) (hg : ∀ b, blk AD = some b → b ≠ rd) :
    Rt (W.setCell ⟨rd, 2, none⟩ (.slice AD M CC)) rd AD M CC most floor Y := by
  have k : Keep (fun b => b = rd) W (W.setCell ⟨rd, 2, none⟩ (.slice AD M CC)) := (Keep.refl (fun b => b = rd) W).setCell rd 2 _ (.inl rfl)
  refine ⟨S.hd.list36 AD M CC, O.seg.keep k (fun b hb e => hg b hb e), O.len, fun e => hg rd e rfl, fun b hb => ?_⟩
  have := (O.lt b hb).2
  have := k.size
  omega

theorem rt_many {W : World} {rd base g M CC n c : Nat} {a : Option Addr} {most floor : Int} {xs Y : List Sp} (S : Rt W rd a n c most floor xs) (O : Own W base (some ⟨g, 0, none⟩) M CC Y) (hg : g ≠ rd) (hM : 0 < M) (q : Int) (AD' : Option Addr) (c' : Nat)
    (hAD : M = 1 ∧ AD' = some ⟨g, 0, none⟩ ∨ AD' = some ⟨g, 2, none⟩) :
    Rt ((W.setCell ⟨rd, 1, none⟩ (.int .i64 q)).setCell ⟨rd, 2, none⟩ (.slice AD' (M - 1) c')) rd AD' (M - 1) c' most q (Y.drop 1) := by
  have k : Keep (fun b => b = rd) W ((W.setCell ⟨rd, 1, none⟩ (.int .i64 q)).setCell ⟨rd, 2, none⟩ (.slice AD' (M - 1) c')) := ((Keep.refl (fun b => b = rd) W).setCell rd 1 _ (.inl rfl)).setCell rd 2 _ (.inl rfl)
  have hb : blk AD' = some g := by rcases hAD with ⟨_, h⟩ | h <;> rw [h] <;> rfl
  have hl := O.len
  have hsg : Seg W AD' (Y.drop 1) := by
    intro hne
    rcases hAD with ⟨h, _⟩ | h
    · exact absurd (List.drop_of_length_le (by omega)) hne
    · obtain ⟨b, off, e, hc⟩ := O.seg.cel hl hM
      obtain ⟨rfl, rfl⟩ : g = b ∧ 0 = off := by simpa using e
      refine ⟨g, 2, h, fun i hi => ?_⟩
      rw [List.length_drop] at hi
      have hd : (Y.drop 1).getD i (0, 0) = Y.getD (i + 1) (0, 0) := by
        rw [List.getD_eq_getElem?_getD, List.getD_eq_getElem?_getD, List.getElem?_drop, Nat.add_comm]
      have := hc (i + 1) (by omega)
      rw [hd]
      rw [show 0 + (i + 1) * 2 = 2 + i * 2 by omega, show 0 + ((i + 1) * 2 + 1) = 2 + (i * 2 + 1) by omega] at this
      exact this
  refine ⟨(S.hd.floor_ q).list36 AD' (M - 1) c', hsg.keep k (fun b h e => by rw [hb] at h; cases h; exact hg e), by rw [List.length_drop, hl], fun e => by rw [hb] at e; cases e; exact hg rfl, fun b h => ?_⟩
  rw [hb] at h
  cases h
  have := (O.lt g rfl).2
  have := k.size
  omega


end Go.Proofs.Ytmcemfjnenfcaaa
