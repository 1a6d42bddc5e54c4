/-
  The law's loop: what holds of the second decoder ahead of each piece.
-/
import Derived.Test.YtehejibllkmflaaRn
namespace Go.Proofs.Ytehejibllkmflaa
open Go.RowKit
set_option linter.unusedVariables false
set_option maxRecDepth 20000

structure LI (w : World) (db g2 : Nat) (X : Int) (xn : Nat) (wr : World) (D : Dk) (es : List Fd) (zr zo : List Int) (x : Sv) (rs : List Int) (k : Nat) : Prop where
  d : DF wr db D es zr zo
  s : Seg wr x.a rs
  l : rs.length = x.n
  c : x.n ≤ x.c
  b : blk x.a = some g2
  q : Q w wr
  o : ∀ b, Own4 db D b → w.heap.size ≤ b ∧ b ≠ g2
  g : g2 < wr.heap.size
  e : fdX (fdR D es zr rs) = X
  e0 : fdX (fdR D es zr []) = 0
  z : ∀ y ∈ rs, 0 ≤ y ∧ y < 256
  n : D.gone + es.length + zr.length + rs.length ≤ xn
  k : k + rs.length ≤ xn
theorem fdZ_len (R : WR) (zs : List Int) : (fdZ R zs).length ≤ zs.length - R.p := by
  unfold fdZ
  split
  · rw [List.length_drop]; exact Nat.le_refl _
  · exact Nat.zero_le _
theorem li_xs {w : World} {db g2 : Nat} {X : Int} {xn : Nat} {wr : World} {D : Dk} {es : List Fd} {zr zo : List Int} {x : Sv} {rs : List Int} {k : Nat} (h : LI w db g2 X xn wr D es zr zo x rs k) (m : Nat) : ∀ y ∈ zr ++ rs.take m, 0 ≤ y ∧ y < 256 := fun y hy => (List.mem_append.1 hy).elim (h.d.zr y) (fun h2 => h.z y (List.mem_of_mem_take h2))
theorem li_bad {w : World} {db g2 : Nat} {X : Int} {xn : Nat} {wr : World} {D : Dk} {es : List Fd} {zr zo : List Int} {x : Sv} {rs : List Int} {k : Nat} (h : LI w db g2 X xn wr D es zr zo x rs k) (m : Nat) (h0 : fdX (fdR D es zr (rs.take m)) ≠ 0) : fdX (fdR D es zr (rs.take m)) = X := by
  have := (cut_same (g := D.gone) (es := es) (li_xs h m) (ys := rs.drop m) (fun y hy => h.z y (List.mem_of_mem_drop hy)) h.d.m h.d.c (fdR D es zr (rs.take m)) rfl).1 h0
  rw [List.append_assoc, List.take_append_drop] at this
  exact this.symm.trans h.e
theorem li_step {w : World} {db g2 : Nat} {X : Int} {xn : Nat} {wr wr' : World} {D : Dk} {es : List Fd} {zr zo : List Int} {x : Sv} {rs : List Int} {k : Nat} (h : LI w db g2 X xn wr D es zr zo x rs k) (m : Nat) (hm0 : 1 ≤ m) (hm : m ≤ x.n) (hf : FD wr db D (fdR D es zr (rs.take m)) (zr ++ rs.take m) wr') (h0 : fdX (fdR D es zr (rs.take m)) = 0) :
    ∃ D' es' zr' zo', LI w db g2 X xn wr' D' es' zr' zo' ⟨if x.c = m then x.a else x.a.map (·.add m), x.n - m, x.c - m⟩ (rs.drop m) (k + 1) := by
  obtain ⟨e, r, o, zo', hd, how⟩ := hf.ok h0
  have hxs := li_xs h m
  have h1 := (cut_same (g := D.gone) (es := es) hxs (ys := rs.drop m) (fun y hy => h.z y (List.mem_of_mem_drop hy)) h.d.m h.d.c (fdR D es zr (rs.take m)) rfl).2 h0
  have h2 := (cut_same (g := D.gone) (es := es) hxs (ys := []) (fun y hy => absurd hy List.not_mem_nil) h.d.m h.d.c (fdR D es zr (rs.take m)) rfl).2 h0
  have hcn := whl_cnt hxs h.d.m (zr ++ rs.take m).length D.cap D.gone es 0 h.d.c (Nat.zero_le _)
  have hzl := fdZ_len (fdR D es zr (rs.take m)) (zr ++ rs.take m)
  have hrl := h.l
  have hll : (zr ++ rs.take m).length = zr.length + m := by rw [List.length_append, List.length_take]; omega
  rw [List.append_assoc, List.take_append_drop] at h1
  rw [List.append_nil] at h2
  have hn := h.n
  have hk := h.k
  have hg := h.g
  have hq := h.q.size
  refine ⟨_, _, _, zo', hd, seg_from (Seg.keep h.s hf.k (fun b e he => ?_)) h.l hm h.c, by rw [List.length_drop]; show _ = x.n - m; omega, by have := h.c; show x.n - m ≤ x.c - m; omega, ?_, ((Keep.ofQ (F := Own4 db D) h.q).trans hf.k).toQ (fun i hi he => ?_), fun b hb => ?_, Nat.lt_of_lt_of_le h.g hf.k.size, h1.symm.trans h.e, ?_, fun y hy => h.z y (List.mem_of_mem_drop hy), ?_, ?_⟩
  · rw [h.b] at e
    cases e
    exact (h.o _ he).2 rfl
  · have hb := h.b
    show blk (if x.c = m then x.a else x.a.map (·.add m)) = some g2
    split
    · exact hb
    · cases hx : x.a with
      | none => rw [hx] at hb; cases hb
      | some ad => rw [hx] at hb; simp only [blk, Option.map_some] at hb ⊢; rw [← hb]; unfold Addr.add; split <;> rfl
  · have := (h.o i he).1; omega
  · rcases how b hb with h3 | h3
    · exact h.o b h3
    · exact ⟨by omega, by omega⟩
  · exact h2.symm.trans h0
  · have hcn' : (fdR D es zr (rs.take m)).g + (fdR D es zr (rs.take m)).es.length + 0 ≤ D.gone + es.length + (fdR D es zr (rs.take m)).p ∧ (fdR D es zr (rs.take m)).p ≤ (zr ++ rs.take m).length := hcn.2
    rw [List.length_drop]
    show (fdR D es zr (rs.take m)).g + (fdR D es zr (rs.take m)).es.length + (fdZ (fdR D es zr (rs.take m)) (zr ++ rs.take m)).length + _ ≤ xn
    omega
  · rw [List.length_drop]; omega
end Go.Proofs.Ytehejibllkmflaa
