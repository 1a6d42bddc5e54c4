/-
  The decoder's say, readWaiting (nothing waits) and Feed: contracts that the statements' walks use.
-/
import Derived.Test.YtehejibllkmflaaRi
namespace Go.Proofs.Ytehejibllkmflaa
open Go.RowKit
set_option linter.unusedVariables false
set_option maxRecDepth 20000

/-- A decoder whole: its table, the bytes that wait, what it has to say. -/
structure DF (w : World) (db : Nat) (D : Dk) (es : List Fd) (zr zo : List Int) : Prop where
  i : DI w db D es
  r : Row w D.r zr
  o : Row w D.o zo
  rd : ∀ b, blk D.r.a = some b → b ≠ db ∧ blk D.o.a ≠ some b
  od : ∀ b, blk D.o.a = some b → b ≠ db ∧ blk D.e.a ≠ some b
  zr : ∀ y ∈ zr, 0 ≤ y ∧ y < 256
  s : D.sz = sumF es
  sb : sumF es ≤ 100000000
  c : 0 ≤ D.cap ∧ D.cap ≤ 100000000
  m : D.most ≤ 100000000
  f : D.f = 0
  on : zo.length ≤ D.gone + es.length
/-- The blocks that a call on it may turn. -/
def Own4 (db : Nat) (D : Dk) (b : Nat) : Prop := b = db ∨ blk D.e.a = some b ∨ blk D.o.a = some b
set_option maxHeartbeats 4000000 in
theorem sayD_any (db : Nat) (D : Dk) (x : Sv) (X Y : List Int) (w : World) (hb : w.heap[db]? = some (.cells (dC D) 55 (0, 0))) (hl : Row w D.o X) (hx : Seg w x.a Y) (hxl : Y.length = x.n) (hne : ∀ b, blk D.o.a = some b → b ≠ db) (hn : X.length + Y.length ≤ 140737488355328) :
    Calls Try.prog 20 #[.pointer (some ⟨db, 0, none⟩), .slice x.a x.n x.c] w fun e w' => e = .returned (.tuple #[]) ∧ ∃ y : Sv, w'.heap[db]? = some (.cells (dC { D with o := y }) 55 (0, 0)) ∧ Row w' y (X ++ Y) ∧ Keep (fun b => b = db ∨ blk D.o.a = some b) w w' ∧ (∀ b, blk y.a = some b → blk D.o.a = some b ∨ w.heap.size ≤ b) := by
  have hxx := Row.len hl
  obtain ⟨y, w1, hrun, hrow, hk, hbb⟩ := row_appendB (ty := 30) hl (src_seg (c := x.c) hx hxl) (by omega)
  have hb1 : w1.heap[db]? = some (.cells (dC D) 55 (0, 0)) := (hk.block db (lt_of_block hb) (fun e => hne db e rfl)).trans hb
  have hdl := lt_of_block hb
  have hyb : ∀ b, blk y.a = some b → blk D.o.a = some b ∨ w.heap.size ≤ b := fun b e => by
    rcases hbb with h2 | h2
    · exact .inl (by rw [← h2]; exact e)
    · rw [h2] at e; cases e; exact .inr (Nat.le_refl _)
  have h3 : w.cell? ⟨db, 9, none⟩ = some (.slice D.o.a D.o.n D.o.c) := by rw [cell_of_row w _ 9 _ 55 (0, 0) hb]; rfl
  have g3 : w1.cell? ⟨db, 9, none⟩ = some (.slice D.o.a D.o.n D.o.c) := by rw [cell_of_row w1 _ 9 _ 55 (0, 0) hb1]; rfl
  have f3 : w1.frozen? ⟨db, 9, none⟩ = false := frozen_of_row w1 _ 9 _ 55 hb1
  have K2 : Keep (fun b => b = db) w1 (w1.setCell ⟨db, 9, none⟩ (.slice y.a y.n y.c)) := (Keep.refl _ w1).setCell db 9 _ (.inl rfl)
  have HR := hid (show (w1.setCell ⟨db, 9, none⟩ (.slice y.a y.n y.c)).heap[db]? = some (.cells (dC { D with o := y }) 55 (0, 0)) ∧ Row (w1.setCell ⟨db, 9, none⟩ (.slice y.a y.n y.c)) y (X ++ Y) ∧ Keep (fun b => b = db ∨ blk D.o.a = some b) w (w1.setCell ⟨db, 9, none⟩ (.slice y.a y.n y.c)) ∧ (∀ b, blk y.a = some b → blk D.o.a = some b ∨ w.heap.size ≤ b) from
    ⟨dC_set hb1 9 _ { D with o := y } rfl, Sub.keep hrow K2 (fun b e h => by
      rcases hyb b e with h2 | h2
      · exact hne b h2 h
      · omega), (hk.mono (fun i _ h => .inr h)).trans (K2.mono (fun i _ h => .inl h)), hyb⟩)
  obtain ⟨most, bl, li, cap, sz, g, e, ⟨oa, on, oc⟩, r, f⟩ := D
  obtain ⟨xa, xn, xc⟩ := x
  obtain ⟨ya, yn, yc⟩ := y
  dsimp only at *
  clear hb hl hx hxl hne hn hrow hk hbb hb1 hyb K2 hxx
  go_enter Try.func20, Try.ntmps20
  go_wp2_with (at_builtin; refine Lib.wpList_append_run _ rfl _ _ _ _ rfl _ _ rfl rfl _ _ hrun ?_)
  go_end0
  exact ⟨rfl, ⟨ya, yn, yc⟩, HR.out⟩
set_option maxHeartbeats 4000000 in
theorem rwait_any (db : Nat) (D : Dk) (w : World) (hb : w.heap[db]? = some (.cells (dC D) 55 (0, 0))) :
    Calls Try.prog 22 #[.pointer (some ⟨db, 0, none⟩)] w fun e w' => e = .returned (.tuple #[]) ∧ w'.heap[db]? = some (.cells (dC D) 55 (0, 0)) ∧ Keep (fun b => b = db) w w' := by
  have c7 : w.cell? ⟨db, 7, none⟩ = some (.slice none 0 0) := by rw [cell_of_row w _ 7 _ 55 (0, 0) hb]; rfl
  have f7 : w.frozen? ⟨db, 7, none⟩ = false := frozen_of_row w _ 7 _ 55 hb
  have HB := hid (dC_set hb 7 (.slice none 0 0) D rfl)
  have HK := hid ((Keep.refl (fun b => b = db) w).setCell db 7 (.slice none 0 0) (.inl rfl))
  clear hb
  go_enter Try.func22, Try.ntmps22
  go_wp2
  go_loopw [2, 12] (fun s i wr => s = .slice none 0 0 ∧ i = .int .i64 0 ∧ wr = w) (fun _ _ _ => 0)
  case atStart => exact ⟨rfl, rfl, rfl⟩
  case round =>
    obtain ⟨rfl, rfl, rfl⟩ := hrel
    go_wp2
    go_end0
    exact ⟨rfl, HB.out, HK.out⟩
theorem num6_len {n : Nat} (h : 1 ≤ n) (hn : n ≤ 4611686018427387903) : (puB (n : Int) 6 0).length ≤ n := by
  have h10 : (puB (n : Int) 6 0).length ≤ 10 := by unfold puB; split; exact (pfP_len _ _ _).1; simp
  by_cases h9 : 10 ≤ n
  · omega
  · have e0 : puE (n : Int) 6 = 0 := by
      unfold puE
      rw [if_neg (by omega), if_neg (by unfold mxN; omega)]
    unfold puB pfP
    rw [if_pos e0, if_pos (by show (n : Int) < (2 : Int) ^ 6 - 1; omega)]
    exact h
theorem takO_grow {most cap : Int} {g : Nat} {es : List Fd} {zs : List Int} {p y : Nat} {cap' : Int} {g' : Nat} {es' : List Fd} {q : Nat} (h : takO most cap g es zs p y = .ok cap' g' es' q) : g + es.length ≤ g' + es'.length := by
  unfold takO at h
  split at h
  · unfold nmdO at h
    split at h
    · cases h
    · split at h
      · split at h
        · cases h
        · split at h <;> cases h
      · split at h
        · cases h
        · have := (insO_ok h).2.2.1; omega
  · split at h
    · unfold plnO at h
      split at h
      · cases h
      · split at h
        · cases h
        · have := (insO_ok h).2.2.1; omega
    · split at h
      · unfold capO at h
        split at h
        · cases h
        · split at h
          · cases h
          · cases h
            have := shrL_len cap' es g
            omega
      · unfold repO at h
        split at h
        · cases h
        · split at h
          · cases h
          · have := (insO_ok h).2.2.1; omega
theorem whl_cnt {most : Int} {zs : List Int} (hz : ∀ y ∈ zs, 0 ≤ y ∧ y < 256) (hm : most ≤ 100000000) : ∀ (n : Nat) (cap : Int) (g : Nat) (es : List Fd) (p : Nat), 0 ≤ cap ∧ cap ≤ 100000000 → p ≤ zs.length → g + es.length ≤ (whl most n cap g es zs p).g + (whl most n cap g es zs p).es.length ∧ (whl most n cap g es zs p).g + (whl most n cap g es zs p).es.length + p ≤ g + es.length + (whl most n cap g es zs p).p ∧ (whl most n cap g es zs p).p ≤ zs.length
  | 0, cap, g, es, p, hc, hp => ⟨Nat.le_refl _, Nat.le_refl _, hp⟩
  | n + 1, cap, g, es, p, hc, hp => by
    rw [whl]
    split
    · exact ⟨Nat.le_refl _, Nat.le_refl _, hp⟩
    · cases ht : takO most cap g es zs p (zs.getD p 0).toNat with
      | bad z => exact ⟨Nat.le_refl _, Nat.le_refl _, hp⟩
      | ok cap' g' es' q =>
        obtain ⟨h1, h2, h3, _, h5, h6⟩ := takO_ok hz ht hc hm
        have h7 := takO_grow ht
        have := whl_cnt hz hm n cap' g' es' q ⟨h5, h6⟩ h2
        simp only
        omega
/-- What Feed makes of it: the error that it answers; the table, the bytes that wait and what is to say are those of the whole instructions. -/
def fdR (D : Dk) (es : List Fd) (zr bs : List Int) : WR := whl D.most (zr ++ bs).length D.cap D.gone es (zr ++ bs) 0
def fdX (R : WR) : Int := if R.e = 12 then 0 else R.e
def fdZ (R : WR) (zs : List Int) : List Int := if R.e = 12 then zs.drop R.p else []
end Go.Proofs.Ytehejibllkmflaa
