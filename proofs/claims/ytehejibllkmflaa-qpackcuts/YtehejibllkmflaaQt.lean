/-
  The dynamic table in memory: count, entry: contracts that the statements' walks use.
-/
import Derived.Test.YtehejibllkmflaaQr
namespace Go.Proofs.Ytehejibllkmflaa
open Go.RowKit
set_option linter.unusedVariables false
set_option maxRecDepth 20000

/-- A decoder's words; nothing waits, nothing is ready. -/
structure Dk where
  most : Int
  bl : Int
  li : Int
  cap : Int
  sz : Int
  gone : Nat
  e : Sv
  o : Sv
  r : Sv
  f : Int
abbrev dC (D : Dk) : Array Value := #[.int .i64 D.most, .int .i64 D.bl, .int .i64 D.li, .int .i64 D.cap, .int .i64 D.sz, .int .i64 (D.gone : Int), .slice D.e.a D.e.n D.e.c, .slice none 0 0, .slice none 0 0, .slice D.o.a D.o.n D.o.c, .slice D.r.a D.r.n D.r.c, .int .i64 D.f]
structure DI (w : World) (db : Nat) (D : Dk) (es : List Fd) : Prop where
  b : w.heap[db]? = some (.cells (dC D) 55 (0, 0))
  r : RowG w D.e es
  d : ∀ b, blk D.e.a = some b → b ≠ db
theorem DI.q {w w' : World} {db : Nat} {D : Dk} {es : List Fd} (h : DI w db D es) (k : Q w w') : DI w' db D es := ⟨blk_q k h.b, h.r.q k, h.d⟩
theorem DI.c {w : World} {db : Nat} {D : Dk} {es : List Fd} (h : DI w db D es) (k : Nat) (v : Value) (hk : (dC D)[k]? = some v) : w.cell? ⟨db, k, none⟩ = some v := by rw [cell_of_row w _ k _ 55 (0, 0) h.b]; exact hk
theorem DI.f {w : World} {db : Nat} {D : Dk} {es : List Fd} (h : DI w db D es) (k : Nat) : w.frozen? ⟨db, k, none⟩ = false := frozen_of_row w _ k _ 55 h.b
theorem cnt_any (db : Nat) (D : Dk) (es : List Fd) (w : World) (h : DI w db D es) (hg : D.gone ≤ 281474976710656) (hn : es.length ≤ 281474976710656) : Calls Try.prog 16 #[.pointer (some ⟨db, 3, none⟩)] w fun e w' => e = .returned (.int .i64 ((D.gone + es.length : Nat) : Int)) ∧ Q w w' := by
  have c5 := h.c 5 _ rfl
  have c6 := h.c 6 _ rfl
  have hl := h.r.len
  rw [show ((D.gone + es.length : Nat) : Int) = (D.gone : Int) + (D.e.n : Int) by omega]
  have h1 : (D.gone : Int) + (D.e.n : Int) ≤ 9223372036854775807 := by omega
  have h2 : -9223372036854775808 ≤ (D.gone : Int) + (D.e.n : Int) := by omega
  obtain ⟨most, bl, li, cap, sz, g, ⟨ea, en, ec⟩, o, r, f⟩ := D
  dsimp only at *
  clear h hl hg hn
  go_enter Try.func16, Try.ntmps16
  go_wp2
  go_quiet (fail)
  go_wp2
  go_ret
  exact ⟨rfl, (Q.refl w).drewN _⟩
/-- The entry of a number. -/
def entO (g : Nat) (es : List Fd) (n : Int) : Option Fd := if n < (g : Int) then none else es[(n - g).toNat]?
theorem results60 (tmps : Array Value) (w : World) (rb : Nat) (x y : ByteArray) (b : Bool) (h2 : tmps.getD 4 undef = .pointer (some ⟨rb, 0, none⟩)) (h3 : tmps.getD 5 undef = .bool b) (hb : w.heap[rb]? = some (.cells #[.string x, .string y] 23 (0, 0))) :
    (results Try.f60 tmps).run Try.prog w = .ok (.tuple #[.agg #[.string x, .string y], .bool b]) w := by
  have h2' : tmps[4]?.getD undef = .pointer (some ⟨rb, 0, none⟩) := by simpa using h2
  have h3' : tmps[5]?.getD undef = .bool b := by simpa using h3
  have c0 : w.cell? ⟨rb, 0, none⟩ = some (.string x) := by rw [cell_of_row w rb 0 _ 23 (0, 0) hb]; rfl
  have c1 : w.cell? ⟨rb, 1, none⟩ = some (.string y) := by rw [cell_of_row w rb 1 _ 23 (0, 0) hb]; rfl
  simp [results, Try.f60, go_sem, h2', h3', c0, c1]
/-- What a look for an entry answers. -/
def entA (o : Option Fd) : Ending := .returned (.tuple #[.agg #[.string (o.getD (⟨#[]⟩, ⟨#[]⟩)).1, .string (o.getD (⟨#[]⟩, ⟨#[]⟩)).2], .bool o.isSome])
set_option maxHeartbeats 4000000 in
theorem ent_any (db : Nat) (D : Dk) (es : List Fd) (n : Int) (w : World) (h : DI w db D es) (hg : D.gone ≤ 281474976710656) (hn : es.length ≤ 281474976710656) (hn0 : -9223372036854775808 ≤ n) (hn1 : n ≤ 9223372036854775807) : Calls Try.prog 60 #[.pointer (some ⟨db, 3, none⟩), .int .i64 n] w fun e w' => e = entA (entO D.gone es n) ∧ Q w w' := by
  have HC := hid (fun u (k : Q w u) => cnt_any db D es u (h.q k) hg hn)
  have HI := hid (fun u (k : Q w u) => h.q k)
  have hl := h.r.len
  by_cases h0 : n < (D.gone : Int)
  · have HA := hid (show .returned (.tuple #[.agg #[.string ⟨#[]⟩, .string ⟨#[]⟩], .bool false]) = entA (entO D.gone es n) by unfold entO; rw [if_pos h0]; rfl)
    generalize entA (entO D.gone es n) = A at *
    have c5 : ∀ u, Q w u → u.cell? ⟨db, 5, none⟩ = some (.int .i64 (D.gone : Int)) := fun u k => (h.q k).c 5 _ rfl
    have HC5 := hid c5
    clear c5 h HI HC hl hg hn hn0 hn1
    generalize D.gone = g at *
    go_enter Try.func60, Try.ntmps60
    have c5 := HC5.out _ ((Q.refl w).alloc (.cells #[.string ⟨#[]⟩, .string ⟨#[]⟩] 23))
    have hb := heap_alloc_new w (.cells #[.string ⟨#[]⟩, .string ⟨#[]⟩] 23)
    have HB := hid hb
    go_wp2
    exact bodyPost_ret (results60 _ _ w.heap.size ⟨#[]⟩ ⟨#[]⟩ false rfl rfl HB.out) rfl ⟨HA.out, (Q.refl w).alloc _⟩
  · have c5 : ∀ u, Q w u → u.cell? ⟨db, 5, none⟩ = some (.int .i64 (D.gone : Int)) ∧ u.cell? ⟨db, 6, none⟩ = some (.slice D.e.a D.e.n D.e.c) := fun u k => ⟨(h.q k).c 5 _ rfl, (h.q k).c 6 _ rfl⟩
    have HC5 := hid c5
    clear c5
    by_cases h1 : ((D.gone + es.length : Nat) : Int) ≤ n
    · have HA := hid (show .returned (.tuple #[.agg #[.string ⟨#[]⟩, .string ⟨#[]⟩], .bool false]) = entA (entO D.gone es n) by unfold entO; rw [if_neg h0, List.getElem?_eq_none (by omega)]; rfl)
      generalize entA (entO D.gone es n) = A at *
      generalize ((D.gone + es.length : Nat) : Int) = cn at *
      clear h HI hl hg hn hn0 hn1
      generalize D.gone = g at *
      go_enter Try.func60, Try.ntmps60
      have c5 := (HC5.out _ ((Q.refl w).alloc (.cells #[.string ⟨#[]⟩, .string ⟨#[]⟩] 23))).1
      have HB := hid (heap_alloc_new w (.cells #[.string ⟨#[]⟩, .string ⟨#[]⟩] 23))
      go_wp2_with (go_at_call 16; refine (HC.out _ ((Q.refl w).alloc _)).mono ?_; rintro e w1 ⟨rfl, q1⟩; have B1 := hid (blk_q q1 HB.out); have Q1 := hid (((Q.refl w).alloc (.cells #[.string ⟨#[]⟩, .string ⟨#[]⟩] 23)).trans q1); clear q1 c5; have b0 : w1.cell? ⟨w.heap.size, 0, none⟩ = some (.string ⟨#[]⟩) := (by rw [cell_of_row w1 _ 0 _ 23 (0, 0) B1.out]; rfl); have b1 : w1.cell? ⟨w.heap.size, 1, none⟩ = some (.string ⟨#[]⟩) := (by rw [cell_of_row w1 _ 1 _ 23 (0, 0) B1.out]; rfl); have f0 : w1.frozen? ⟨w.heap.size, 0, none⟩ = false := frozen_of_row w1 _ 0 _ 23 B1.out; have f1 : w1.frozen? ⟨w.heap.size, 1, none⟩ = false := frozen_of_row w1 _ 1 _ 23 B1.out)
      have hb2 := heap_setCell_same _ w.heap.size 1 _ 23 (.string ⟨#[]⟩) (heap_setCell_same w1 w.heap.size 0 _ 23 (.string ⟨#[]⟩) B1.out)
      exact bodyPost_ret (results60 _ _ w.heap.size ⟨#[]⟩ ⟨#[]⟩ false rfl rfl hb2) rfl ⟨HA.out, (Q1.out.setCell (p := ⟨w.heap.size, 0, none⟩) (Nat.le_refl _) _).setCell (p := ⟨w.heap.size, 1, none⟩) (Nat.le_refl _) _⟩
    · obtain ⟨k, hk⟩ : ∃ k : Nat, n = ((D.gone + k : Nat) : Int) := ⟨(n - D.gone).toNat, by omega⟩
      have hkl : k < es.length := by omega
      obtain ⟨p, hp⟩ : ∃ p, es[k]? = some p := ⟨es[k], List.getElem?_eq_getElem hkl⟩
      have HA := hid (show .returned (.tuple #[.agg #[.string p.1, .string p.2], .bool true]) = entA (entO D.gone es n) by unfold entO; rw [if_neg h0, show (n - (D.gone : Int)).toNat = k by omega, hp]; rfl)
      generalize entA (entO D.gone es n) = A at *
      have HGT := hid (fun u (kq : Q w u) => (h.q kq).r.get hp)
      have hnk : n - (D.gone : Int) = (k : Int) := by omega
      have hke : (k : Int) < (D.e.n : Int) := by omega
      have hk0 : (0 : Int) ≤ (k : Int) := by omega
      clear hk
      generalize ((D.gone + es.length : Nat) : Int) = cn at *
      clear h HI hl hg hn hp hkl
      obtain ⟨most, bl, li, cap, sz, g, ⟨ea, en, ec⟩, o, r, f⟩ := D
      obtain ⟨p1, p2⟩ := p
      dsimp only at *
      go_enter Try.func60, Try.ntmps60
      have c5 := (HC5.out _ ((Q.refl w).alloc (.cells #[.string ⟨#[]⟩, .string ⟨#[]⟩] 23))).1
      have HB := hid (heap_alloc_new w (.cells #[.string ⟨#[]⟩, .string ⟨#[]⟩] 23))
      go_wp2_with (go_at_call 16; refine (HC.out _ ((Q.refl w).alloc _)).mono ?_; rintro e w1 ⟨rfl, q1⟩; have B1 := hid (blk_q q1 HB.out); have Q1 := hid (((Q.refl w).alloc (.cells #[.string ⟨#[]⟩, .string ⟨#[]⟩] 23)).trans q1); clear q1 c5; have b0 : w1.cell? ⟨w.heap.size, 0, none⟩ = some (.string ⟨#[]⟩) := (by rw [cell_of_row w1 _ 0 _ 23 (0, 0) B1.out]; rfl); have b1 : w1.cell? ⟨w.heap.size, 1, none⟩ = some (.string ⟨#[]⟩) := (by rw [cell_of_row w1 _ 1 _ 23 (0, 0) B1.out]; rfl); have f0 : w1.frozen? ⟨w.heap.size, 0, none⟩ = false := frozen_of_row w1 _ 0 _ 23 B1.out; have f1 : w1.frozen? ⟨w.heap.size, 1, none⟩ = false := frozen_of_row w1 _ 1 _ 23 B1.out)
      obtain ⟨c5, c6⟩ := HC5.out _ Q1.out
      obtain ⟨gg, off, hxa, g0, g1⟩ := HGT.out _ Q1.out
      subst hxa
      go_region
      go_wp2
      have hb2 := heap_setCell_same _ w.heap.size 1 _ 23 (.string p2) (heap_setCell_same w1 w.heap.size 0 _ 23 (.string p1) B1.out)
      exact bodyPost_ret (results60 _ _ w.heap.size p1 p2 true rfl rfl hb2) rfl ⟨HA.out, ((Q1.out.setCell (p := ⟨w.heap.size, 0, none⟩) (Nat.le_refl _) _).setCell (p := ⟨w.heap.size, 1, none⟩) (Nat.le_refl _) _).drew⟩
end Go.Proofs.Ytehejibllkmflaa
