/-
  The region of the law on reading back that joins and parses: it draws its order, makes memory in between, and calls twice. Gone through by hand.
-/
import Derived.Test.YtbhhajmfdffdbaaHnd
import Derived.Test.YtbhhajmfdffdbaaSameH
namespace Go.Proofs.Ytbhhajmfdffdbaa
open Go.RowKit
set_option linter.unusedVariables false
set_option maxRecDepth 20000

theorem wpAnyH_two {P : Program} {ops : Array Oper} {Q : Exit → Act → World → Prop} {S : World → Prop} {i j fuel : Nat} {L : Array Bool} {a : Act} {w : World} (hr : Region.ready .any ops L = [i, j])
    (h1 : wpOp P ops Q i (fun a' w' => S w' ∧ wpAnyH P .any ops Q S fuel (L.setIfInBounds i true) a' w') a w)
    (h2 : wpOp P ops Q j (fun a' w' => S w' ∧ wpAnyH P .any ops Q S fuel (L.setIfInBounds j true) a' w') a w) : wpAnyH P .any ops Q S (fuel + 1) L a w :=
  wpAnyH_all hr (by simp) (fun l hl => by
    rcases List.mem_cons.1 hl with e | e
    · rw [e]; exact h1
    · have e' : l = j := by simpa using e
      rw [e']; exact h2)
/-- What holds throughout. -/
def SB (w : World) (hb : Nat) (H : Hd) (d s t v : Sv) (u : World) : Prop := Q w u ∧ Box u 26 hb H d s t v
theorem sb_q {w : World} {hb : Nat} {H : Hd} {d s t v : Sv} {u u' : World} (h : SB w hb H d s t v u) (q : Q u u') : SB w hb H d s t v u' := ⟨h.1.trans q, h.2.q q⟩
/-- An empty header's block, made since. -/
def ZB (w : World) (gb : Nat) (u : World) : Prop := Box u 26 gb zh nilS nilS nilS nilS ∧ w.heap.size ≤ gb
theorem zb_q {w : World} {gb : Nat} {u u' : World} (h : ZB w gb u) (q : Q u u') : ZB w gb u' := ⟨h.1.q q, h.2⟩
/-- What Parse tells, in memory. -/
structure PG (w : World) (B : Hd) (dG sG tG : Sv) : Prop where
  ds : Seg w dG.a B.dst
  ss : Seg w sG.a B.src
  ts : Seg w tG.a B.tok
  dl : B.dst.length = dG.n
  sl : B.src.length = sG.n
  tl : B.tok.length = tG.n
theorem PG.q {w w' : World} {B : Hd} {dG sG tG : Sv} (h : PG w B dG sG tG) (q : Q w w') : PG w' B dG sG tG := ⟨h.ds.q q, h.ss.q q, h.ts.q q, h.dl, h.sl, h.tl⟩
theorem seg_z {w w' : World} {gb : Nat} {a : Option Addr} {zs : List Int} {cs : Array Value} (h : Seg w a zs) (z : Box w 26 gb zh nilS nilS nilS nilS) (e : w' = w.setRow gb cs) : Seg w' a zs := by
  subst e
  intro hne
  obtain ⟨b, off, rfl, hc⟩ := h hne
  refine ⟨b, off, rfl, fun i hi => ?_⟩
  have hci := hc i hi
  have hb : b ≠ gb := by
    intro e
    subst e
    rw [cell_of_row w b (off + i) _ 26 (0, 0) z] at hci
    rcases (show off + i = 0 ∨ off + i = 1 ∨ off + i = 2 ∨ off + i = 3 ∨ off + i = 4 ∨ off + i = 5 ∨ off + i = 6 ∨ 7 ≤ off + i by omega) with e | e | e | e | e | e | e | e
    all_goals first | (rw [e] at hci; simp [zh] at hci) | (rw [Array.getElem?_eq_none (by simpa using e)] at hci; cases hci)
  have k : Keep (fun i => i = gb) w (w.setRow gb cs) := (Keep.refl _ w).setRow _ _ (.inl rfl)
  exact k.cell hci hb

abbrev Z00 (H : Hd) (d s t v : Sv) (width : Int) (a : Option Addr) (n c : Nat) (hb : Nat) (x : Sv) (y15 y30 y31 y32 y33 y34 y35 y36 y37 : Value)  : Act := actO [hv H d s t v, .int .i64 width, .slice a n c, .pointer (some ⟨hb, 0, none⟩), undef, undef, .bool false, .slice x.a x.n x.c, .int .i64 0, undef, undef, undef, undef, .tuple #[.slice x.a x.n x.c, .int .i64 0], hv H d s t v, y15, .int .i64 width, .tuple #[.slice x.a x.n x.c, .int .i64 0], .slice x.a x.n x.c, .int .i64 0, .int .i64 0, .bool false, undef, undef, undef, undef, undef, undef, .pointer (some ⟨hb, 0, none⟩), .int .i64 H.kind, y30, y31, y32, y33, y34, y35, y36, y37, undef, undef, undef, undef, undef, undef, undef, undef, undef, undef, undef, undef, undef, undef] 93
abbrev Z0 (H : Hd) (d s t v : Sv) (width : Int) (a : Option Addr) (n c : Nat) (hb : Nat) (x : Sv) (y15 y30 y31 y32 y33 y34 y35 y36 y37 : Value)  : Act := actO [hv H d s t v, .int .i64 width, .slice a n c, .pointer (some ⟨hb, 0, none⟩), undef, undef, .bool false, .slice x.a x.n x.c, .int .i64 0, undef, undef, undef, undef, .tuple #[.slice x.a x.n x.c, .int .i64 0], hv H d s t v, y15, .int .i64 width, .tuple #[.slice x.a x.n x.c, .int .i64 0], .slice x.a x.n x.c, .int .i64 0, .int .i64 0, .bool false, undef, undef, undef, undef, undef, undef, .pointer (some ⟨hb, 0, none⟩), .int .i64 H.kind, y30, y31, y32, y33, y34, y35, y36, y37, undef, undef, .slice x.a x.n x.c, .slice a n c, undef, undef, .pointer (some ⟨hb, 2, none⟩), .slice d.a d.n d.c, .int .i64 (d.n : Int), undef, undef, undef, undef, undef] 93
abbrev ZB_ (H : Hd) (d s t v : Sv) (width : Int) (a : Option Addr) (n c : Nat) (hb : Nat) (x : Sv) (y15 y30 y31 y32 y33 y34 y35 y36 y37 : Value) (jb : Nat) : Act := actO [hv H d s t v, .int .i64 width, .slice a n c, .pointer (some ⟨hb, 0, none⟩), undef, undef, .bool false, .slice x.a x.n x.c, .int .i64 0, undef, undef, undef, undef, .tuple #[.slice x.a x.n x.c, .int .i64 0], hv H d s t v, y15, .int .i64 width, .tuple #[.slice x.a x.n x.c, .int .i64 0], .slice x.a x.n x.c, .int .i64 0, .int .i64 0, .bool false, undef, undef, undef, undef, undef, undef, .pointer (some ⟨hb, 0, none⟩), .int .i64 H.kind, y30, y31, y32, y33, y34, y35, y36, y37, undef, undef, .slice x.a x.n x.c, .slice a n c, .slice (some ⟨jb, 0, none⟩) 2 2, undef, .pointer (some ⟨hb, 2, none⟩), .slice d.a d.n d.c, .int .i64 (d.n : Int), undef, undef, undef, undef, undef] 93
abbrev ZA_ (H : Hd) (d s t v : Sv) (width : Int) (a : Option Addr) (n c : Nat) (hb : Nat) (x : Sv) (y15 y30 y31 y32 y33 y34 y35 y36 y37 : Value) (gb : Nat) : Act := actO [hv H d s t v, .int .i64 width, .slice a n c, .pointer (some ⟨hb, 0, none⟩), undef, undef, .bool false, .slice x.a x.n x.c, .int .i64 0, .pointer (some ⟨gb, 0, none⟩), undef, undef, undef, .tuple #[.slice x.a x.n x.c, .int .i64 0], hv H d s t v, y15, .int .i64 width, .tuple #[.slice x.a x.n x.c, .int .i64 0], .slice x.a x.n x.c, .int .i64 0, .int .i64 0, .bool false, undef, undef, undef, undef, undef, undef, .pointer (some ⟨hb, 0, none⟩), .int .i64 H.kind, y30, y31, y32, y33, y34, y35, y36, y37, undef, undef, .slice x.a x.n x.c, .slice a n c, undef, undef, .pointer (some ⟨hb, 2, none⟩), .slice d.a d.n d.c, .int .i64 (d.n : Int), undef, undef, undef, undef, undef] 93
abbrev ZBA (H : Hd) (d s t v : Sv) (width : Int) (a : Option Addr) (n c : Nat) (hb : Nat) (x : Sv) (y15 y30 y31 y32 y33 y34 y35 y36 y37 : Value) (jb : Nat) (gb : Nat) : Act := actO [hv H d s t v, .int .i64 width, .slice a n c, .pointer (some ⟨hb, 0, none⟩), undef, undef, .bool false, .slice x.a x.n x.c, .int .i64 0, .pointer (some ⟨gb, 0, none⟩), undef, undef, undef, .tuple #[.slice x.a x.n x.c, .int .i64 0], hv H d s t v, y15, .int .i64 width, .tuple #[.slice x.a x.n x.c, .int .i64 0], .slice x.a x.n x.c, .int .i64 0, .int .i64 0, .bool false, undef, undef, undef, undef, undef, undef, .pointer (some ⟨hb, 0, none⟩), .int .i64 H.kind, y30, y31, y32, y33, y34, y35, y36, y37, undef, undef, .slice x.a x.n x.c, .slice a n c, .slice (some ⟨jb, 0, none⟩) 2 2, undef, .pointer (some ⟨hb, 2, none⟩), .slice d.a d.n d.c, .int .i64 (d.n : Int), undef, undef, undef, undef, undef] 93
abbrev ZJ_ (H : Hd) (d s t v : Sv) (width : Int) (a : Option Addr) (n c : Nat) (hb : Nat) (x : Sv) (y15 y30 y31 y32 y33 y34 y35 y36 y37 : Value) (jb : Nat) (r : Sv) : Act := actO [hv H d s t v, .int .i64 width, .slice a n c, .pointer (some ⟨hb, 0, none⟩), undef, undef, .bool false, .slice x.a x.n x.c, .int .i64 0, undef, undef, undef, undef, .tuple #[.slice x.a x.n x.c, .int .i64 0], hv H d s t v, y15, .int .i64 width, .tuple #[.slice x.a x.n x.c, .int .i64 0], .slice x.a x.n x.c, .int .i64 0, .int .i64 0, .bool false, undef, undef, undef, undef, undef, undef, .pointer (some ⟨hb, 0, none⟩), .int .i64 H.kind, y30, y31, y32, y33, y34, y35, y36, y37, undef, undef, .slice x.a x.n x.c, .slice a n c, .slice (some ⟨jb, 0, none⟩) 2 2, .slice r.a r.n r.c, .pointer (some ⟨hb, 2, none⟩), .slice d.a d.n d.c, .int .i64 (d.n : Int), undef, undef, undef, undef, undef] 93
abbrev ZJA (H : Hd) (d s t v : Sv) (width : Int) (a : Option Addr) (n c : Nat) (hb : Nat) (x : Sv) (y15 y30 y31 y32 y33 y34 y35 y36 y37 : Value) (jb : Nat) (gb : Nat) (r : Sv) : Act := actO [hv H d s t v, .int .i64 width, .slice a n c, .pointer (some ⟨hb, 0, none⟩), undef, undef, .bool false, .slice x.a x.n x.c, .int .i64 0, .pointer (some ⟨gb, 0, none⟩), undef, undef, undef, .tuple #[.slice x.a x.n x.c, .int .i64 0], hv H d s t v, y15, .int .i64 width, .tuple #[.slice x.a x.n x.c, .int .i64 0], .slice x.a x.n x.c, .int .i64 0, .int .i64 0, .bool false, undef, undef, undef, undef, undef, undef, .pointer (some ⟨hb, 0, none⟩), .int .i64 H.kind, y30, y31, y32, y33, y34, y35, y36, y37, undef, undef, .slice x.a x.n x.c, .slice a n c, .slice (some ⟨jb, 0, none⟩) 2 2, .slice r.a r.n r.c, .pointer (some ⟨hb, 2, none⟩), .slice d.a d.n d.c, .int .i64 (d.n : Int), undef, undef, undef, undef, undef] 93
abbrev ZP_ (H : Hd) (d s t v : Sv) (width : Int) (a : Option Addr) (n c : Nat) (hb : Nat) (x : Sv) (y15 y30 y31 y32 y33 y34 y35 y36 y37 : Value) (jb : Nat) (r : Sv) (B : Hd) (dG sG tG vG : Sv) (p1 p2 : Int) : Act := actO [hv H d s t v, .int .i64 width, .slice a n c, .pointer (some ⟨hb, 0, none⟩), undef, undef, .bool false, .slice x.a x.n x.c, .int .i64 0, undef, undef, undef, undef, .tuple #[.slice x.a x.n x.c, .int .i64 0], hv H d s t v, y15, .int .i64 width, .tuple #[.slice x.a x.n x.c, .int .i64 0], .slice x.a x.n x.c, .int .i64 0, .int .i64 0, .bool false, undef, undef, undef, undef, undef, undef, .pointer (some ⟨hb, 0, none⟩), .int .i64 H.kind, y30, y31, y32, y33, y34, y35, y36, y37, undef, undef, .slice x.a x.n x.c, .slice a n c, .slice (some ⟨jb, 0, none⟩) 2 2, .slice r.a r.n r.c, .pointer (some ⟨hb, 2, none⟩), .slice d.a d.n d.c, .int .i64 (d.n : Int), .tuple #[hv B dG sG tG vG, .int .i64 p1, .int .i64 p2, .int .i64 0], undef, undef, undef, undef] 93
abbrev ZPA (H : Hd) (d s t v : Sv) (width : Int) (a : Option Addr) (n c : Nat) (hb : Nat) (x : Sv) (y15 y30 y31 y32 y33 y34 y35 y36 y37 : Value) (jb : Nat) (gb : Nat) (r : Sv) (B : Hd) (dG sG tG vG : Sv) (p1 p2 : Int) : Act := actO [hv H d s t v, .int .i64 width, .slice a n c, .pointer (some ⟨hb, 0, none⟩), undef, undef, .bool false, .slice x.a x.n x.c, .int .i64 0, .pointer (some ⟨gb, 0, none⟩), undef, undef, undef, .tuple #[.slice x.a x.n x.c, .int .i64 0], hv H d s t v, y15, .int .i64 width, .tuple #[.slice x.a x.n x.c, .int .i64 0], .slice x.a x.n x.c, .int .i64 0, .int .i64 0, .bool false, undef, undef, undef, undef, undef, undef, .pointer (some ⟨hb, 0, none⟩), .int .i64 H.kind, y30, y31, y32, y33, y34, y35, y36, y37, undef, undef, .slice x.a x.n x.c, .slice a n c, .slice (some ⟨jb, 0, none⟩) 2 2, .slice r.a r.n r.c, .pointer (some ⟨hb, 2, none⟩), .slice d.a d.n d.c, .int .i64 (d.n : Int), .tuple #[hv B dG sG tG vG, .int .i64 p1, .int .i64 p2, .int .i64 0], undef, undef, undef, undef] 93
abbrev ZX_ (H : Hd) (d s t v : Sv) (width : Int) (a : Option Addr) (n c : Nat) (hb : Nat) (x : Sv) (y15 y30 y31 y32 y33 y34 y35 y36 y37 : Value) (jb : Nat) (r : Sv) (B : Hd) (dG sG tG vG : Sv) (p1 p2 : Int) : Act := actO [hv H d s t v, .int .i64 width, .slice a n c, .pointer (some ⟨hb, 0, none⟩), undef, undef, .bool false, .slice x.a x.n x.c, .int .i64 0, undef, undef, undef, undef, .tuple #[.slice x.a x.n x.c, .int .i64 0], hv H d s t v, y15, .int .i64 width, .tuple #[.slice x.a x.n x.c, .int .i64 0], .slice x.a x.n x.c, .int .i64 0, .int .i64 0, .bool false, undef, undef, undef, undef, undef, undef, .pointer (some ⟨hb, 0, none⟩), .int .i64 H.kind, y30, y31, y32, y33, y34, y35, y36, y37, undef, .tuple #[hv B dG sG tG vG, .int .i64 p1, .int .i64 p2, .int .i64 0], .slice x.a x.n x.c, .slice a n c, .slice (some ⟨jb, 0, none⟩) 2 2, .slice r.a r.n r.c, .pointer (some ⟨hb, 2, none⟩), .slice d.a d.n d.c, .int .i64 (d.n : Int), .tuple #[hv B dG sG tG vG, .int .i64 p1, .int .i64 p2, .int .i64 0], hv B dG sG tG vG, .int .i64 p1, .int .i64 p2, .int .i64 0] 93
abbrev ZXA (H : Hd) (d s t v : Sv) (width : Int) (a : Option Addr) (n c : Nat) (hb : Nat) (x : Sv) (y15 y30 y31 y32 y33 y34 y35 y36 y37 : Value) (jb : Nat) (gb : Nat) (r : Sv) (B : Hd) (dG sG tG vG : Sv) (p1 p2 : Int) : Act := actO [hv H d s t v, .int .i64 width, .slice a n c, .pointer (some ⟨hb, 0, none⟩), undef, undef, .bool false, .slice x.a x.n x.c, .int .i64 0, .pointer (some ⟨gb, 0, none⟩), undef, undef, undef, .tuple #[.slice x.a x.n x.c, .int .i64 0], hv H d s t v, y15, .int .i64 width, .tuple #[.slice x.a x.n x.c, .int .i64 0], .slice x.a x.n x.c, .int .i64 0, .int .i64 0, .bool false, undef, undef, undef, undef, undef, undef, .pointer (some ⟨hb, 0, none⟩), .int .i64 H.kind, y30, y31, y32, y33, y34, y35, y36, y37, undef, .tuple #[hv B dG sG tG vG, .int .i64 p1, .int .i64 p2, .int .i64 0], .slice x.a x.n x.c, .slice a n c, .slice (some ⟨jb, 0, none⟩) 2 2, .slice r.a r.n r.c, .pointer (some ⟨hb, 2, none⟩), .slice d.a d.n d.c, .int .i64 (d.n : Int), .tuple #[hv B dG sG tG vG, .int .i64 p1, .int .i64 p2, .int .i64 0], hv B dG sG tG vG, .int .i64 p1, .int .i64 p2, .int .i64 0] 93
abbrev ZFA (H : Hd) (d s t v : Sv) (width : Int) (a : Option Addr) (n c : Nat) (hb : Nat) (x : Sv) (y15 y30 y31 y32 y33 y34 y35 y36 y37 : Value) (jb : Nat) (gb : Nat) (r : Sv) (B : Hd) (dG sG tG vG : Sv) (p1 p2 : Int) : Act := actO [hv H d s t v, .int .i64 width, .slice a n c, .pointer (some ⟨hb, 0, none⟩), undef, undef, .bool false, .slice x.a x.n x.c, .int .i64 0, .pointer (some ⟨gb, 0, none⟩), .int .i64 p1, .int .i64 p2, .int .i64 0, .tuple #[.slice x.a x.n x.c, .int .i64 0], hv H d s t v, y15, .int .i64 width, .tuple #[.slice x.a x.n x.c, .int .i64 0], .slice x.a x.n x.c, .int .i64 0, .int .i64 0, .bool false, undef, undef, undef, undef, undef, undef, .pointer (some ⟨hb, 0, none⟩), .int .i64 H.kind, y30, y31, y32, y33, y34, y35, y36, y37, undef, .tuple #[hv B dG sG tG vG, .int .i64 p1, .int .i64 p2, .int .i64 0], .slice x.a x.n x.c, .slice a n c, .slice (some ⟨jb, 0, none⟩) 2 2, .slice r.a r.n r.c, .pointer (some ⟨hb, 2, none⟩), .slice d.a d.n d.c, .int .i64 (d.n : Int), .tuple #[hv B dG sG tG vG, .int .i64 p1, .int .i64 p2, .int .i64 0], hv B dG sG tG vG, .int .i64 p1, .int .i64 p2, .int .i64 0] 93
def z0 (a : Option Addr) (n c hb : Nat) (d x : Sv) : List (Nat × Value) := [(0, .slice x.a x.n x.c), (1, .slice a n c), (4, .pointer (some ⟨hb, 2, none⟩)), (5, .slice d.a d.n d.c), (6, .int .i64 (d.n : Int))]
def z1 (B : Hd) (dG sG tG vG : Sv) (p1 p2 : Int) : List (Nat × Value) := [(8, .tuple #[hv B dG sG tG vG, .int .i64 p1, .int .i64 p2, .int .i64 0]), (9, hv B dG sG tG vG), (10, .int .i64 p1), (11, .int .i64 p2), (12, .int .i64 0)]
def z2 (p1 p2 : Int) : List (Nat × Value) := [(15, .int .i64 p1), (16, .int .i64 p2), (17, .int .i64 0)]
theorem ld_sl {o : Oper} {a : Act} {w : World} (x : Operand) (b j : Nat) (v : Sv) (ho : o.op = .load 22 x) (hx : a.eval x = .pointer (some ⟨b, j, none⟩)) (hc : w.cell? ⟨b, j, none⟩ = some (.slice v.a v.n v.c)) :
    (execOp a.eval o).run Try.prog w = .ok (.value (.slice v.a v.n v.c)) w := by
  have hst : (loadVar 22 ⟨b, j, none⟩).run Try.prog w = .ok (.slice v.a v.n v.c) w := by simp [loadVar, go_sem, hc]
  unfold execOp
  simp only [ho, hx, Instr.loadAt, Instr.sureAddr, Sem.run_bind, Sem.run_pure, Result.andThen_ok, hst]
theorem g0 (H : Hd) (d s t v : Sv) (width : Int) (a : Option Addr) (n c : Nat) (hb : Nat) (x : Sv) (y15 y30 y31 y32 y33 y34 y35 y36 y37 : Value) (w : World) : Chn Try.prog (RofN Try.f6 6) (SB w hb H d s t v) (z0 a n c hb d x) (#[false, false, false, false, false, false, false, false, false, false, false, false, false, false, false, false, false, false] : Array Bool) (Z00 H d s t v width a n c hb x y15 y30 y31 y32 y33 y34 y35 y36 y37) :=
  ⟨⟨by kernel_rfl, by kernel_rfl, by kernel_rfl, by kernel_rfl, fun w h => by kernel_rfl⟩, ⟨by kernel_rfl, by kernel_rfl, by kernel_rfl, by kernel_rfl, fun w h => by kernel_rfl⟩, ⟨by kernel_rfl, by kernel_rfl, by kernel_rfl, by kernel_rfl, fun w h => by kernel_rfl⟩, ⟨by kernel_rfl, by kernel_rfl, by kernel_rfl, by kernel_rfl, fun w h => ld_sl (.tmp 44) hb 2 d (by kernel_rfl) (by kernel_rfl) h.2.c2⟩, ⟨by kernel_rfl, by kernel_rfl, by kernel_rfl, by kernel_rfl, fun w h => by kernel_rfl⟩, trivial⟩
theorem g1_ (H : Hd) (d s t v : Sv) (width : Int) (a : Option Addr) (n c : Nat) (hb : Nat) (x : Sv) (y15 y30 y31 y32 y33 y34 y35 y36 y37 : Value) (jb : Nat) (r : Sv) (B : Hd) (dG sG tG vG : Sv) (p1 p2 : Int) (w : World) : Chn Try.prog (RofN Try.f6 6) (SB w hb H d s t v) (z1 B dG sG tG vG p1 p2) (#[true, true, true, true, true, true, true, true, false, false, false, false, false, false, false, false, false, false] : Array Bool) (ZP_ H d s t v width a n c hb x y15 y30 y31 y32 y33 y34 y35 y36 y37 jb r B dG sG tG vG p1 p2) :=
  ⟨⟨by kernel_rfl, by kernel_rfl, by kernel_rfl, by kernel_rfl, fun w h => by kernel_rfl⟩, ⟨by kernel_rfl, by kernel_rfl, by kernel_rfl, by kernel_rfl, fun w h => by kernel_rfl⟩, ⟨by kernel_rfl, by kernel_rfl, by kernel_rfl, by kernel_rfl, fun w h => by kernel_rfl⟩, ⟨by kernel_rfl, by kernel_rfl, by kernel_rfl, by kernel_rfl, fun w h => by kernel_rfl⟩, ⟨by kernel_rfl, by kernel_rfl, by kernel_rfl, by kernel_rfl, fun w h => by kernel_rfl⟩, trivial⟩
theorem g1A (H : Hd) (d s t v : Sv) (width : Int) (a : Option Addr) (n c : Nat) (hb : Nat) (x : Sv) (y15 y30 y31 y32 y33 y34 y35 y36 y37 : Value) (jb : Nat) (gb : Nat) (r : Sv) (B : Hd) (dG sG tG vG : Sv) (p1 p2 : Int) (w : World) : Chn Try.prog (RofN Try.f6 6) (SB w hb H d s t v) (z1 B dG sG tG vG p1 p2) (#[true, true, true, true, true, true, true, true, false, false, false, false, false, true, false, false, false, false] : Array Bool) (ZPA H d s t v width a n c hb x y15 y30 y31 y32 y33 y34 y35 y36 y37 jb gb r B dG sG tG vG p1 p2) :=
  ⟨⟨by kernel_rfl, by kernel_rfl, by kernel_rfl, by kernel_rfl, fun w h => by kernel_rfl⟩, ⟨by kernel_rfl, by kernel_rfl, by kernel_rfl, by kernel_rfl, fun w h => by kernel_rfl⟩, ⟨by kernel_rfl, by kernel_rfl, by kernel_rfl, by kernel_rfl, fun w h => by kernel_rfl⟩, ⟨by kernel_rfl, by kernel_rfl, by kernel_rfl, by kernel_rfl, fun w h => by kernel_rfl⟩, ⟨by kernel_rfl, by kernel_rfl, by kernel_rfl, by kernel_rfl, fun w h => by kernel_rfl⟩, trivial⟩
theorem g2 (H : Hd) (d s t v : Sv) (width : Int) (a : Option Addr) (n c : Nat) (hb : Nat) (x : Sv) (y15 y30 y31 y32 y33 y34 y35 y36 y37 : Value) (jb : Nat) (gb : Nat) (r : Sv) (B : Hd) (dG sG tG vG : Sv) (p1 p2 : Int) (w : World) : Chn Try.prog (RofN Try.f6 6) (SB w hb H d s t v) (z2 p1 p2) (#[true, true, true, true, true, true, true, true, true, true, true, true, true, true, true, false, false, false] : Array Bool) (ZXA H d s t v width a n c hb x y15 y30 y31 y32 y33 y34 y35 y36 y37 jb gb r B dG sG tG vG p1 p2) :=
  ⟨⟨by kernel_rfl, by kernel_rfl, by kernel_rfl, by kernel_rfl, fun w h => by kernel_rfl⟩, ⟨by kernel_rfl, by kernel_rfl, by kernel_rfl, by kernel_rfl, fun w h => by kernel_rfl⟩, ⟨by kernel_rfl, by kernel_rfl, by kernel_rfl, by kernel_rfl, fun w h => by kernel_rfl⟩, trivial⟩
theorem stH {o : Oper} {a : Act} {w : World} (x z : Operand) (b : Nat) (B : Hd) (dG sG tG vG : Sv) (ho : o.op = .store 26 x z) (hx : a.eval x = .pointer (some ⟨b, 0, none⟩)) (hz : a.eval z = hv B dG sG tG vG) (hb : Box w 26 b zh nilS nilS nilS nilS) :
    (execOp a.eval o).run Try.prog w = .ok .skip (w.setRow b (hcells B dG sG tG vG)) := by
  have hl := run_storeVar_row (P := Try.prog) w b 26 26 (hcells zh nilS nilS nilS nilS) (hcells B dG sG tG vG) hb (hcells_info _ _ _ _ _) rfl (hcells_one _ _ _ _ _)
  unfold execOp
  simp only [ho, hx, hz, Instr.storeAt, Instr.sureAddr, Sem.run_bind, Sem.run_pure, Result.andThen_ok, hl]
/-- What is asked behind the region. -/
def End6 (H : Hd) (d s t v : Sv) (width : Int) (a : Option Addr) (n c : Nat) (hb : Nat) (x : Sv) (y15 y30 y31 y32 y33 y34 y35 y36 y37 : Value) (w : World) (R : Exit → Act → World → Prop) (B : Hd) (p1 p2 : Int) : Prop :=
  ∀ (jb gb : Nat) (r dG sG tG vG : Sv) (W : World), Q w W → Box W 26 gb B dG sG tG vG → PG W B dG sG tG → R .normal (ZFA H d s t v width a n c hb x y15 y30 y31 y32 y33 y34 y35 y36 y37 jb gb r B dG sG tG vG p1 p2) W
set_option maxHeartbeats 4000000 in
theorem st_tail (H : Hd) (d s t v : Sv) (width : Int) (a : Option Addr) (n c : Nat) (hb : Nat) (x : Sv) (y15 y30 y31 y32 y33 y34 y35 y36 y37 : Value) (w : World) (R : Exit → Act → World → Prop) (hQ : ∀ c a d v w, R (.panic c) (a.put d v) w → R (.panic c) a w) (jb gb : Nat) (r : Sv) (B : Hd) (dG sG tG vG : Sv) (p1 p2 : Int) (W : World) (hS : SB w hb H d s t v W) (hHB : hb < w.heap.size) (hz : ZB w gb W) (hp : PG W B dG sG tG) (h : End6 H d s t v width a n c hb x y15 y30 y31 y32 y33 y34 y35 y36 y37 w R B p1 p2) :
    wpAnyH Try.prog .any (RofN Try.f6 6) R (SB w hb H d s t v) 4 (#[true, true, true, true, true, true, true, true, true, true, true, true, true, true, false, false, false, false] : Array Bool) (ZXA H d s t v width a n c hb x y15 y30 y31 y32 y33 y34 y35 y36 y37 jb gb r B dG sG tG vG p1 p2) W := by
  have hc := stH (o := ((RofN Try.f6 6)[14]?).getD default) (a := ZXA H d s t v width a n c hb x y15 y30 y31 y32 y33 y34 y35 y36 y37 jb gb r B dG sG tG vG p1 p2) (w := W) (.tmp 9) (.tmp 48) gb B dG sG tG vG (by kernel_rfl) (by kernel_rfl) (by kernel_rfl) hz.1
  refine wpAnyH_1 (i := 14) (by kernel_rfl) ?_
  refine wpOp_skip none (by kernel_rfl) (by kernel_rfl) (by kernel_rfl) hc ?_
  have kk : Keep (fun i => i = gb) W (W.setRow gb (hcells B dG sG tG vG)) := (Keep.refl _ W).setRow _ _ (.inl rfl)
  have q2 : Q w (W.setRow gb (hcells B dG sG tG vG)) := kk.below hS.1 hS.1.size (fun i e => by have := hz.2; omega)
  have hne : hb ≠ gb := by intro e; have := hS.2; have h3 := hHB; have h4 := hz.2; omega
  have hS2 : SB w hb H d s t v (W.setRow gb (hcells B dG sG tG vG)) := ⟨q2, hS.2.keep kk (by exact hne)⟩
  have hb2 : Box (W.setRow gb (hcells B dG sG tG vG)) 26 gb B dG sG tG vG := hz.1.row_ _ _ _ _ _
  have hp2 : PG (W.setRow gb (hcells B dG sG tG vG)) B dG sG tG := ⟨seg_z hp.ds hz.1 rfl, seg_z hp.ss hz.1 rfl, seg_z hp.ts hz.1 rfl, hp.dl, hp.sl, hp.tl⟩
  refine ⟨hS2, ?_⟩
  generalize W.setRow gb (hcells B dG sG tG vG) = W2 at *
  have e1 : (#[true, true, true, true, true, true, true, true, true, true, true, true, true, true, false, false, false, false] : Array Bool).setIfInBounds 14 true = (#[true, true, true, true, true, true, true, true, true, true, true, true, true, true, true, false, false, false] : Array Bool) := by kernel_rfl
  have e2 : (ZXA H d s t v width a n c hb x y15 y30 y31 y32 y33 y34 y35 y36 y37 jb gb r B dG sG tG vG p1 p2).put none undef = ZXA H d s t v width a n c hb x y15 y30 y31 y32 y33 y34 y35 y36 y37 jb gb r B dG sG tG vG p1 p2 := by kernel_rfl
  rw [e1, e2]
  refine chn_take (by kernel_rfl) hQ hS2 0 (z2 p1 p2) _ _ (g2 H d s t v width a n c hb x y15 y30 y31 y32 y33 y34 y35 y36 y37 jb gb r B dG sG tG vG p1 p2 w) ?_
  refine wpAnyH_done (by kernel_rfl) ?_ _
  have e3 : putL (RofN Try.f6 6) (z2 p1 p2) (ZXA H d s t v width a n c hb x y15 y30 y31 y32 y33 y34 y35 y36 y37 jb gb r B dG sG tG vG p1 p2) = ZFA H d s t v width a n c hb x y15 y30 y31 y32 y33 y34 y35 y36 y37 jb gb r B dG sG tG vG p1 p2 := by kernel_rfl
  rw [e3]
  exact h jb gb r dG sG tG vG W2 q2 hb2 hp2
set_option maxHeartbeats 4000000 in
theorem st_JA (H : Hd) (d s t v : Sv) (width : Int) (a : Option Addr) (n c : Nat) (hb : Nat) (x : Sv) (y15 y30 y31 y32 y33 y34 y35 y36 y37 : Value) (w : World) (R : Exit → Act → World → Prop) (hQ : ∀ c a d v w, R (.panic c) (a.put d v) w → R (.panic c) a w) (B : Hd) (p1 p2 : Int) (zj : List Int) (HJ : ∀ (W : World) (pb : Nat), Q w W → W.cell? ⟨pb, 0, none⟩ = some (.slice x.a x.n x.c) → W.cell? ⟨pb, 1, none⟩ = some (.slice a n c) → Calls Try.prog 21 #[.slice (some ⟨pb, 0, none⟩) 2 2] W fun e w' => ∃ r : Sv, e = .returned (.slice r.a r.n r.c) ∧ Row w' r zj ∧ Q W w') (HP : ∀ (W : World) (r : Sv), Q w W → Seg W r.a zj → zj.length = r.n → Calls Try.prog 10 #[.slice r.a r.n r.c, .int .i64 (d.n : Int)] W fun e w' => ∃ dG sG tG vG : Sv, e = .returned (.tuple #[hv B dG sG tG vG, .int .i64 p1, .int .i64 p2, .int .i64 0]) ∧ Q W w' ∧ PG w' B dG sG tG) (hHB : hb < w.heap.size) (h : End6 H d s t v width a n c hb x y15 y30 y31 y32 y33 y34 y35 y36 y37 w R B p1 p2) (jb gb : Nat) (r : Sv) (W : World) (hS : SB w hb H d s t v W) (hz : ZB w gb W) (hj : Seg W r.a zj) (hl : zj.length = r.n) :
    wpAnyH Try.prog .any (RofN Try.f6 6) R (SB w hb H d s t v) 10 (#[true, true, true, true, true, true, true, false, false, false, false, false, false, true, false, false, false, false] : Array Bool) (ZJA H d s t v width a n c hb x y15 y30 y31 y32 y33 y34 y35 y36 y37 jb gb r) W := by
  have hc : (execOp (ZJA H d s t v width a n c hb x y15 y30 y31 y32 y33 y34 y35 y36 y37 jb gb r).eval (((RofN Try.f6 6)[7]?).getD default)).run Try.prog W = .ok (.enter 10 #[.slice r.a r.n r.c, .int .i64 (d.n : Int)]) W := by kernel_rfl
  refine wpAnyH_1 (i := 7) (by kernel_rfl) ?_
  refine wpOp_callx (some 47) (by kernel_rfl) (by kernel_rfl) (by kernel_rfl) 10 _ hc (HP W r hS.1 hj hl) ?_
  rintro e W2 ⟨dG, sG, tG, vG, rfl, q2, hp⟩
  refine ⟨_, rfl, sb_q hS q2, ?_⟩
  have e1 : (#[true, true, true, true, true, true, true, false, false, false, false, false, false, true, false, false, false, false] : Array Bool).setIfInBounds 7 true = (#[true, true, true, true, true, true, true, true, false, false, false, false, false, true, false, false, false, false] : Array Bool) := by kernel_rfl
  have e2 : (ZJA H d s t v width a n c hb x y15 y30 y31 y32 y33 y34 y35 y36 y37 jb gb r).put (some 47) (.tuple #[hv B dG sG tG vG, .int .i64 p1, .int .i64 p2, .int .i64 0]) = ZPA H d s t v width a n c hb x y15 y30 y31 y32 y33 y34 y35 y36 y37 jb gb r B dG sG tG vG p1 p2 := by kernel_rfl
  rw [e1, e2]
  refine chn_take (by kernel_rfl) hQ (sb_q hS q2) 4 (z1 B dG sG tG vG p1 p2) _ _ (g1A H d s t v width a n c hb x y15 y30 y31 y32 y33 y34 y35 y36 y37 jb gb r B dG sG tG vG p1 p2 w) ?_
  have e3 : setL (z1 B dG sG tG vG p1 p2) (#[true, true, true, true, true, true, true, true, false, false, false, false, false, true, false, false, false, false] : Array Bool) = (#[true, true, true, true, true, true, true, true, true, true, true, true, true, true, false, false, false, false] : Array Bool) := by kernel_rfl
  have e4 : putL (RofN Try.f6 6) (z1 B dG sG tG vG p1 p2) (ZPA H d s t v width a n c hb x y15 y30 y31 y32 y33 y34 y35 y36 y37 jb gb r B dG sG tG vG p1 p2) = ZXA H d s t v width a n c hb x y15 y30 y31 y32 y33 y34 y35 y36 y37 jb gb r B dG sG tG vG p1 p2 := by kernel_rfl
  rw [e3, e4]
  exact st_tail H d s t v width a n c hb x y15 y30 y31 y32 y33 y34 y35 y36 y37 w R hQ jb gb r B dG sG tG vG p1 p2 W2 (sb_q hS q2) hHB (zb_q hz q2) hp h
set_option maxHeartbeats 4000000 in
theorem st_J (H : Hd) (d s t v : Sv) (width : Int) (a : Option Addr) (n c : Nat) (hb : Nat) (x : Sv) (y15 y30 y31 y32 y33 y34 y35 y36 y37 : Value) (w : World) (R : Exit → Act → World → Prop) (hQ : ∀ c a d v w, R (.panic c) (a.put d v) w → R (.panic c) a w) (B : Hd) (p1 p2 : Int) (zj : List Int) (HJ : ∀ (W : World) (pb : Nat), Q w W → W.cell? ⟨pb, 0, none⟩ = some (.slice x.a x.n x.c) → W.cell? ⟨pb, 1, none⟩ = some (.slice a n c) → Calls Try.prog 21 #[.slice (some ⟨pb, 0, none⟩) 2 2] W fun e w' => ∃ r : Sv, e = .returned (.slice r.a r.n r.c) ∧ Row w' r zj ∧ Q W w') (HP : ∀ (W : World) (r : Sv), Q w W → Seg W r.a zj → zj.length = r.n → Calls Try.prog 10 #[.slice r.a r.n r.c, .int .i64 (d.n : Int)] W fun e w' => ∃ dG sG tG vG : Sv, e = .returned (.tuple #[hv B dG sG tG vG, .int .i64 p1, .int .i64 p2, .int .i64 0]) ∧ Q W w' ∧ PG w' B dG sG tG) (hHB : hb < w.heap.size) (h : End6 H d s t v width a n c hb x y15 y30 y31 y32 y33 y34 y35 y36 y37 w R B p1 p2) (jb : Nat) (r : Sv) (W : World) (hS : SB w hb H d s t v W) (hj : Seg W r.a zj) (hl : zj.length = r.n) :
    wpAnyH Try.prog .any (RofN Try.f6 6) R (SB w hb H d s t v) 11 (#[true, true, true, true, true, true, true, false, false, false, false, false, false, false, false, false, false, false] : Array Bool) (ZJ_ H d s t v width a n c hb x y15 y30 y31 y32 y33 y34 y35 y36 y37 jb r) W := by
  have q9 : Q W (W.alloc (.cells (hcells zh nilS nilS nilS nilS) 26)) := (Q.refl W).alloc _
  have z9 : ZB w W.heap.size (W.alloc (.cells (hcells zh nilS nilS nilS nilS) 26)) := ⟨heap_alloc_new W _, hS.1.size⟩
  refine wpAnyH_two (i := 7) (j := 13) (by kernel_rfl) ?_ ?_
  · have hc : (execOp (ZJ_ H d s t v width a n c hb x y15 y30 y31 y32 y33 y34 y35 y36 y37 jb r).eval (((RofN Try.f6 6)[7]?).getD default)).run Try.prog W = .ok (.enter 10 #[.slice r.a r.n r.c, .int .i64 (d.n : Int)]) W := by kernel_rfl
    refine wpOp_callx (some 47) (by kernel_rfl) (by kernel_rfl) (by kernel_rfl) 10 _ hc (HP W r hS.1 hj hl) ?_
    rintro e W2 ⟨dG, sG, tG, vG, rfl, q2, hp⟩
    refine ⟨_, rfl, sb_q hS q2, ?_⟩
    have e1 : (#[true, true, true, true, true, true, true, false, false, false, false, false, false, false, false, false, false, false] : Array Bool).setIfInBounds 7 true = (#[true, true, true, true, true, true, true, true, false, false, false, false, false, false, false, false, false, false] : Array Bool) := by kernel_rfl
    have e2 : (ZJ_ H d s t v width a n c hb x y15 y30 y31 y32 y33 y34 y35 y36 y37 jb r).put (some 47) (.tuple #[hv B dG sG tG vG, .int .i64 p1, .int .i64 p2, .int .i64 0]) = ZP_ H d s t v width a n c hb x y15 y30 y31 y32 y33 y34 y35 y36 y37 jb r B dG sG tG vG p1 p2 := by kernel_rfl
    rw [e1, e2]
    clear q9 z9
    replace hS := sb_q hS q2
    clear q2 hj hc e1 e2
    generalize hWW : W2 = W1 at *
    clear hWW W2 W
    refine chn_take (by kernel_rfl) hQ hS 5 (z1 B dG sG tG vG p1 p2) _ _ (g1_ H d s t v width a n c hb x y15 y30 y31 y32 y33 y34 y35 y36 y37 jb r B dG sG tG vG p1 p2 w) ?_
    have e3 : setL (z1 B dG sG tG vG p1 p2) (#[true, true, true, true, true, true, true, true, false, false, false, false, false, false, false, false, false, false] : Array Bool) = (#[true, true, true, true, true, true, true, true, true, true, true, true, true, false, false, false, false, false] : Array Bool) := by kernel_rfl
    have e4 : putL (RofN Try.f6 6) (z1 B dG sG tG vG p1 p2) (ZP_ H d s t v width a n c hb x y15 y30 y31 y32 y33 y34 y35 y36 y37 jb r B dG sG tG vG p1 p2) = ZX_ H d s t v width a n c hb x y15 y30 y31 y32 y33 y34 y35 y36 y37 jb r B dG sG tG vG p1 p2 := by kernel_rfl
    rw [e3, e4]
    generalize hWW : W1 = W at *
    clear hWW W1
    have q9 : Q W (W.alloc (.cells (hcells zh nilS nilS nilS nilS) 26)) := (Q.refl W).alloc _
    have z9 : ZB w W.heap.size (W.alloc (.cells (hcells zh nilS nilS nilS nilS) 26)) := ⟨heap_alloc_new W _, hS.1.size⟩
    refine wpAnyH_1 (i := 13) (by kernel_rfl) ?_
    refine wpOp_val (some 9) (by kernel_rfl) (by kernel_rfl) (by kernel_rfl) (show (execOp (ZX_ H d s t v width a n c hb x y15 y30 y31 y32 y33 y34 y35 y36 y37 jb r B dG sG tG vG p1 p2).eval (((RofN Try.f6 6)[13]?).getD default)).run Try.prog W = .ok (.value (.pointer (some ⟨W.heap.size, 0, none⟩))) (W.alloc (.cells (hcells zh nilS nilS nilS nilS) 26)) from by kernel_rfl) ?_
    refine ⟨sb_q hS q9, ?_⟩
    have e1 : (#[true, true, true, true, true, true, true, true, true, true, true, true, true, false, false, false, false, false] : Array Bool).setIfInBounds 13 true = (#[true, true, true, true, true, true, true, true, true, true, true, true, true, true, false, false, false, false] : Array Bool) := by kernel_rfl
    have e2 : (ZX_ H d s t v width a n c hb x y15 y30 y31 y32 y33 y34 y35 y36 y37 jb r B dG sG tG vG p1 p2).put (some 9) (.pointer (some ⟨W.heap.size, 0, none⟩)) = ZXA H d s t v width a n c hb x y15 y30 y31 y32 y33 y34 y35 y36 y37 jb W.heap.size r B dG sG tG vG p1 p2 := by kernel_rfl
    rw [e1, e2]
    exact st_tail H d s t v width a n c hb x y15 y30 y31 y32 y33 y34 y35 y36 y37 w R hQ jb W.heap.size r B dG sG tG vG p1 p2 _ (sb_q hS q9) hHB z9 (hp.q q9) h
  · refine wpOp_val (some 9) (by kernel_rfl) (by kernel_rfl) (by kernel_rfl) (show (execOp (ZJ_ H d s t v width a n c hb x y15 y30 y31 y32 y33 y34 y35 y36 y37 jb r).eval (((RofN Try.f6 6)[13]?).getD default)).run Try.prog W = .ok (.value (.pointer (some ⟨W.heap.size, 0, none⟩))) (W.alloc (.cells (hcells zh nilS nilS nilS nilS) 26)) from by kernel_rfl) ?_
    refine ⟨sb_q hS q9, ?_⟩
    have e1 : (#[true, true, true, true, true, true, true, false, false, false, false, false, false, false, false, false, false, false] : Array Bool).setIfInBounds 13 true = (#[true, true, true, true, true, true, true, false, false, false, false, false, false, true, false, false, false, false] : Array Bool) := by kernel_rfl
    have e2 : (ZJ_ H d s t v width a n c hb x y15 y30 y31 y32 y33 y34 y35 y36 y37 jb r).put (some 9) (.pointer (some ⟨W.heap.size, 0, none⟩)) = ZJA H d s t v width a n c hb x y15 y30 y31 y32 y33 y34 y35 y36 y37 jb W.heap.size r := by kernel_rfl
    rw [e1, e2]
    exact st_JA H d s t v width a n c hb x y15 y30 y31 y32 y33 y34 y35 y36 y37 w R hQ B p1 p2 zj HJ HP hHB h jb W.heap.size r _ (sb_q hS q9) z9 (hj.q q9) hl
set_option maxHeartbeats 4000000 in
theorem st_BA (H : Hd) (d s t v : Sv) (width : Int) (a : Option Addr) (n c : Nat) (hb : Nat) (x : Sv) (y15 y30 y31 y32 y33 y34 y35 y36 y37 : Value) (w : World) (R : Exit → Act → World → Prop) (hQ : ∀ c a d v w, R (.panic c) (a.put d v) w → R (.panic c) a w) (B : Hd) (p1 p2 : Int) (zj : List Int) (HJ : ∀ (W : World) (pb : Nat), Q w W → W.cell? ⟨pb, 0, none⟩ = some (.slice x.a x.n x.c) → W.cell? ⟨pb, 1, none⟩ = some (.slice a n c) → Calls Try.prog 21 #[.slice (some ⟨pb, 0, none⟩) 2 2] W fun e w' => ∃ r : Sv, e = .returned (.slice r.a r.n r.c) ∧ Row w' r zj ∧ Q W w') (HP : ∀ (W : World) (r : Sv), Q w W → Seg W r.a zj → zj.length = r.n → Calls Try.prog 10 #[.slice r.a r.n r.c, .int .i64 (d.n : Int)] W fun e w' => ∃ dG sG tG vG : Sv, e = .returned (.tuple #[hv B dG sG tG vG, .int .i64 p1, .int .i64 p2, .int .i64 0]) ∧ Q W w' ∧ PG w' B dG sG tG) (hHB : hb < w.heap.size) (h : End6 H d s t v width a n c hb x y15 y30 y31 y32 y33 y34 y35 y36 y37 w R B p1 p2) (jb gb : Nat) (W : World) (hS : SB w hb H d s t v W) (hz : ZB w gb W) (hb0 : W.cell? ⟨jb, 0, none⟩ = some (.slice x.a x.n x.c)) (hb1 : W.cell? ⟨jb, 1, none⟩ = some (.slice a n c)) :
    wpAnyH Try.prog .any (RofN Try.f6 6) R (SB w hb H d s t v) 11 (#[true, true, true, false, true, true, true, false, false, false, false, false, false, true, false, false, false, false] : Array Bool) (ZBA H d s t v width a n c hb x y15 y30 y31 y32 y33 y34 y35 y36 y37 jb gb) W := by
  refine wpAnyH_1 (i := 3) (by kernel_rfl) ?_
  · have hc : (execOp (ZBA H d s t v width a n c hb x y15 y30 y31 y32 y33 y34 y35 y36 y37 jb gb).eval (((RofN Try.f6 6)[3]?).getD default)).run Try.prog W = .ok (.enter 21 #[.slice (some ⟨jb, 0, none⟩) 2 2]) W := by kernel_rfl
    refine wpOp_callx (some 43) (by kernel_rfl) (by kernel_rfl) (by kernel_rfl) 21 _ hc (HJ W jb hS.1 hb0 hb1) ?_
    rintro e W2 ⟨r, rfl, hr, q2⟩
    refine ⟨_, rfl, sb_q hS q2, ?_⟩
    have e1 : (#[true, true, true, false, true, true, true, false, false, false, false, false, false, true, false, false, false, false] : Array Bool).setIfInBounds 3 true = (#[true, true, true, true, true, true, true, false, false, false, false, false, false, true, false, false, false, false] : Array Bool) := by kernel_rfl
    have e2 : (ZBA H d s t v width a n c hb x y15 y30 y31 y32 y33 y34 y35 y36 y37 jb gb).put (some 43) (.slice r.a r.n r.c) = ZJA H d s t v width a n c hb x y15 y30 y31 y32 y33 y34 y35 y36 y37 jb gb r := by kernel_rfl
    rw [e1, e2]
    exact st_JA H d s t v width a n c hb x y15 y30 y31 y32 y33 y34 y35 y36 y37 w R hQ B p1 p2 zj HJ HP hHB h jb gb r _ (sb_q hS q2) (zb_q hz q2) hr.seg (Row.len hr)
set_option maxHeartbeats 4000000 in
theorem st_B (H : Hd) (d s t v : Sv) (width : Int) (a : Option Addr) (n c : Nat) (hb : Nat) (x : Sv) (y15 y30 y31 y32 y33 y34 y35 y36 y37 : Value) (w : World) (R : Exit → Act → World → Prop) (hQ : ∀ c a d v w, R (.panic c) (a.put d v) w → R (.panic c) a w) (B : Hd) (p1 p2 : Int) (zj : List Int) (HJ : ∀ (W : World) (pb : Nat), Q w W → W.cell? ⟨pb, 0, none⟩ = some (.slice x.a x.n x.c) → W.cell? ⟨pb, 1, none⟩ = some (.slice a n c) → Calls Try.prog 21 #[.slice (some ⟨pb, 0, none⟩) 2 2] W fun e w' => ∃ r : Sv, e = .returned (.slice r.a r.n r.c) ∧ Row w' r zj ∧ Q W w') (HP : ∀ (W : World) (r : Sv), Q w W → Seg W r.a zj → zj.length = r.n → Calls Try.prog 10 #[.slice r.a r.n r.c, .int .i64 (d.n : Int)] W fun e w' => ∃ dG sG tG vG : Sv, e = .returned (.tuple #[hv B dG sG tG vG, .int .i64 p1, .int .i64 p2, .int .i64 0]) ∧ Q W w' ∧ PG w' B dG sG tG) (hHB : hb < w.heap.size) (h : End6 H d s t v width a n c hb x y15 y30 y31 y32 y33 y34 y35 y36 y37 w R B p1 p2) (jb : Nat) (W : World) (hS : SB w hb H d s t v W) (hb0 : W.cell? ⟨jb, 0, none⟩ = some (.slice x.a x.n x.c)) (hb1 : W.cell? ⟨jb, 1, none⟩ = some (.slice a n c)) :
    wpAnyH Try.prog .any (RofN Try.f6 6) R (SB w hb H d s t v) 12 (#[true, true, true, false, true, true, true, false, false, false, false, false, false, false, false, false, false, false] : Array Bool) (ZB_ H d s t v width a n c hb x y15 y30 y31 y32 y33 y34 y35 y36 y37 jb) W := by
  have q9 : Q W (W.alloc (.cells (hcells zh nilS nilS nilS nilS) 26)) := (Q.refl W).alloc _
  have z9 : ZB w W.heap.size (W.alloc (.cells (hcells zh nilS nilS nilS nilS) 26)) := ⟨heap_alloc_new W _, hS.1.size⟩
  refine wpAnyH_two (i := 3) (j := 13) (by kernel_rfl) ?_ ?_
  · have hc : (execOp (ZB_ H d s t v width a n c hb x y15 y30 y31 y32 y33 y34 y35 y36 y37 jb).eval (((RofN Try.f6 6)[3]?).getD default)).run Try.prog W = .ok (.enter 21 #[.slice (some ⟨jb, 0, none⟩) 2 2]) W := by kernel_rfl
    refine wpOp_callx (some 43) (by kernel_rfl) (by kernel_rfl) (by kernel_rfl) 21 _ hc (HJ W jb hS.1 hb0 hb1) ?_
    rintro e W2 ⟨r, rfl, hr, q2⟩
    refine ⟨_, rfl, sb_q hS q2, ?_⟩
    have e1 : (#[true, true, true, false, true, true, true, false, false, false, false, false, false, false, false, false, false, false] : Array Bool).setIfInBounds 3 true = (#[true, true, true, true, true, true, true, false, false, false, false, false, false, false, false, false, false, false] : Array Bool) := by kernel_rfl
    have e2 : (ZB_ H d s t v width a n c hb x y15 y30 y31 y32 y33 y34 y35 y36 y37 jb).put (some 43) (.slice r.a r.n r.c) = ZJ_ H d s t v width a n c hb x y15 y30 y31 y32 y33 y34 y35 y36 y37 jb r := by kernel_rfl
    rw [e1, e2]
    exact st_J H d s t v width a n c hb x y15 y30 y31 y32 y33 y34 y35 y36 y37 w R hQ B p1 p2 zj HJ HP hHB h jb r _ (sb_q hS q2) hr.seg (Row.len hr)
  · refine wpOp_val (some 9) (by kernel_rfl) (by kernel_rfl) (by kernel_rfl) (show (execOp (ZB_ H d s t v width a n c hb x y15 y30 y31 y32 y33 y34 y35 y36 y37 jb).eval (((RofN Try.f6 6)[13]?).getD default)).run Try.prog W = .ok (.value (.pointer (some ⟨W.heap.size, 0, none⟩))) (W.alloc (.cells (hcells zh nilS nilS nilS nilS) 26)) from by kernel_rfl) ?_
    refine ⟨sb_q hS q9, ?_⟩
    have e1 : (#[true, true, true, false, true, true, true, false, false, false, false, false, false, false, false, false, false, false] : Array Bool).setIfInBounds 13 true = (#[true, true, true, false, true, true, true, false, false, false, false, false, false, true, false, false, false, false] : Array Bool) := by kernel_rfl
    have e2 : (ZB_ H d s t v width a n c hb x y15 y30 y31 y32 y33 y34 y35 y36 y37 jb).put (some 9) (.pointer (some ⟨W.heap.size, 0, none⟩)) = ZBA H d s t v width a n c hb x y15 y30 y31 y32 y33 y34 y35 y36 y37 jb W.heap.size := by kernel_rfl
    rw [e1, e2]
    exact st_BA H d s t v width a n c hb x y15 y30 y31 y32 y33 y34 y35 y36 y37 w R hQ B p1 p2 zj HJ HP hHB h jb W.heap.size _ (sb_q hS q9) z9 ((q9.cell (p := ⟨jb, 0, none⟩) (lt_of_cell hb0)).trans hb0) ((q9.cell (p := ⟨jb, 1, none⟩) (lt_of_cell hb1)).trans hb1)
set_option maxHeartbeats 4000000 in
theorem st_A (H : Hd) (d s t v : Sv) (width : Int) (a : Option Addr) (n c : Nat) (hb : Nat) (x : Sv) (y15 y30 y31 y32 y33 y34 y35 y36 y37 : Value) (w : World) (R : Exit → Act → World → Prop) (hQ : ∀ c a d v w, R (.panic c) (a.put d v) w → R (.panic c) a w) (B : Hd) (p1 p2 : Int) (zj : List Int) (HJ : ∀ (W : World) (pb : Nat), Q w W → W.cell? ⟨pb, 0, none⟩ = some (.slice x.a x.n x.c) → W.cell? ⟨pb, 1, none⟩ = some (.slice a n c) → Calls Try.prog 21 #[.slice (some ⟨pb, 0, none⟩) 2 2] W fun e w' => ∃ r : Sv, e = .returned (.slice r.a r.n r.c) ∧ Row w' r zj ∧ Q W w') (HP : ∀ (W : World) (r : Sv), Q w W → Seg W r.a zj → zj.length = r.n → Calls Try.prog 10 #[.slice r.a r.n r.c, .int .i64 (d.n : Int)] W fun e w' => ∃ dG sG tG vG : Sv, e = .returned (.tuple #[hv B dG sG tG vG, .int .i64 p1, .int .i64 p2, .int .i64 0]) ∧ Q W w' ∧ PG w' B dG sG tG) (hHB : hb < w.heap.size) (h : End6 H d s t v width a n c hb x y15 y30 y31 y32 y33 y34 y35 y36 y37 w R B p1 p2) (gb : Nat) (W : World) (hS : SB w hb H d s t v W) (hz : ZB w gb W) :
    wpAnyH Try.prog .any (RofN Try.f6 6) R (SB w hb H d s t v) 12 (#[true, true, false, false, true, true, true, false, false, false, false, false, false, true, false, false, false, false] : Array Bool) (ZA_ H d s t v width a n c hb x y15 y30 y31 y32 y33 y34 y35 y36 y37 gb) W := by
  have q8 : Q W (W.alloc (.cells #[.slice x.a x.n x.c, .slice a n c] 22)) := (Q.refl W).alloc _
  have p0 : (W.alloc (.cells #[.slice x.a x.n x.c, .slice a n c] 22)).cell? ⟨W.heap.size, 0, none⟩ = some (.slice x.a x.n x.c) := by rw [cell_of_row _ W.heap.size 0 _ 22 (0, 0) (heap_alloc_new W _)]; rfl
  have p1' : (W.alloc (.cells #[.slice x.a x.n x.c, .slice a n c] 22)).cell? ⟨W.heap.size, 1, none⟩ = some (.slice a n c) := by rw [cell_of_row _ W.heap.size 1 _ 22 (0, 0) (heap_alloc_new W _)]; rfl
  refine wpAnyH_1 (i := 2) (by kernel_rfl) ?_
  · refine wpOp_val (some 42) (by kernel_rfl) (by kernel_rfl) (by kernel_rfl) (show (execOp (ZA_ H d s t v width a n c hb x y15 y30 y31 y32 y33 y34 y35 y36 y37 gb).eval (((RofN Try.f6 6)[2]?).getD default)).run Try.prog W = .ok (.value (.slice (some ⟨W.heap.size, 0, none⟩) 2 2)) (W.alloc (.cells #[.slice x.a x.n x.c, .slice a n c] 22)) from by kernel_rfl) ?_
    refine ⟨sb_q hS q8, ?_⟩
    have e1 : (#[true, true, false, false, true, true, true, false, false, false, false, false, false, true, false, false, false, false] : Array Bool).setIfInBounds 2 true = (#[true, true, true, false, true, true, true, false, false, false, false, false, false, true, false, false, false, false] : Array Bool) := by kernel_rfl
    have e2 : (ZA_ H d s t v width a n c hb x y15 y30 y31 y32 y33 y34 y35 y36 y37 gb).put (some 42) (.slice (some ⟨W.heap.size, 0, none⟩) 2 2) = ZBA H d s t v width a n c hb x y15 y30 y31 y32 y33 y34 y35 y36 y37 W.heap.size gb := by kernel_rfl
    rw [e1, e2]
    exact st_BA H d s t v width a n c hb x y15 y30 y31 y32 y33 y34 y35 y36 y37 w R hQ B p1 p2 zj HJ HP hHB h W.heap.size gb _ (sb_q hS q8) (zb_q hz q8) p0 p1'
set_option maxHeartbeats 4000000 in
/-- The region. -/
theorem rg6 (H : Hd) (d s t v : Sv) (width : Int) (a : Option Addr) (n c : Nat) (hb : Nat) (x : Sv) (y15 y30 y31 y32 y33 y34 y35 y36 y37 : Value) (w : World) (R : Exit → Act → World → Prop) (hQ : ∀ c a d v w, R (.panic c) (a.put d v) w → R (.panic c) a w) (B : Hd) (p1 p2 : Int) (zj : List Int) (HJ : ∀ (W : World) (pb : Nat), Q w W → W.cell? ⟨pb, 0, none⟩ = some (.slice x.a x.n x.c) → W.cell? ⟨pb, 1, none⟩ = some (.slice a n c) → Calls Try.prog 21 #[.slice (some ⟨pb, 0, none⟩) 2 2] W fun e w' => ∃ r : Sv, e = .returned (.slice r.a r.n r.c) ∧ Row w' r zj ∧ Q W w') (HP : ∀ (W : World) (r : Sv), Q w W → Seg W r.a zj → zj.length = r.n → Calls Try.prog 10 #[.slice r.a r.n r.c, .int .i64 (d.n : Int)] W fun e w' => ∃ dG sG tG vG : Sv, e = .returned (.tuple #[hv B dG sG tG vG, .int .i64 p1, .int .i64 p2, .int .i64 0]) ∧ Q W w' ∧ PG w' B dG sG tG) (hHB : hb < w.heap.size) (h : End6 H d s t v width a n c hb x y15 y30 y31 y32 y33 y34 y35 y36 y37 w R B p1 p2) (hS : SB w hb H d s t v w) :
    (Code.region 6 (RofN Try.f6 6) true).wp Try.prog R (Z00 H d s t v width a n c hb x y15 y30 y31 y32 y33 y34 y35 y36 y37) w := by
  refine wp_region_held (S := SB w hb H d s t v) (by kernel_rfl) ?_
  have hsz : (RofN Try.f6 6).size = 18 := by kernel_rfl
  rw [hsz]
  have hS0 : SB w hb H d s t v w.drew := sb_q hS ((Q.refl w).drew)
  have e0 : (Array.replicate 18 false) = (#[false, false, false, false, false, false, false, false, false, false, false, false, false, false, false, false, false, false] : Array Bool) := by kernel_rfl
  rw [e0]
  refine chn_take (by kernel_rfl) hQ hS0 13 (z0 a n c hb d x) _ _ (g0 H d s t v width a n c hb x y15 y30 y31 y32 y33 y34 y35 y36 y37 w) ?_
  have e3 : setL (z0 a n c hb d x) (#[false, false, false, false, false, false, false, false, false, false, false, false, false, false, false, false, false, false] : Array Bool) = (#[true, true, false, false, true, true, true, false, false, false, false, false, false, false, false, false, false, false] : Array Bool) := by kernel_rfl
  have e4 : putL (RofN Try.f6 6) (z0 a n c hb d x) (Z00 H d s t v width a n c hb x y15 y30 y31 y32 y33 y34 y35 y36 y37) = Z0 H d s t v width a n c hb x y15 y30 y31 y32 y33 y34 y35 y36 y37 := by kernel_rfl
  rw [e3, e4]
  clear hS e3 e4
  obtain ⟨W, hW⟩ : ∃ W, W = w.drew := ⟨_, rfl⟩
  rw [← hW] at hS0 ⊢
  clear hW
  have hS := hS0
  clear hS0
  have q9 : Q W (W.alloc (.cells (hcells zh nilS nilS nilS nilS) 26)) := (Q.refl W).alloc _
  have z9 : ZB w W.heap.size (W.alloc (.cells (hcells zh nilS nilS nilS nilS) 26)) := ⟨heap_alloc_new W _, hS.1.size⟩
  have q8 : Q W (W.alloc (.cells #[.slice x.a x.n x.c, .slice a n c] 22)) := (Q.refl W).alloc _
  have p0 : (W.alloc (.cells #[.slice x.a x.n x.c, .slice a n c] 22)).cell? ⟨W.heap.size, 0, none⟩ = some (.slice x.a x.n x.c) := by rw [cell_of_row _ W.heap.size 0 _ 22 (0, 0) (heap_alloc_new W _)]; rfl
  have p1' : (W.alloc (.cells #[.slice x.a x.n x.c, .slice a n c] 22)).cell? ⟨W.heap.size, 1, none⟩ = some (.slice a n c) := by rw [cell_of_row _ W.heap.size 1 _ 22 (0, 0) (heap_alloc_new W _)]; rfl
  refine wpAnyH_two (i := 2) (j := 13) (by kernel_rfl) ?_ ?_
  · refine wpOp_val (some 42) (by kernel_rfl) (by kernel_rfl) (by kernel_rfl) (show (execOp (Z0 H d s t v width a n c hb x y15 y30 y31 y32 y33 y34 y35 y36 y37 ).eval (((RofN Try.f6 6)[2]?).getD default)).run Try.prog W = .ok (.value (.slice (some ⟨W.heap.size, 0, none⟩) 2 2)) (W.alloc (.cells #[.slice x.a x.n x.c, .slice a n c] 22)) from by kernel_rfl) ?_
    refine ⟨sb_q hS q8, ?_⟩
    have e1 : (#[true, true, false, false, true, true, true, false, false, false, false, false, false, false, false, false, false, false] : Array Bool).setIfInBounds 2 true = (#[true, true, true, false, true, true, true, false, false, false, false, false, false, false, false, false, false, false] : Array Bool) := by kernel_rfl
    have e2 : (Z0 H d s t v width a n c hb x y15 y30 y31 y32 y33 y34 y35 y36 y37 ).put (some 42) (.slice (some ⟨W.heap.size, 0, none⟩) 2 2) = ZB_ H d s t v width a n c hb x y15 y30 y31 y32 y33 y34 y35 y36 y37 W.heap.size := by kernel_rfl
    rw [e1, e2]
    exact st_B H d s t v width a n c hb x y15 y30 y31 y32 y33 y34 y35 y36 y37 w R hQ B p1 p2 zj HJ HP hHB h W.heap.size _ (sb_q hS q8) p0 p1'
  · refine wpOp_val (some 9) (by kernel_rfl) (by kernel_rfl) (by kernel_rfl) (show (execOp (Z0 H d s t v width a n c hb x y15 y30 y31 y32 y33 y34 y35 y36 y37 ).eval (((RofN Try.f6 6)[13]?).getD default)).run Try.prog W = .ok (.value (.pointer (some ⟨W.heap.size, 0, none⟩))) (W.alloc (.cells (hcells zh nilS nilS nilS nilS) 26)) from by kernel_rfl) ?_
    refine ⟨sb_q hS q9, ?_⟩
    have e1 : (#[true, true, false, false, true, true, true, false, false, false, false, false, false, false, false, false, false, false] : Array Bool).setIfInBounds 13 true = (#[true, true, false, false, true, true, true, false, false, false, false, false, false, true, false, false, false, false] : Array Bool) := by kernel_rfl
    have e2 : (Z0 H d s t v width a n c hb x y15 y30 y31 y32 y33 y34 y35 y36 y37 ).put (some 9) (.pointer (some ⟨W.heap.size, 0, none⟩)) = ZA_ H d s t v width a n c hb x y15 y30 y31 y32 y33 y34 y35 y36 y37 W.heap.size := by kernel_rfl
    rw [e1, e2]
    exact st_A H d s t v width a n c hb x y15 y30 y31 y32 y33 y34 y35 y36 y37 w R hQ B p1 p2 zj HJ HP hHB h W.heap.size _ (sb_q hS q9) z9
end Go.Proofs.Ytbhhajmfdffdbaa
