/-
  The last region of a reader's Next, which draws its order.
-/
import Derived.Test.YtdlefmlienfjhaaTkR
namespace Go.Proofs.Ytdlefmlienfjhaa
open Go.RowKit
set_option linter.unusedVariables false
set_option maxRecDepth 20000

theorem st41w {o : Oper} {a : Act} {w : World} (x z : Operand) (eb : Nat) (ev ev' : Ev) (y y' : Sv) (ho : o.op = .store 41 x z) (hx : a.eval x = .pointer (some ⟨eb, 0, none⟩)) (hy : a.eval z = .agg (eC ev' y')) (h : EB w eb ev y) :
    (execOp a.eval o).run Try.prog w = .ok .skip (w.setRow eb (eC ev' y')) := by
  have hl := run_storeVar_row (P := Try.prog) w eb 41 41 _ (eC ev' y') h (by kernel_rfl) rfl (one41 ev' y')
  unfold execOp
  simp only [ho, hx, hy, Instr.storeAt, Instr.sureAddr, Sem.run_bind, Sem.run_pure, Result.andThen_ok, hl]
/-- What holds throughout. -/
structure NS (w : World) (rb eb : Nat) (f : Int) (u : World) : Prop where
  k : Keep (fun b => b = eb) w u
  c : u.cell? ⟨rb, 9, none⟩ = some (.int .i64 f)
  e : ∃ ev y, EB u eb ev y
  n : eb ≠ rb
theorem NS.q {w : World} {rb eb : Nat} {f : Int} {u v : World} (h : NS w rb eb f u) (q : Q u v) : NS w rb eb f v := ⟨h.k.trans (Keep.ofQ q), (q.cell (lt_of_cell h.c)).trans h.c, by obtain ⟨ev, y, e⟩ := h.e; exact ⟨ev, y, e.q q⟩, h.n⟩
theorem NS.put {w : World} {rb eb : Nat} {f : Int} {u : World} (h : NS w rb eb f u) (ev : Ev) (y : Sv) : NS w rb eb f (u.setRow eb (eC ev y)) :=
  ⟨h.k.setRow _ _ (.inl rfl), ((Keep.refl (fun b => b = eb) u).setRow eb (eC ev y) (.inl rfl)).cell h.c (fun e => h.n e.symm), ⟨ev, y, by obtain ⟨a, b, e⟩ := h.e; exact e.put ev y⟩, h.n⟩
theorem wpAnyH_l2 {P : Program} {ops : Array Oper} {Q : Exit → Act → World → Prop} {S : World → Prop} {i j fuel : Nat} {L : Array Bool} {a : Act} {w : World} (hr : Region.ready .any ops L = [i, j])
    (h1 : wpOp P ops Q i (fun a' w' => S w' ∧ wpAnyH P .any ops Q S fuel (L.setIfInBounds i true) a' w') a w)
    (h2 : wpOp P ops Q j (fun a' w' => S w' ∧ wpAnyH P .any ops Q S fuel (L.setIfInBounds j true) a' w') a w) : wpAnyH P .any ops Q S (fuel + 1) L a w :=
  wpAnyH_all hr (by simp) (fun l hl => by
    rcases List.mem_cons.1 hl with e | hl
    · rw [e]; exact h1
    · have e' : l = j := by simpa using hl
      rw [e']; exact h2)
theorem wpAnyH_l3 {P : Program} {ops : Array Oper} {Q : Exit → Act → World → Prop} {S : World → Prop} {i j k fuel : Nat} {L : Array Bool} {a : Act} {w : World} (hr : Region.ready .any ops L = [i, j, k])
    (h1 : wpOp P ops Q i (fun a' w' => S w' ∧ wpAnyH P .any ops Q S fuel (L.setIfInBounds i true) a' w') a w)
    (h2 : wpOp P ops Q j (fun a' w' => S w' ∧ wpAnyH P .any ops Q S fuel (L.setIfInBounds j true) a' w') a w)
    (h3 : wpOp P ops Q k (fun a' w' => S w' ∧ wpAnyH P .any ops Q S fuel (L.setIfInBounds k true) a' w') a w) : wpAnyH P .any ops Q S (fuel + 1) L a w :=
  wpAnyH_all hr (by simp) (fun l hl => by
    rcases List.mem_cons.1 hl with e | hl
    · rw [e]; exact h1
    · rcases List.mem_cons.1 hl with e | hl
      · rw [e]; exact h2
      · have e' : l = k := by simpa using hl
        rw [e']; exact h3)
def nx9g0z (rb eb : Nat) (f : Int)  : List (Nat × Value) := [(0, .agg (eC ev0 nilS)), (1, .pointer (some ⟨rb, 0, none⟩)), (2, .pointer (some ⟨rb, 0, none⟩)), (3, .pointer (some ⟨rb, 9, none⟩)), (4, .int .i64 f)]
set_option maxHeartbeats 8000000 in
theorem nx9g0 (rb eb : Nat) (f : Int)  {x1 x3 x4 x5 x6 x7 x8 x9 x10 x11 x12 x13 x14 x15 x16 x17 x18 x19 x20 x21 x22 x23 x24 x25 x26 x27 x28 x29 x30 x31 x32 x33 x34 x35 x36 x37 x38 x39 x40 x41 x42 x43 x44 x45 x46 : Value} (w : World)  : Chn Try.prog (RofN Try.f14 9) (NS w rb eb f) (nx9g0z rb eb f ) (#[false, false, false, false, false, false, false, false] : Array Bool) (⟨#[.pointer (some ⟨rb, 0, none⟩), x1, .pointer (some ⟨eb, 0, none⟩), x3, x4, x5, x6, x7, x8, x9, x10, x11, x12, x13, x14, x15, x16, x17, x18, x19, x20, x21, x22, x23, x24, x25, x26, x27, x28, x29, x30, x31, x32, x33, x34, x35, x36, x37, x38, x39, x40, x41, x42, x43, x44, x45, x46], []⟩ : Act) :=
  ⟨⟨by kernel_rfl, by kernel_rfl, by kernel_rfl, by kernel_rfl, fun u h => by kernel_rfl⟩,
    ⟨by kernel_rfl, by kernel_rfl, by kernel_rfl, by kernel_rfl, fun u h => by kernel_rfl⟩,
    ⟨by kernel_rfl, by kernel_rfl, by kernel_rfl, by kernel_rfl, fun u h => by kernel_rfl⟩,
    ⟨by kernel_rfl, by kernel_rfl, by kernel_rfl, by kernel_rfl, fun u h => by kernel_rfl⟩,
    ⟨by kernel_rfl, by kernel_rfl, by kernel_rfl, by kernel_rfl, fun u h => ld_any 24 (.tmp 45) rb 9 (by kernel_rfl) (by kernel_rfl) (ldI (.inr rfl) h.c)⟩,
    trivial⟩
def nx9g1z (rb eb : Nat) (f : Int)  : List (Nat × Value) := [(6, .bool false), (7, .int .i64 f)]
set_option maxHeartbeats 8000000 in
theorem nx9g1 (rb eb : Nat) (f : Int)  {x1 x3 x4 x5 x6 x7 x8 x9 x10 x11 x12 x13 x14 x15 x16 x17 x18 x19 x20 x21 x22 x23 x24 x25 x26 x27 x28 x29 x30 x31 x32 x33 x34 x35 x36 x37 x38 x39 x40 x41 : Value} (w : World)  : Chn Try.prog (RofN Try.f14 9) (NS w rb eb f) (nx9g1z rb eb f ) (#[true, true, true, true, true, true, false, false] : Array Bool) (⟨#[.pointer (some ⟨rb, 0, none⟩), x1, .pointer (some ⟨eb, 0, none⟩), x3, x4, x5, x6, x7, x8, x9, x10, x11, x12, x13, x14, x15, x16, x17, x18, x19, x20, x21, x22, x23, x24, x25, x26, x27, x28, x29, x30, x31, x32, x33, x34, x35, x36, x37, x38, x39, x40, x41, .agg (eC ev0 nilS), .pointer (some ⟨rb, 0, none⟩), .pointer (some ⟨rb, 0, none⟩), .pointer (some ⟨rb, 9, none⟩), .int .i64 f], []⟩ : Act) :=
  ⟨⟨by kernel_rfl, by kernel_rfl, by kernel_rfl, by kernel_rfl, fun u h => by kernel_rfl⟩,
    ⟨by kernel_rfl, by kernel_rfl, by kernel_rfl, by kernel_rfl, fun u h => by kernel_rfl⟩,
    trivial⟩
set_option maxHeartbeats 16000000 in
theorem nx9_5 (rb eb : Nat) (f : Int)  {x1 x5 x6 x7 x8 x9 x10 x11 x12 x13 x14 x15 x16 x17 x18 x19 x20 x21 x22 x23 x24 x25 x26 x27 x28 x29 x30 x31 x32 x33 x34 x35 x36 x37 x38 x39 x40 x41 : Value} (w : World) (R : Exit → Act → World → Prop) (hQ : ∀ c a d v w, R (.panic c) (a.put d v) w → R (.panic c) a w) 
    (h : ∀ u, Keep (fun b => b = eb) w u → EB u eb ev0 nilS → R .normal (⟨#[.pointer (some ⟨rb, 0, none⟩), x1, .pointer (some ⟨eb, 0, none⟩), .bool false, .int .i64 f, x5, x6, x7, x8, x9, x10, x11, x12, x13, x14, x15, x16, x17, x18, x19, x20, x21, x22, x23, x24, x25, x26, x27, x28, x29, x30, x31, x32, x33, x34, x35, x36, x37, x38, x39, x40, x41, .agg (eC ev0 nilS), .pointer (some ⟨rb, 0, none⟩), .pointer (some ⟨rb, 0, none⟩), .pointer (some ⟨rb, 9, none⟩), .int .i64 f], []⟩ : Act) u) (u : World) (hS : (NS w rb eb f) u) (he1 : EB u eb ev0 nilS) :
    wpAnyH Try.prog .any (RofN Try.f14 9) R (NS w rb eb f) 0 (#[true, true, true, true, true, true, true, true] : Array Bool) (⟨#[.pointer (some ⟨rb, 0, none⟩), x1, .pointer (some ⟨eb, 0, none⟩), .bool false, .int .i64 f, x5, x6, x7, x8, x9, x10, x11, x12, x13, x14, x15, x16, x17, x18, x19, x20, x21, x22, x23, x24, x25, x26, x27, x28, x29, x30, x31, x32, x33, x34, x35, x36, x37, x38, x39, x40, x41, .agg (eC ev0 nilS), .pointer (some ⟨rb, 0, none⟩), .pointer (some ⟨rb, 0, none⟩), .pointer (some ⟨rb, 9, none⟩), .int .i64 f], []⟩ : Act) u := by
  refine wpAnyH_done (by kernel_rfl) ?_ _
  exact h u hS.k he1
set_option maxHeartbeats 16000000 in
theorem nx9_o (rb eb : Nat) (f : Int)  {x1 x3 x4 x5 x6 x7 x8 x9 x10 x11 x12 x13 x14 x15 x16 x17 x18 x19 x20 x21 x22 x23 x24 x25 x26 x27 x28 x29 x30 x31 x32 x33 x34 x35 x36 x37 x38 x39 x40 x41 : Value} (w : World) (R : Exit → Act → World → Prop) (hQ : ∀ c a d v w, R (.panic c) (a.put d v) w → R (.panic c) a w) 
    (h : ∀ u, Keep (fun b => b = eb) w u → EB u eb ev0 nilS → R .normal (⟨#[.pointer (some ⟨rb, 0, none⟩), x1, .pointer (some ⟨eb, 0, none⟩), .bool false, .int .i64 f, x5, x6, x7, x8, x9, x10, x11, x12, x13, x14, x15, x16, x17, x18, x19, x20, x21, x22, x23, x24, x25, x26, x27, x28, x29, x30, x31, x32, x33, x34, x35, x36, x37, x38, x39, x40, x41, .agg (eC ev0 nilS), .pointer (some ⟨rb, 0, none⟩), .pointer (some ⟨rb, 0, none⟩), .pointer (some ⟨rb, 9, none⟩), .int .i64 f], []⟩ : Act) u) (u : World) (hS : (NS w rb eb f) u)  :
    wpAnyH Try.prog .any (RofN Try.f14 9) R (NS w rb eb f) 3 (#[true, true, true, true, true, false, false, false] : Array Bool) (⟨#[.pointer (some ⟨rb, 0, none⟩), x1, .pointer (some ⟨eb, 0, none⟩), x3, x4, x5, x6, x7, x8, x9, x10, x11, x12, x13, x14, x15, x16, x17, x18, x19, x20, x21, x22, x23, x24, x25, x26, x27, x28, x29, x30, x31, x32, x33, x34, x35, x36, x37, x38, x39, x40, x41, .agg (eC ev0 nilS), .pointer (some ⟨rb, 0, none⟩), .pointer (some ⟨rb, 0, none⟩), .pointer (some ⟨rb, 9, none⟩), .int .i64 f], []⟩ : Act) u := by
  refine wpAnyH_one (i := 5) (by kernel_rfl) ?_
  obtain ⟨hev, hy, he0⟩ := hS.e
  have hc : (execOp (⟨#[.pointer (some ⟨rb, 0, none⟩), x1, .pointer (some ⟨eb, 0, none⟩), x3, x4, x5, x6, x7, x8, x9, x10, x11, x12, x13, x14, x15, x16, x17, x18, x19, x20, x21, x22, x23, x24, x25, x26, x27, x28, x29, x30, x31, x32, x33, x34, x35, x36, x37, x38, x39, x40, x41, .agg (eC ev0 nilS), .pointer (some ⟨rb, 0, none⟩), .pointer (some ⟨rb, 0, none⟩), .pointer (some ⟨rb, 9, none⟩), .int .i64 f], []⟩ : Act).eval (((RofN Try.f14 9)[5]?).getD default)).run Try.prog u = .ok .skip (u.setRow eb (eC ev0 nilS)) := st41w (.tmp 2) (.tmp 42) eb hev ev0 hy nilS (by kernel_rfl) (by kernel_rfl) (by kernel_rfl) he0
  refine wpOp_skip none (by kernel_rfl) (by kernel_rfl) (by kernel_rfl) hc ?_
  clear hc
  have hS1 : (NS w rb eb f) (u.setRow eb (eC ev0 nilS)) := hS.put ev0 nilS
  refine ⟨hS1, ?_⟩
  have e1 : (⟨#[.pointer (some ⟨rb, 0, none⟩), x1, .pointer (some ⟨eb, 0, none⟩), x3, x4, x5, x6, x7, x8, x9, x10, x11, x12, x13, x14, x15, x16, x17, x18, x19, x20, x21, x22, x23, x24, x25, x26, x27, x28, x29, x30, x31, x32, x33, x34, x35, x36, x37, x38, x39, x40, x41, .agg (eC ev0 nilS), .pointer (some ⟨rb, 0, none⟩), .pointer (some ⟨rb, 0, none⟩), .pointer (some ⟨rb, 9, none⟩), .int .i64 f], []⟩ : Act).put none undef = (⟨#[.pointer (some ⟨rb, 0, none⟩), x1, .pointer (some ⟨eb, 0, none⟩), x3, x4, x5, x6, x7, x8, x9, x10, x11, x12, x13, x14, x15, x16, x17, x18, x19, x20, x21, x22, x23, x24, x25, x26, x27, x28, x29, x30, x31, x32, x33, x34, x35, x36, x37, x38, x39, x40, x41, .agg (eC ev0 nilS), .pointer (some ⟨rb, 0, none⟩), .pointer (some ⟨rb, 0, none⟩), .pointer (some ⟨rb, 9, none⟩), .int .i64 f], []⟩ : Act) := by kernel_rfl
  have l1 : (#[true, true, true, true, true, false, false, false] : Array Bool).setIfInBounds 5 true = (#[true, true, true, true, true, true, false, false] : Array Bool) := by kernel_rfl
  rw [e1, l1]
  clear e1 l1
  refine chn_take (by kernel_rfl) hQ hS1 0 (nx9g1z rb eb f ) _ _ (nx9g1 rb eb f  w ) ?_
  have e0 : putL (RofN Try.f14 9) (nx9g1z rb eb f ) (⟨#[.pointer (some ⟨rb, 0, none⟩), x1, .pointer (some ⟨eb, 0, none⟩), x3, x4, x5, x6, x7, x8, x9, x10, x11, x12, x13, x14, x15, x16, x17, x18, x19, x20, x21, x22, x23, x24, x25, x26, x27, x28, x29, x30, x31, x32, x33, x34, x35, x36, x37, x38, x39, x40, x41, .agg (eC ev0 nilS), .pointer (some ⟨rb, 0, none⟩), .pointer (some ⟨rb, 0, none⟩), .pointer (some ⟨rb, 9, none⟩), .int .i64 f], []⟩ : Act) = (⟨#[.pointer (some ⟨rb, 0, none⟩), x1, .pointer (some ⟨eb, 0, none⟩), .bool false, .int .i64 f, x5, x6, x7, x8, x9, x10, x11, x12, x13, x14, x15, x16, x17, x18, x19, x20, x21, x22, x23, x24, x25, x26, x27, x28, x29, x30, x31, x32, x33, x34, x35, x36, x37, x38, x39, x40, x41, .agg (eC ev0 nilS), .pointer (some ⟨rb, 0, none⟩), .pointer (some ⟨rb, 0, none⟩), .pointer (some ⟨rb, 9, none⟩), .int .i64 f], []⟩ : Act) := by kernel_rfl
  have l0 : setL (nx9g1z rb eb f ) (#[true, true, true, true, true, true, false, false] : Array Bool) = (#[true, true, true, true, true, true, true, true] : Array Bool) := by kernel_rfl
  rw [e0, l0]
  clear e0 l0
  exact nx9_5 rb eb f  w R hQ  h (u.setRow eb (eC ev0 nilS)) hS1 (he0.put ev0 nilS)
set_option maxHeartbeats 16000000 in
theorem nx9 (rb eb : Nat) (f : Int) {x1 x3 x4 x5 x6 x7 x8 x9 x10 x11 x12 x13 x14 x15 x16 x17 x18 x19 x20 x21 x22 x23 x24 x25 x26 x27 x28 x29 x30 x31 x32 x33 x34 x35 x36 x37 x38 x39 x40 x41 x42 x43 x44 x45 x46 : Value} (w : World) (R : Exit → Act → World → Prop) (hQ : ∀ c a d v w, R (.panic c) (a.put d v) w → R (.panic c) a w)  (hS : (NS w rb eb f) w)
    (h : ∀ u, Keep (fun b => b = eb) w u → EB u eb ev0 nilS → R .normal (⟨#[.pointer (some ⟨rb, 0, none⟩), x1, .pointer (some ⟨eb, 0, none⟩), .bool false, .int .i64 f, x5, x6, x7, x8, x9, x10, x11, x12, x13, x14, x15, x16, x17, x18, x19, x20, x21, x22, x23, x24, x25, x26, x27, x28, x29, x30, x31, x32, x33, x34, x35, x36, x37, x38, x39, x40, x41, .agg (eC ev0 nilS), .pointer (some ⟨rb, 0, none⟩), .pointer (some ⟨rb, 0, none⟩), .pointer (some ⟨rb, 9, none⟩), .int .i64 f], []⟩ : Act) u) :
    (Code.region 9 (RofN Try.f14 9) true).wp Try.prog R (⟨#[.pointer (some ⟨rb, 0, none⟩), x1, .pointer (some ⟨eb, 0, none⟩), x3, x4, x5, x6, x7, x8, x9, x10, x11, x12, x13, x14, x15, x16, x17, x18, x19, x20, x21, x22, x23, x24, x25, x26, x27, x28, x29, x30, x31, x32, x33, x34, x35, x36, x37, x38, x39, x40, x41, x42, x43, x44, x45, x46], []⟩ : Act) w := by
  refine wp_region_held (S := (NS w rb eb f)) (by kernel_rfl) ?_
  have hsz : (RofN Try.f14 9).size = 8 := by kernel_rfl
  rw [hsz]
  have hS0 : (NS w rb eb f) w.drew := NS.q hS ((Q.refl w).drew)
  refine chn_take (by kernel_rfl) hQ hS0 3 (nx9g0z rb eb f ) _ _ (nx9g0 rb eb f  w ) ?_
  have e0 : putL (RofN Try.f14 9) (nx9g0z rb eb f ) (⟨#[.pointer (some ⟨rb, 0, none⟩), x1, .pointer (some ⟨eb, 0, none⟩), x3, x4, x5, x6, x7, x8, x9, x10, x11, x12, x13, x14, x15, x16, x17, x18, x19, x20, x21, x22, x23, x24, x25, x26, x27, x28, x29, x30, x31, x32, x33, x34, x35, x36, x37, x38, x39, x40, x41, x42, x43, x44, x45, x46], []⟩ : Act) = (⟨#[.pointer (some ⟨rb, 0, none⟩), x1, .pointer (some ⟨eb, 0, none⟩), x3, x4, x5, x6, x7, x8, x9, x10, x11, x12, x13, x14, x15, x16, x17, x18, x19, x20, x21, x22, x23, x24, x25, x26, x27, x28, x29, x30, x31, x32, x33, x34, x35, x36, x37, x38, x39, x40, x41, .agg (eC ev0 nilS), .pointer (some ⟨rb, 0, none⟩), .pointer (some ⟨rb, 0, none⟩), .pointer (some ⟨rb, 9, none⟩), .int .i64 f], []⟩ : Act) := by kernel_rfl
  have l0 : setL (nx9g0z rb eb f ) (Array.replicate 8 false) = (#[true, true, true, true, true, false, false, false] : Array Bool) := by kernel_rfl
  rw [e0, l0]
  clear e0 l0
  exact nx9_o rb eb f w R hQ  h _ hS0 
end Go.Proofs.Ytdlefmlienfjhaa
