/-
  The table of all codes as cells, and the drawn region of the inner codes, gone through by hand: one code is laid.
-/
import Derived.Test.YtehejibllkmflaaCls
namespace Go.Proofs.Ytehejibllkmflaa
open Go.RowKit
set_option linter.unusedVariables false
set_option maxRecDepth 100000

/-- The table's cells where the codes of the bytes in l are laid. -/
def cdT (l : List Int) : List Value := (List.range 512).map fun (j : Nat) => if ((j / 2 : Nat) : Int) ∈ l then (if j % 2 = 0 then .int .i64 (hc ((j / 2 : Nat) : Int)) else .int .i64 (hl ((j / 2 : Nat) : Int) : Nat)) else .int .i64 0
theorem info36 : (Try.prog.info? 143).map (fun i => (i.zero, i.size)) = some (some (.agg (cdT []).toArray), 512) := by kernel_rfl
theorem cdT_one (l : List Int) : (cdT l).toArray.all (·.oneCell') = true := by
  rw [List.all_toArray]
  refine List.all_eq_true.2 fun v hv => ?_
  obtain ⟨j, _, rfl⟩ := List.mem_map.1 hv
  split
  · split <;> rfl
  · rfl
theorem cdT_len (l : List Int) : (cdT l).length = 512 := by unfold cdT; rw [List.length_map, List.length_range]
theorem cdT_size (l : List Int) : (cdT l).toArray.size = 512 := by rw [List.size_toArray, cdT_len]
theorem cdT_get (l : List Int) (j : Nat) (hj : j < 512) : (cdT l)[j]? = some (if ((j / 2 : Nat) : Int) ∈ l then (if j % 2 = 0 then .int .i64 (hc ((j / 2 : Nat) : Int)) else .int .i64 (hl ((j / 2 : Nat) : Int) : Nat)) else .int .i64 0) := by
  unfold cdT
  rw [List.getElem?_map, List.getElem?_range hj]
  rfl
theorem cdT_set (l : List Int) (y : Nat) (hy : y < 256) : ((cdT l).set (y * 2) (.int .i64 (hc (y : Int)))).set (y * 2 + 1) (.int .i64 (hl (y : Int) : Nat)) = cdT (l ++ [(y : Int)]) := by
  apply List.ext_getElem?
  intro j
  by_cases hj : j < 512
  · rw [cdT_get _ j hj, List.getElem?_set, List.length_set, cdT_len, List.getElem?_set, cdT_len, cdT_get l j hj]
    by_cases h1 : y * 2 + 1 = j
    · subst h1
      rw [if_pos rfl, if_pos hj, show (y * 2 + 1) / 2 = y by omega, if_pos (by simp), if_neg (by omega)]
    · rw [if_neg h1]
      by_cases h2 : y * 2 = j
      · subst h2
        rw [if_pos rfl, if_pos hj, show y * 2 / 2 = y by omega, if_pos (by simp), if_pos (by omega)]
      · rw [if_neg h2]
        have hne : j / 2 ≠ y := by omega
        by_cases hm : ((j / 2 : Nat) : Int) ∈ l
        · rw [if_pos hm, if_pos (List.mem_append.2 (.inl hm))]
        · rw [if_neg hm, if_neg (fun h => (List.mem_append.1 h).elim hm (fun e => by have := List.mem_singleton.1 e; omega))]
  · rw [List.getElem?_eq_none (by rw [List.length_set, List.length_set, cdT_len]; omega), List.getElem?_eq_none (by rw [cdT_len]; omega)]
/-- All codes. -/
def cdA : List Value := cdT (hq5 ++ hq6 ++ hq7 ++ hq8 ++ hq15)
theorem all_in : (List.range 256).all (fun (x : Nat) => decide ((x : Int) ∈ hq5 ++ hq6 ++ hq7 ++ hq8 ++ hq15)) = true := by decide +kernel
theorem cdA_get (x : Nat) (hx : x < 256) : cdA[x * 2]? = some (.int .i64 (hc (x : Int))) ∧ cdA[x * 2 + 1]? = some (.int .i64 (hl (x : Int) : Nat)) := by
  have hm : (x : Int) ∈ hq5 ++ hq6 ++ hq7 ++ hq8 ++ hq15 := of_decide_eq_true (List.all_eq_true.1 all_in x (List.mem_range.2 hx))
  constructor
  · unfold cdA
    rw [cdT_get _ _ (by omega), show x * 2 / 2 = x by omega, if_pos hm, if_pos (by omega)]
  · unfold cdA
    rw [cdT_get _ _ (by omega), show (x * 2 + 1) / 2 = x by omega, if_pos hm, if_neg (by omega)]

theorem str_get {m : List Int} {i : Nat} {y : Nat} (h : m[i]? = some (y : Int)) (hy : y < 256) (k : IntKind) (W : World) : (Instr.index 9 (.string (strOfNums m)) (.int k (i : Int))).run Try.prog W = .ok (.int .u8 (y : Int)) W := by
  have hi : i < m.length := (List.getElem?_eq_some_iff.1 h).1
  have hs := str_len m
  have hb : 0 ≤ (i : Int) ∧ (i : Int) < ((strOfNums m).size : Nat) := by omega
  rw [run_index_string W 9 _ k _ (by kernel_rfl), dif_pos hb]
  have hx : m[i] = (y : Int) := by rw [List.getElem?_eq_getElem hi] at h; simpa using h
  have e : (strOfNums m)[(i : Int).toNat]'(by omega) = UInt8.ofNat m[i].toNat := by
    show (strOfNums m).data[(i : Int).toNat]'_ = _
    simp [strOfNums]
  rw [e, hx]
  simp
  omega
theorem ix_any {o : Oper} {a : Act} {w : World} {v : Value} (t : TypeId) (x y : Operand) {p q : Value} (ho : o.op = .index t x y) (hx : a.eval x = p) (hy : a.eval y = q) (hr : (Instr.index t p q).run Try.prog w = .ok v w) : (execOp a.eval o).run Try.prog w = .ok (.value v) w := by
  unfold execOp
  simp only [ho, hx, hy, Sem.run_bind, Sem.run_pure, Result.andThen_ok, hr]
theorem add_any {o : Oper} {a : Act} {w : World} {n : Int} (x y : Operand) (p q : Int) (ho : o.op = .binOp .add 3 x y 3) (hx : a.eval x = .int .i64 p) (hy : a.eval y = .int .i64 q) (hn : IntKind.i64.wrap (p + q) = n) : (execOp a.eval o).run Try.prog w = .ok (.value (.int .i64 n)) w := by
  unfold execOp
  simp only [ho, hx, hy]
  simp [go_sem, hn]

/-- What holds throughout. -/
structure SD (c : Nat) (b f : Int) (m : List Int) (u : World) : Prop where
  c0 : u.cell? ⟨c, 0, none⟩ = some (.int .i64 b)
  c1 : u.cell? ⟨c, 1, none⟩ = some (.int .i64 f)
  c2 : u.cell? ⟨c, 2, none⟩ = some (.string (strOfNums m))
theorem cell_set_blk {w : World} {g c i j : Nat} {u v : Value} (h : w.cell? ⟨c, i, none⟩ = some u) (hne : c ≠ g) : (w.setCell ⟨g, j, none⟩ v).cell? ⟨c, i, none⟩ = some u := by
  rw [World.cell?_setCell_other _ _ _ _ (by intro e; injection e; omega)]; exact h
theorem ld_str {w : World} {g p : Nat} {v : ByteArray} (h : w.cell? ⟨g, p, none⟩ = some (.string v)) : (loadVar 9 ⟨g, p, none⟩).run Try.prog w = .ok (.string v) w := by simp [loadVar, go_sem, h]
theorem ixa36 {o : Oper} {a : Act} {w : World} (x z : Operand) (g y : Nat) (hy : y < 256) (ho : o.op = .indexAddr 143 x z) (hx : a.eval x = .pointer (some ⟨g, 0, none⟩)) (hz : a.eval z = .int .u8 (y : Int)) : (execOp a.eval o).run Try.prog w = .ok (.value (.pointer (some ⟨g, y * 2, none⟩))) w := by
  have h0 : (0 : Int) ≤ (y : Int) := by omega
  have h1 : (y : Int) < 256 := by omega
  unfold execOp
  simp only [ho, hx, hz]
  simp [go_sem, h1]
theorem sv_code {w : World} {g p : Nat} {u v : Value} {n b : Int} (h0 : w.cell? ⟨g, p, none⟩ = some u) (h1 : w.cell? ⟨g, p + 1, none⟩ = some v) (hf : ∀ j, w.frozen? ⟨g, j, none⟩ = false) :
    (storeVar 142 ⟨g, p, none⟩ (.agg #[.int .i64 n, .int .i64 b])).run Try.prog w = .ok () ((w.setCell ⟨g, p, none⟩ (.int .i64 n)).setCell ⟨g, p + 1, none⟩ (.int .i64 b)) := by
  have h2 : (w.setCell ⟨g, p, none⟩ (.int .i64 n)).cell? ⟨g, p + 1, none⟩ = some v := cell_set_ne h1 (by omega)
  simp [storeVar, go_sem, h0, h2, hf]
def z8 (g c i y : Nat) (b f n : Int) (m : List Int) : List (Nat × Value) := [(0, .pointer (some ⟨c, 2, none⟩)), (1, .string (strOfNums m)), (2, .int .i64 (i : Int)), (3, .int .u8 (y : Int)), (4, .pointer (some ⟨c, 1, none⟩)), (5, .int .i64 f), (6, .int .i64 (i : Int)), (7, .int .i64 n), (8, .pointer (some ⟨c, 0, none⟩)), (9, .int .i64 b), (10, .agg #[.int .i64 n, .int .i64 b])]
set_option maxHeartbeats 4000000 in
theorem h8 (g c i y : Nat) (b f n : Int) (m : List Int) {x0 x2 x5 x6 x7 x8 x9 x10 x11 x12 x13 x14 x15 x16 x17 x18 x19 x20 x21 x22 x23 x24 x25 x26 x27 x28 x29 : Value} (hm : m[i]? = some (y : Int)) (hy : y < 256) (hn : IntKind.i64.wrap (f + (i : Int)) = n) : Chn Try.prog (RofN Try.f99 8) (SD c b f m) (z8 g c i y b f n m) (#[false, false, false, false, false, false, false, false, false, false, false, false, false] : Array Bool) (⟨#[x0, .pointer (some ⟨g, 0, none⟩), x2, .pointer (some ⟨c, 0, none⟩), .int .i64 (i : Int), x5, x6, x7, x8, x9, x10, x11, x12, x13, x14, x15, x16, x17, x18, x19, x20, x21, x22, x23, x24, x25, x26, x27, x28, x29], []⟩ : Act) :=
  ⟨⟨by kernel_rfl, by kernel_rfl, by kernel_rfl, by kernel_rfl, fun w h => by kernel_rfl⟩,
    ⟨by kernel_rfl, by kernel_rfl, by kernel_rfl, by kernel_rfl, fun w h => ld_any 9 (.tmp 15) c 2 (by kernel_rfl) (by kernel_rfl) (ld_str h.c2)⟩,
    ⟨by kernel_rfl, by kernel_rfl, by kernel_rfl, by kernel_rfl, fun w h => by kernel_rfl⟩,
    ⟨by kernel_rfl, by kernel_rfl, by kernel_rfl, by kernel_rfl, fun w h => ix_any 9 (.tmp 16) (.tmp 17) (by kernel_rfl) (by kernel_rfl) (by kernel_rfl) (str_get hm hy .i64 _)⟩,
    ⟨by kernel_rfl, by kernel_rfl, by kernel_rfl, by kernel_rfl, fun w h => by kernel_rfl⟩,
    ⟨by kernel_rfl, by kernel_rfl, by kernel_rfl, by kernel_rfl, fun w h => ld_any 3 (.tmp 19) c 1 (by kernel_rfl) (by kernel_rfl) (ld_int h.c1)⟩,
    ⟨by kernel_rfl, by kernel_rfl, by kernel_rfl, by kernel_rfl, fun w h => by kernel_rfl⟩,
    ⟨by kernel_rfl, by kernel_rfl, by kernel_rfl, by kernel_rfl, fun w h => add_any (.tmp 20) (.tmp 21) f (i : Int) (by kernel_rfl) (by kernel_rfl) (by kernel_rfl) hn⟩,
    ⟨by kernel_rfl, by kernel_rfl, by kernel_rfl, by kernel_rfl, fun w h => by kernel_rfl⟩,
    ⟨by kernel_rfl, by kernel_rfl, by kernel_rfl, by kernel_rfl, fun w h => ld_any 3 (.tmp 23) c 0 (by kernel_rfl) (by kernel_rfl) (ld_int h.c0)⟩,
    ⟨by kernel_rfl, by kernel_rfl, by kernel_rfl, by kernel_rfl, fun w h => by kernel_rfl⟩,
    trivial⟩
set_option maxHeartbeats 8000000 in
theorem rg8 (g c i y : Nat) (b f n : Int) (m : List Int) {x0 x2 x5 x6 x7 x8 x9 x10 x11 x12 x13 x14 x15 x16 x17 x18 x19 x20 x21 x22 x23 x24 x25 x26 x27 x28 x29 : Value} (w : World) (R : Exit → Act → World → Prop) (hQ : ∀ c a d v w, R (.panic c) (a.put d v) w → R (.panic c) a w) (hm : m[i]? = some (y : Int)) (hy : y < 256) (hn : IntKind.i64.wrap (f + (i : Int)) = n) (hS : (SD c b f m) w) (hgc : c ≠ g) {u v : Value} (h0 : w.cell? ⟨g, y * 2, none⟩ = some u) (h1 : w.cell? ⟨g, y * 2 + 1, none⟩ = some v) (hf : ∀ j, w.frozen? ⟨g, j, none⟩ = false)
    (h : R .normal (⟨#[x0, .pointer (some ⟨g, 0, none⟩), x2, .pointer (some ⟨c, 0, none⟩), .int .i64 (i : Int), x5, x6, x7, x8, x9, x10, x11, x12, x13, x14, .pointer (some ⟨c, 2, none⟩), .string (strOfNums m), .int .i64 (i : Int), .int .u8 (y : Int), .pointer (some ⟨c, 1, none⟩), .int .i64 f, .int .i64 (i : Int), .int .i64 n, .pointer (some ⟨c, 0, none⟩), .int .i64 b, .agg #[.int .i64 n, .int .i64 b], .pointer (some ⟨g, y * 2, none⟩), x27, x28, x29], []⟩ : Act) ((w.drew.setCell ⟨g, y * 2, none⟩ (.int .i64 n)).setCell ⟨g, y * 2 + 1, none⟩ (.int .i64 b))) :
    (Code.region 8 (RofN Try.f99 8) true).wp Try.prog R (⟨#[x0, .pointer (some ⟨g, 0, none⟩), x2, .pointer (some ⟨c, 0, none⟩), .int .i64 (i : Int), x5, x6, x7, x8, x9, x10, x11, x12, x13, x14, x15, x16, x17, x18, x19, x20, x21, x22, x23, x24, x25, x26, x27, x28, x29], []⟩ : Act) w := by
  refine wp_region_held (S := (SD c b f m)) (by kernel_rfl) ?_
  have hsz : (RofN Try.f99 8).size = 13 := by kernel_rfl
  rw [hsz]
  have hS0 : (SD c b f m) w.drew := ⟨hS.c0, hS.c1, hS.c2⟩
  refine chn_take (by kernel_rfl) hQ hS0 2 (z8 g c i y b f n m) _ _ (h8 g c i y b f n m hm hy hn) ?_
  have e0 : putL (RofN Try.f99 8) (z8 g c i y b f n m) (⟨#[x0, .pointer (some ⟨g, 0, none⟩), x2, .pointer (some ⟨c, 0, none⟩), .int .i64 (i : Int), x5, x6, x7, x8, x9, x10, x11, x12, x13, x14, x15, x16, x17, x18, x19, x20, x21, x22, x23, x24, x25, x26, x27, x28, x29], []⟩ : Act) = (⟨#[x0, .pointer (some ⟨g, 0, none⟩), x2, .pointer (some ⟨c, 0, none⟩), .int .i64 (i : Int), x5, x6, x7, x8, x9, x10, x11, x12, x13, x14, .pointer (some ⟨c, 2, none⟩), .string (strOfNums m), .int .i64 (i : Int), .int .u8 (y : Int), .pointer (some ⟨c, 1, none⟩), .int .i64 f, .int .i64 (i : Int), .int .i64 n, .pointer (some ⟨c, 0, none⟩), .int .i64 b, .agg #[.int .i64 n, .int .i64 b], x26, x27, x28, x29], []⟩ : Act) := by kernel_rfl
  have l0 : setL (z8 g c i y b f n m) (Array.replicate 13 false) = (#[true, true, true, true, true, true, true, true, true, true, true, false, false] : Array Bool) := by kernel_rfl
  rw [e0, l0]
  clear e0 l0
  have hc := ixa36 (o := ((RofN Try.f99 8)[11]?).getD default) (a := (⟨#[x0, .pointer (some ⟨g, 0, none⟩), x2, .pointer (some ⟨c, 0, none⟩), .int .i64 (i : Int), x5, x6, x7, x8, x9, x10, x11, x12, x13, x14, .pointer (some ⟨c, 2, none⟩), .string (strOfNums m), .int .i64 (i : Int), .int .u8 (y : Int), .pointer (some ⟨c, 1, none⟩), .int .i64 f, .int .i64 (i : Int), .int .i64 n, .pointer (some ⟨c, 0, none⟩), .int .i64 b, .agg #[.int .i64 n, .int .i64 b], x26, x27, x28, x29], []⟩ : Act)) (w := w.drew) (.tmp 1) (.tmp 18) g y hy (by kernel_rfl) (by kernel_rfl) (by kernel_rfl)
  refine wpAnyH_one (i := 11) (by kernel_rfl) ?_
  refine wpOp_val (some 26) (by kernel_rfl) (by kernel_rfl) (by kernel_rfl) hc ?_
  clear hc
  refine ⟨hS0, ?_⟩
  have e0 : (⟨#[x0, .pointer (some ⟨g, 0, none⟩), x2, .pointer (some ⟨c, 0, none⟩), .int .i64 (i : Int), x5, x6, x7, x8, x9, x10, x11, x12, x13, x14, .pointer (some ⟨c, 2, none⟩), .string (strOfNums m), .int .i64 (i : Int), .int .u8 (y : Int), .pointer (some ⟨c, 1, none⟩), .int .i64 f, .int .i64 (i : Int), .int .i64 n, .pointer (some ⟨c, 0, none⟩), .int .i64 b, .agg #[.int .i64 n, .int .i64 b], x26, x27, x28, x29], []⟩ : Act).put (some 26) (.pointer (some ⟨g, y * 2, none⟩)) = (⟨#[x0, .pointer (some ⟨g, 0, none⟩), x2, .pointer (some ⟨c, 0, none⟩), .int .i64 (i : Int), x5, x6, x7, x8, x9, x10, x11, x12, x13, x14, .pointer (some ⟨c, 2, none⟩), .string (strOfNums m), .int .i64 (i : Int), .int .u8 (y : Int), .pointer (some ⟨c, 1, none⟩), .int .i64 f, .int .i64 (i : Int), .int .i64 n, .pointer (some ⟨c, 0, none⟩), .int .i64 b, .agg #[.int .i64 n, .int .i64 b], .pointer (some ⟨g, y * 2, none⟩), x27, x28, x29], []⟩ : Act) := by kernel_rfl
  have l0 : (#[true, true, true, true, true, true, true, true, true, true, true, false, false] : Array Bool).setIfInBounds 11 true = (#[true, true, true, true, true, true, true, true, true, true, true, true, false] : Array Bool) := by kernel_rfl
  rw [e0, l0]
  clear e0 l0
  have hc := st_any (o := ((RofN Try.f99 8)[12]?).getD default) (a := (⟨#[x0, .pointer (some ⟨g, 0, none⟩), x2, .pointer (some ⟨c, 0, none⟩), .int .i64 (i : Int), x5, x6, x7, x8, x9, x10, x11, x12, x13, x14, .pointer (some ⟨c, 2, none⟩), .string (strOfNums m), .int .i64 (i : Int), .int .u8 (y : Int), .pointer (some ⟨c, 1, none⟩), .int .i64 f, .int .i64 (i : Int), .int .i64 n, .pointer (some ⟨c, 0, none⟩), .int .i64 b, .agg #[.int .i64 n, .int .i64 b], .pointer (some ⟨g, y * 2, none⟩), x27, x28, x29], []⟩ : Act)) (w := w.drew) 142 (.tmp 26) (.tmp 25) g (y * 2) (by kernel_rfl) (by kernel_rfl) (by kernel_rfl) (sv_code (n := n) (b := b) h0 h1 hf)
  refine wpAnyH_one (i := 12) (by kernel_rfl) ?_
  refine wpOp_skip none (by kernel_rfl) (by kernel_rfl) (by kernel_rfl) hc ?_
  clear hc
  refine ⟨?_, ?_⟩
  · refine ⟨?_, ?_, ?_⟩
    · exact cell_set_blk (cell_set_blk hS0.c0 hgc) hgc
    · exact cell_set_blk (cell_set_blk hS0.c1 hgc) hgc
    · exact cell_set_blk (cell_set_blk hS0.c2 hgc) hgc
  have e0 : (⟨#[x0, .pointer (some ⟨g, 0, none⟩), x2, .pointer (some ⟨c, 0, none⟩), .int .i64 (i : Int), x5, x6, x7, x8, x9, x10, x11, x12, x13, x14, .pointer (some ⟨c, 2, none⟩), .string (strOfNums m), .int .i64 (i : Int), .int .u8 (y : Int), .pointer (some ⟨c, 1, none⟩), .int .i64 f, .int .i64 (i : Int), .int .i64 n, .pointer (some ⟨c, 0, none⟩), .int .i64 b, .agg #[.int .i64 n, .int .i64 b], .pointer (some ⟨g, y * 2, none⟩), x27, x28, x29], []⟩ : Act).put none undef = (⟨#[x0, .pointer (some ⟨g, 0, none⟩), x2, .pointer (some ⟨c, 0, none⟩), .int .i64 (i : Int), x5, x6, x7, x8, x9, x10, x11, x12, x13, x14, .pointer (some ⟨c, 2, none⟩), .string (strOfNums m), .int .i64 (i : Int), .int .u8 (y : Int), .pointer (some ⟨c, 1, none⟩), .int .i64 f, .int .i64 (i : Int), .int .i64 n, .pointer (some ⟨c, 0, none⟩), .int .i64 b, .agg #[.int .i64 n, .int .i64 b], .pointer (some ⟨g, y * 2, none⟩), x27, x28, x29], []⟩ : Act) := by kernel_rfl
  have l0 : (#[true, true, true, true, true, true, true, true, true, true, true, true, false] : Array Bool).setIfInBounds 12 true = (#[true, true, true, true, true, true, true, true, true, true, true, true, true] : Array Bool) := by kernel_rfl
  rw [e0, l0]
  clear e0 l0
  refine wpAnyH_done (by kernel_rfl) ?_ _
  exact h
end Go.Proofs.Ytehejibllkmflaa
