/-
  A reading: its bytes and its place in memory; first, number, text: contracts that the statements' walks use.
-/
import Derived.Test.YtehejibllkmflaaRTb
namespace Go.Proofs.Ytehejibllkmflaa
open Go.RowKit
set_option linter.unusedVariables false
set_option maxRecDepth 20000

/-- A reading in memory. -/
structure Rg (w : World) (rb : Nat) (x : Sv) (zs : List Int) (p : Nat) : Prop where
  b : w.heap[rb]? = some (.cells #[.slice x.a x.n x.c, .int .i64 (p : Int)] 80 (0, 0))
  s : Seg w x.a zs
  l : zs.length = x.n
  c : x.n ≤ x.c
  z : ∀ y ∈ zs, 0 ≤ y ∧ y < 256
  n : x.n ≤ 140737488355328
  d : ∀ b, blk x.a = some b → b ≠ rb
  pl : p ≤ zs.length
theorem Rg.keep {F : Nat → Prop} {w w' : World} {rb : Nat} {x : Sv} {zs : List Int} {p : Nat} (h : Rg w rb x zs p) (k : Keep F w w') (h1 : ¬ F rb) (h2 : ∀ b, blk x.a = some b → ¬ F b) : Rg w' rb x zs p :=
  ⟨(k.block rb (lt_of_block h.b) h1).trans h.b, h.s.keep k h2, h.l, h.c, h.z, h.n, h.d, h.pl⟩
theorem Rg.q {w w' : World} {rb : Nat} {x : Sv} {zs : List Int} {p : Nat} (h : Rg w rb x zs p) (k : Q w w') : Rg w' rb x zs p := h.keep (Keep.ofQ (F := fun _ => False) k) id (fun _ _ => id)
theorem Rg.c0 {w : World} {rb : Nat} {x : Sv} {zs : List Int} {p : Nat} (h : Rg w rb x zs p) : w.cell? ⟨rb, 0, none⟩ = some (.slice x.a x.n x.c) := by rw [cell_of_row w _ 0 _ 80 (0, 0) h.b]; rfl
theorem Rg.c1 {w : World} {rb : Nat} {x : Sv} {zs : List Int} {p : Nat} (h : Rg w rb x zs p) : w.cell? ⟨rb, 1, none⟩ = some (.int .i64 (p : Int)) := by rw [cell_of_row w _ 1 _ 80 (0, 0) h.b]; rfl
theorem Rg.go {w : World} {rb : Nat} {x : Sv} {zs : List Int} {p : Nat} (h : Rg w rb x zs p) (q : Nat) (hq : q ≤ zs.length) : Rg (w.setCell ⟨rb, 1, none⟩ (.int .i64 (q : Int))) rb x zs q :=
  ⟨heap_setCell_same w _ 1 _ 80 _ h.b, h.s.keep ((Keep.refl (fun b => b = rb) w).setCell rb 1 _ (.inl rfl)) (fun b e => h.d b e), h.l, h.c, h.z, h.n, h.d, hq⟩
/-- A reading's outcome: a value and the place behind it, or an error. -/
inductive Out (α : Type) where
  | ok (a : α) (q : Nat)
  | bad (e : Int)
def numO (zs : List Int) (p : Nat) (b : Int) : Out Int := if (pgA zs p b).2.2 = 12 then .bad 12 else if (pgA zs p b).2.2 ≠ 0 then .bad 163 else .ok (pgA zs p b).1 (pgA zs p b).2.1
def txtO (zs : List Int) (p : Nat) (b : Int) : Out ByteArray := if (gtB zs p b).2.2 = 12 then .bad 12 else if (gtB zs p b).2.2 ≠ 0 then .bad 163 else .ok (strOfNums (gtB zs p b).1) (gtB zs p b).2.1
def refP (x : Int) : PanicEntry := { v := .iface 33 (.int .i64 x), recovered := false }
theorem refuse_ok (x : Int) (w : World) : Calls Try.prog 39 #[.bool false, .int .i64 x] w fun e w' => e = .returned (.tuple #[]) ∧ w = w' := by
  go_enter Try.func39, Try.ntmps39
  go_wp2
  go_end0
  exact ⟨rfl, rfl⟩
theorem refuse_no (x : Int) (w : World) : Calls Try.prog 39 #[.bool true, .int .i64 x] w fun e w' => e = .panicked [refP x] ∧ w = w' := by
  go_enter Try.func39, Try.ntmps39
  go_wp2
  exact ⟨rfl, rfl, rfl⟩
theorem ended_any (rb : Nat) (x : Sv) (zs : List Int) (p : Nat) (w : World) (h : Rg w rb x zs p) : Calls Try.prog 31 #[.pointer (some ⟨rb, 0, none⟩)] w fun e w' => e = .returned (.bool (decide (p = zs.length))) ∧ Q w w' := by
  have c0 := h.c0
  have c1 := h.c1
  have hd : ((p : Int) == (x.n : Int)) = decide (p = zs.length) := by rw [h.l]; by_cases e : p = x.n <;> simp [e]; omega
  obtain ⟨xa, xn, xc⟩ := x
  dsimp only at *
  generalize decide (p = zs.length) = b at *
  clear h
  go_enter Try.func31, Try.ntmps31
  go_wp2
  go_quiet (fail)
  go_wp2
  go_ret
  exact ⟨by first | rfl | rw [hd], (Q.refl w).drewN _⟩
set_option maxHeartbeats 1000000 in
theorem first_ok (rb : Nat) (x : Sv) (zs : List Int) (p y : Nat) (w : World) (h : Rg w rb x zs p) (hy : zs[p]? = some (y : Int)) : Calls Try.prog 34 #[.pointer (some ⟨rb, 0, none⟩)] w fun e w' => e = .returned (.int .u8 (y : Int)) ∧ Q w w' := by
  have hp : p < zs.length := (List.getElem?_eq_some_iff.1 hy).1
  have HE := hid (ended_any rb x zs p w h)
  rw [decide_eq_false (by omega : ¬ p = zs.length)] at HE
  have HR := hid (fun u => refuse_ok 12 u)
  have HG := hid h
  have hpn : (p : Int) < (x.n : Int) := by have := h.l; omega
  have hp0 : (0 : Int) ≤ (p : Int) := by omega
  clear h
  go_enter Try.func34, Try.ntmps34
  go_wp2_with (first | (go_at_call 31; refine HE.out.mono ?_; rintro e w1 ⟨rfl, q1⟩) | (go_at_call 39; refine (HR.out _).mono ?_; rintro e w2 ⟨rfl, rfl⟩; refine Hid.out ?_))
  refine hid ?_
  have h1 := HG.out.q q1
  have c0 := h1.c0
  have c1 := h1.c1
  obtain ⟨g, o, hxa, hcc⟩ := h1.s (by intro e; rw [e] at hp; simp at hp)
  have hc := hcc p hp
  rw [List.getD_eq_getElem?_getD, hy, Option.getD_some] at hc
  have Q1 := hid q1
  clear h1 hcc q1 HE HG hy hp
  obtain ⟨xa, xn, xc⟩ := x
  dsimp only at *
  subst hxa
  go_wp2
  go_quiet (fail)
  go_wp2
  go_ret
  exact ⟨rfl, Q1.out.drewN _⟩
theorem first_bad (rb : Nat) (x : Sv) (zs : List Int) (w : World) (h : Rg w rb x zs zs.length) : Calls Try.prog 34 #[.pointer (some ⟨rb, 0, none⟩)] w fun e w' => e = .panicked [refP 12] ∧ Q w w' := by
  have HE := hid (ended_any rb x zs zs.length w h)
  rw [decide_eq_true rfl] at HE
  have HR := hid (fun u => refuse_no 12 u)
  clear h
  go_enter Try.func34, Try.ntmps34
  go_wp2_with (first | (go_at_call 31; refine HE.out.mono ?_; rintro e w1 ⟨rfl, q1⟩) | (go_at_call 39; refine (HR.out _).mono ?_; rintro e w2 ⟨rfl, rfl⟩; refine Hid.out ?_))
  refine hid ?_
  exact ⟨rfl, rfl, q1⟩
theorem goTo_ok (rb : Nat) (x : Sv) (zs : List Int) (p q : Nat) (w : World) (h : Rg w rb x zs p) (hq : q ≤ zs.length) : Calls Try.prog 56 #[.pointer (some ⟨rb, 0, none⟩), .int .i64 (q : Int), .int .i64 0] w fun e w' => e = .returned (.tuple #[]) ∧ Rg w' rb x zs q ∧ Keep (fun b => b = rb) w w' := by
  have HR := hid (fun x u => refuse_ok x u)
  have HG := hid (h.go q hq)
  have HK := hid ((Keep.refl (fun b => b = rb) w).setCell rb 1 (.int .i64 (q : Int)) (.inl rfl))
  have c1 := h.c1
  have f1 : w.frozen? ⟨rb, 1, none⟩ = false := frozen_of_row w _ 1 _ 80 h.b
  clear h
  go_enter Try.func56, Try.ntmps56
  go_wp2_with (go_at_call 39; refine (HR.out _ _).mono ?_; rintro e w1 ⟨rfl, rfl⟩)
  go_end0
  exact ⟨rfl, HG.out, HK.out⟩
theorem goTo_12 (rb : Nat) (q : Int) (w : World) : Calls Try.prog 56 #[.pointer (some ⟨rb, 0, none⟩), .int .i64 q, .int .i64 12] w fun e w' => e = .panicked [refP 12] ∧ w = w' := by
  have HR := hid (fun x u => refuse_no x u)
  go_enter Try.func56, Try.ntmps56
  go_wp2_with (go_at_call 39; refine (HR.out _ _).mono ?_; rintro e w1 ⟨rfl, rfl⟩)
  exact ⟨rfl, rfl, rfl⟩
set_option maxHeartbeats 2000000 in
theorem goTo_bad (rb : Nat) (q y : Int) (w : World) (h0 : y ≠ 0) (h12 : y ≠ 12) : Calls Try.prog 56 #[.pointer (some ⟨rb, 0, none⟩), .int .i64 q, .int .i64 y] w fun e w' => e = .panicked [refP 163] ∧ w = w' := by
  have HO := hid (fun x u => refuse_ok x u)
  have HR := hid (fun x u => refuse_no x u)
  have e1 : (y == 12) = false := by simp [h12]
  have e2 : (y != 0) = true := by simp [h0]
  have e3 : (y == 0) = false := by simp [h0]
  go_enter Try.func56, Try.ntmps56
  go_wp2_with (first | (go_at_call 39; refine (HO.out _ _).mono ?_; rintro e w1 ⟨rfl, rfl⟩; clear HO) | (go_at_call 39; refine (HR.out _ _).mono ?_; rintro e w1 ⟨rfl, rfl⟩))
  exact ⟨rfl, rfl, rfl⟩
theorem ldS {w : World} {g p : Nat} {a : Option Addr} {n c : Nat} (h : w.cell? ⟨g, p, none⟩ = some (.slice a n c)) : (loadVar 30 ⟨g, p, none⟩).run Try.prog w = .ok (.slice a n c) w := by simp [loadVar, go_sem, h]
set_option maxHeartbeats 16000000 in
theorem nm1c (rb : Nat) (xa : Option Addr) (xn xc : Nat) (zs : List Int) (p : Nat) (b : Int) (n : Int) (q : Nat) (y : Int) {x2 x3 x4 x5 x6 x7 x8 x9 x10 x11 x12 x13 x14 x15 x16 x17 x18 x19 x20 x21 x22 x23 x24 x25 x26 : Value} {w : World} (h1 : Rg w rb ⟨xa, xn, xc⟩ zs p) (HC : ∀ u, Q w u → Calls Try.prog 58 #[.slice xa xn xc, .int .i64 (p : Int), .int .i64 b] u fun e u' => e = .returned (.tuple #[.int .i64 n, .int .i64 (q : Int), .int .i64 y]) ∧ Q w u') : QChn Try.prog (RofN Try.f38 1) (fun u => Q w u) 0 [some (.pointer (some ⟨rb, 0, none⟩)), some (.pointer (some ⟨rb, 0, none⟩)), some (.pointer (some ⟨rb, 0, none⟩)), some (.slice xa xn xc), some (.pointer (some ⟨rb, 0, none⟩)), some (.pointer (some ⟨rb, 0, none⟩)), some (.pointer (some ⟨rb, 1, none⟩)), some (.int .i64 (p : Int)), some (.int .i64 b), some (.tuple #[.int .i64 n, .int .i64 (q : Int), .int .i64 y]), some (.tuple #[.int .i64 n, .int .i64 (q : Int), .int .i64 y]), some (.int .i64 n), some (.int .i64 (q : Int)), some (.int .i64 y), some (.int .i64 n), some (.int .i64 (q : Int)), some (.int .i64 y)] (⟨#[.pointer (some ⟨rb, 0, none⟩), .int .i64 b, x2, x3, x4, x5, x6, x7, x8, x9, x10, x11, x12, x13, x14, x15, x16, x17, x18, x19, x20, x21, x22, x23, x24, x25, x26], []⟩ : Act) := by
  refine qchn_step (b := (⟨#[.pointer (some ⟨rb, 0, none⟩), .int .i64 b, x2, x3, x4, x5, x6, x7, x8, .pointer (some ⟨rb, 0, none⟩), x10, x11, x12, x13, x14, x15, x16, x17, x18, x19, x20, x21, x22, x23, x24, x25, x26], []⟩ : Act)) (by kernel_rfl) (fun u hu => qv (by kernel_rfl)) (by kernel_rfl) ?_
  refine qchn_step (b := (⟨#[.pointer (some ⟨rb, 0, none⟩), .int .i64 b, x2, x3, x4, x5, x6, x7, x8, .pointer (some ⟨rb, 0, none⟩), .pointer (some ⟨rb, 0, none⟩), x11, x12, x13, x14, x15, x16, x17, x18, x19, x20, x21, x22, x23, x24, x25, x26], []⟩ : Act)) (by kernel_rfl) (fun u hu => qv (by kernel_rfl)) (by kernel_rfl) ?_
  refine qchn_step (b := (⟨#[.pointer (some ⟨rb, 0, none⟩), .int .i64 b, x2, x3, x4, x5, x6, x7, x8, .pointer (some ⟨rb, 0, none⟩), .pointer (some ⟨rb, 0, none⟩), .pointer (some ⟨rb, 0, none⟩), x12, x13, x14, x15, x16, x17, x18, x19, x20, x21, x22, x23, x24, x25, x26], []⟩ : Act)) (by kernel_rfl) (fun u hu => qv (by kernel_rfl)) (by kernel_rfl) ?_
  refine qchn_step (b := (⟨#[.pointer (some ⟨rb, 0, none⟩), .int .i64 b, x2, x3, x4, x5, x6, x7, x8, .pointer (some ⟨rb, 0, none⟩), .pointer (some ⟨rb, 0, none⟩), .pointer (some ⟨rb, 0, none⟩), .slice xa xn xc, x13, x14, x15, x16, x17, x18, x19, x20, x21, x22, x23, x24, x25, x26], []⟩ : Act)) (by kernel_rfl) (fun u hu => qv (ld_any 30 (.tmp 11) rb 0 (by kernel_rfl) (by kernel_rfl) (ldS ((h1.q hu).c0)))) (by kernel_rfl) ?_
  refine qchn_step (b := (⟨#[.pointer (some ⟨rb, 0, none⟩), .int .i64 b, x2, x3, x4, x5, x6, x7, x8, .pointer (some ⟨rb, 0, none⟩), .pointer (some ⟨rb, 0, none⟩), .pointer (some ⟨rb, 0, none⟩), .slice xa xn xc, .pointer (some ⟨rb, 0, none⟩), x14, x15, x16, x17, x18, x19, x20, x21, x22, x23, x24, x25, x26], []⟩ : Act)) (by kernel_rfl) (fun u hu => qv (by kernel_rfl)) (by kernel_rfl) ?_
  refine qchn_step (b := (⟨#[.pointer (some ⟨rb, 0, none⟩), .int .i64 b, x2, x3, x4, x5, x6, x7, x8, .pointer (some ⟨rb, 0, none⟩), .pointer (some ⟨rb, 0, none⟩), .pointer (some ⟨rb, 0, none⟩), .slice xa xn xc, .pointer (some ⟨rb, 0, none⟩), .pointer (some ⟨rb, 0, none⟩), x15, x16, x17, x18, x19, x20, x21, x22, x23, x24, x25, x26], []⟩ : Act)) (by kernel_rfl) (fun u hu => qv (by kernel_rfl)) (by kernel_rfl) ?_
  refine qchn_step (b := (⟨#[.pointer (some ⟨rb, 0, none⟩), .int .i64 b, x2, x3, x4, x5, x6, x7, x8, .pointer (some ⟨rb, 0, none⟩), .pointer (some ⟨rb, 0, none⟩), .pointer (some ⟨rb, 0, none⟩), .slice xa xn xc, .pointer (some ⟨rb, 0, none⟩), .pointer (some ⟨rb, 0, none⟩), .pointer (some ⟨rb, 1, none⟩), x16, x17, x18, x19, x20, x21, x22, x23, x24, x25, x26], []⟩ : Act)) (by kernel_rfl) (fun u hu => qv (by kernel_rfl)) (by kernel_rfl) ?_
  refine qchn_step (b := (⟨#[.pointer (some ⟨rb, 0, none⟩), .int .i64 b, x2, x3, x4, x5, x6, x7, x8, .pointer (some ⟨rb, 0, none⟩), .pointer (some ⟨rb, 0, none⟩), .pointer (some ⟨rb, 0, none⟩), .slice xa xn xc, .pointer (some ⟨rb, 0, none⟩), .pointer (some ⟨rb, 0, none⟩), .pointer (some ⟨rb, 1, none⟩), .int .i64 (p : Int), x17, x18, x19, x20, x21, x22, x23, x24, x25, x26], []⟩ : Act)) (by kernel_rfl) (fun u hu => qv (ld_any 3 (.tmp 15) rb 1 (by kernel_rfl) (by kernel_rfl) (ldI ((h1.q hu).c1)))) (by kernel_rfl) ?_
  refine qchn_step (b := (⟨#[.pointer (some ⟨rb, 0, none⟩), .int .i64 b, x2, x3, x4, x5, x6, x7, x8, .pointer (some ⟨rb, 0, none⟩), .pointer (some ⟨rb, 0, none⟩), .pointer (some ⟨rb, 0, none⟩), .slice xa xn xc, .pointer (some ⟨rb, 0, none⟩), .pointer (some ⟨rb, 0, none⟩), .pointer (some ⟨rb, 1, none⟩), .int .i64 (p : Int), .int .i64 b, x18, x19, x20, x21, x22, x23, x24, x25, x26], []⟩ : Act)) (by kernel_rfl) (fun u hu => qv (by kernel_rfl)) (by kernel_rfl) ?_
  refine qchn_step (b := (⟨#[.pointer (some ⟨rb, 0, none⟩), .int .i64 b, x2, x3, x4, x5, x6, x7, x8, .pointer (some ⟨rb, 0, none⟩), .pointer (some ⟨rb, 0, none⟩), .pointer (some ⟨rb, 0, none⟩), .slice xa xn xc, .pointer (some ⟨rb, 0, none⟩), .pointer (some ⟨rb, 0, none⟩), .pointer (some ⟨rb, 1, none⟩), .int .i64 (p : Int), .int .i64 b, .tuple #[.int .i64 n, .int .i64 (q : Int), .int .i64 y], x19, x20, x21, x22, x23, x24, x25, x26], []⟩ : Act)) (by kernel_rfl) (fun u hu => qc 58 #[.slice xa xn xc, .int .i64 (p : Int), .int .i64 b] (by kernel_rfl) (HC u hu)) (by kernel_rfl) ?_
  refine qchn_step (b := (⟨#[.pointer (some ⟨rb, 0, none⟩), .int .i64 b, x2, x3, x4, x5, x6, x7, .tuple #[.int .i64 n, .int .i64 (q : Int), .int .i64 y], .pointer (some ⟨rb, 0, none⟩), .pointer (some ⟨rb, 0, none⟩), .pointer (some ⟨rb, 0, none⟩), .slice xa xn xc, .pointer (some ⟨rb, 0, none⟩), .pointer (some ⟨rb, 0, none⟩), .pointer (some ⟨rb, 1, none⟩), .int .i64 (p : Int), .int .i64 b, .tuple #[.int .i64 n, .int .i64 (q : Int), .int .i64 y], x19, x20, x21, x22, x23, x24, x25, x26], []⟩ : Act)) (by kernel_rfl) (fun u hu => qv (by kernel_rfl)) (by kernel_rfl) ?_
  refine qchn_step (b := (⟨#[.pointer (some ⟨rb, 0, none⟩), .int .i64 b, x2, x3, x4, x5, x6, x7, .tuple #[.int .i64 n, .int .i64 (q : Int), .int .i64 y], .pointer (some ⟨rb, 0, none⟩), .pointer (some ⟨rb, 0, none⟩), .pointer (some ⟨rb, 0, none⟩), .slice xa xn xc, .pointer (some ⟨rb, 0, none⟩), .pointer (some ⟨rb, 0, none⟩), .pointer (some ⟨rb, 1, none⟩), .int .i64 (p : Int), .int .i64 b, .tuple #[.int .i64 n, .int .i64 (q : Int), .int .i64 y], .int .i64 n, x20, x21, x22, x23, x24, x25, x26], []⟩ : Act)) (by kernel_rfl) (fun u hu => qv (by kernel_rfl)) (by kernel_rfl) ?_
  refine qchn_step (b := (⟨#[.pointer (some ⟨rb, 0, none⟩), .int .i64 b, x2, x3, x4, x5, x6, x7, .tuple #[.int .i64 n, .int .i64 (q : Int), .int .i64 y], .pointer (some ⟨rb, 0, none⟩), .pointer (some ⟨rb, 0, none⟩), .pointer (some ⟨rb, 0, none⟩), .slice xa xn xc, .pointer (some ⟨rb, 0, none⟩), .pointer (some ⟨rb, 0, none⟩), .pointer (some ⟨rb, 1, none⟩), .int .i64 (p : Int), .int .i64 b, .tuple #[.int .i64 n, .int .i64 (q : Int), .int .i64 y], .int .i64 n, .int .i64 (q : Int), x21, x22, x23, x24, x25, x26], []⟩ : Act)) (by kernel_rfl) (fun u hu => qv (by kernel_rfl)) (by kernel_rfl) ?_
  refine qchn_step (b := (⟨#[.pointer (some ⟨rb, 0, none⟩), .int .i64 b, x2, x3, x4, x5, x6, x7, .tuple #[.int .i64 n, .int .i64 (q : Int), .int .i64 y], .pointer (some ⟨rb, 0, none⟩), .pointer (some ⟨rb, 0, none⟩), .pointer (some ⟨rb, 0, none⟩), .slice xa xn xc, .pointer (some ⟨rb, 0, none⟩), .pointer (some ⟨rb, 0, none⟩), .pointer (some ⟨rb, 1, none⟩), .int .i64 (p : Int), .int .i64 b, .tuple #[.int .i64 n, .int .i64 (q : Int), .int .i64 y], .int .i64 n, .int .i64 (q : Int), .int .i64 y, x22, x23, x24, x25, x26], []⟩ : Act)) (by kernel_rfl) (fun u hu => qv (by kernel_rfl)) (by kernel_rfl) ?_
  refine qchn_step (b := (⟨#[.pointer (some ⟨rb, 0, none⟩), .int .i64 b, x2, x3, x4, .int .i64 n, x6, x7, .tuple #[.int .i64 n, .int .i64 (q : Int), .int .i64 y], .pointer (some ⟨rb, 0, none⟩), .pointer (some ⟨rb, 0, none⟩), .pointer (some ⟨rb, 0, none⟩), .slice xa xn xc, .pointer (some ⟨rb, 0, none⟩), .pointer (some ⟨rb, 0, none⟩), .pointer (some ⟨rb, 1, none⟩), .int .i64 (p : Int), .int .i64 b, .tuple #[.int .i64 n, .int .i64 (q : Int), .int .i64 y], .int .i64 n, .int .i64 (q : Int), .int .i64 y, x22, x23, x24, x25, x26], []⟩ : Act)) (by kernel_rfl) (fun u hu => qv (by kernel_rfl)) (by kernel_rfl) ?_
  refine qchn_step (b := (⟨#[.pointer (some ⟨rb, 0, none⟩), .int .i64 b, x2, x3, x4, .int .i64 n, .int .i64 (q : Int), x7, .tuple #[.int .i64 n, .int .i64 (q : Int), .int .i64 y], .pointer (some ⟨rb, 0, none⟩), .pointer (some ⟨rb, 0, none⟩), .pointer (some ⟨rb, 0, none⟩), .slice xa xn xc, .pointer (some ⟨rb, 0, none⟩), .pointer (some ⟨rb, 0, none⟩), .pointer (some ⟨rb, 1, none⟩), .int .i64 (p : Int), .int .i64 b, .tuple #[.int .i64 n, .int .i64 (q : Int), .int .i64 y], .int .i64 n, .int .i64 (q : Int), .int .i64 y, x22, x23, x24, x25, x26], []⟩ : Act)) (by kernel_rfl) (fun u hu => qv (by kernel_rfl)) (by kernel_rfl) ?_
  refine qchn_step (b := (⟨#[.pointer (some ⟨rb, 0, none⟩), .int .i64 b, x2, x3, x4, .int .i64 n, .int .i64 (q : Int), .int .i64 y, .tuple #[.int .i64 n, .int .i64 (q : Int), .int .i64 y], .pointer (some ⟨rb, 0, none⟩), .pointer (some ⟨rb, 0, none⟩), .pointer (some ⟨rb, 0, none⟩), .slice xa xn xc, .pointer (some ⟨rb, 0, none⟩), .pointer (some ⟨rb, 0, none⟩), .pointer (some ⟨rb, 1, none⟩), .int .i64 (p : Int), .int .i64 b, .tuple #[.int .i64 n, .int .i64 (q : Int), .int .i64 y], .int .i64 n, .int .i64 (q : Int), .int .i64 y, x22, x23, x24, x25, x26], []⟩ : Act)) (by kernel_rfl) (fun u hu => qv (by kernel_rfl)) (by kernel_rfl) ?_
  trivial
set_option maxHeartbeats 16000000 in
theorem nm1 (rb : Nat) (xa : Option Addr) (xn xc : Nat) (zs : List Int) (p : Nat) (b : Int) (n : Int) (q : Nat) (y : Int) {x2 x3 x4 x5 x6 x7 x8 x9 x10 x11 x12 x13 x14 x15 x16 x17 x18 x19 x20 x21 x22 x23 x24 x25 x26 : Value} (w : World) (R : Exit → Act → World → Prop) (h1 : Rg w rb ⟨xa, xn, xc⟩ zs p) (HC : ∀ u, Q w u → Calls Try.prog 58 #[.slice xa xn xc, .int .i64 (p : Int), .int .i64 b] u fun e u' => e = .returned (.tuple #[.int .i64 n, .int .i64 (q : Int), .int .i64 y]) ∧ Q w u')
    (h : ∀ W, (fun u => Q w u) W → R .normal (⟨#[.pointer (some ⟨rb, 0, none⟩), .int .i64 b, x2, x3, x4, .int .i64 n, .int .i64 (q : Int), .int .i64 y, .tuple #[.int .i64 n, .int .i64 (q : Int), .int .i64 y], .pointer (some ⟨rb, 0, none⟩), .pointer (some ⟨rb, 0, none⟩), .pointer (some ⟨rb, 0, none⟩), .slice xa xn xc, .pointer (some ⟨rb, 0, none⟩), .pointer (some ⟨rb, 0, none⟩), .pointer (some ⟨rb, 1, none⟩), .int .i64 (p : Int), .int .i64 b, .tuple #[.int .i64 n, .int .i64 (q : Int), .int .i64 y], .int .i64 n, .int .i64 (q : Int), .int .i64 y, x22, x23, x24, x25, x26], []⟩ : Act) W) : (Code.region 1 (RofN Try.f38 1) true).wp Try.prog R (⟨#[.pointer (some ⟨rb, 0, none⟩), .int .i64 b, x2, x3, x4, x5, x6, x7, x8, x9, x10, x11, x12, x13, x14, x15, x16, x17, x18, x19, x20, x21, x22, x23, x24, x25, x26], []⟩ : Act) w := by
  refine wp_region_quiet (C := (fun u => Q w u)) (by kernel_rfl) (by kernel_rfl) ((Q.refl w).drew) ?_
  refine qchn_all [some (.pointer (some ⟨rb, 0, none⟩)), some (.pointer (some ⟨rb, 0, none⟩)), some (.pointer (some ⟨rb, 0, none⟩)), some (.slice xa xn xc), some (.pointer (some ⟨rb, 0, none⟩)), some (.pointer (some ⟨rb, 0, none⟩)), some (.pointer (some ⟨rb, 1, none⟩)), some (.int .i64 (p : Int)), some (.int .i64 b), some (.tuple #[.int .i64 n, .int .i64 (q : Int), .int .i64 y]), some (.tuple #[.int .i64 n, .int .i64 (q : Int), .int .i64 y]), some (.int .i64 n), some (.int .i64 (q : Int)), some (.int .i64 y), some (.int .i64 n), some (.int .i64 (q : Int)), some (.int .i64 y)] _ (⟨#[.pointer (some ⟨rb, 0, none⟩), .int .i64 b, x2, x3, x4, .int .i64 n, .int .i64 (q : Int), .int .i64 y, .tuple #[.int .i64 n, .int .i64 (q : Int), .int .i64 y], .pointer (some ⟨rb, 0, none⟩), .pointer (some ⟨rb, 0, none⟩), .pointer (some ⟨rb, 0, none⟩), .slice xa xn xc, .pointer (some ⟨rb, 0, none⟩), .pointer (some ⟨rb, 0, none⟩), .pointer (some ⟨rb, 1, none⟩), .int .i64 (p : Int), .int .i64 b, .tuple #[.int .i64 n, .int .i64 (q : Int), .int .i64 y], .int .i64 n, .int .i64 (q : Int), .int .i64 y, x22, x23, x24, x25, x26], []⟩ : Act) (Nat.le_of_eq (by kernel_rfl)) (nm1c rb xa xn xc zs p b n q y h1 HC) (by kernel_rfl) ?_
  refine qend (by kernel_rfl) ?_
  exact h
set_option maxHeartbeats 16000000 in
theorem tx1c (rb : Nat) (xa : Option Addr) (xn xc : Nat) (zs : List Int) (p : Nat) (b : Int) (s : ByteArray) (q : Nat) (y : Int) {x2 x3 x4 x5 x6 x7 x8 x9 x10 x11 x12 x13 x14 x15 x16 x17 x18 x19 x20 x21 x22 x23 x24 x25 x26 : Value} {w : World} (h1 : Rg w rb ⟨xa, xn, xc⟩ zs p) (HC : ∀ u, Q w u → Calls Try.prog 55 #[.slice xa xn xc, .int .i64 (p : Int), .int .i64 b] u fun e u' => e = .returned (.tuple #[.string s, .int .i64 (q : Int), .int .i64 y]) ∧ Q w u') : QChn Try.prog (RofN Try.f36 1) (fun u => Q w u) 0 [some (.pointer (some ⟨rb, 0, none⟩)), some (.pointer (some ⟨rb, 0, none⟩)), some (.pointer (some ⟨rb, 0, none⟩)), some (.slice xa xn xc), some (.pointer (some ⟨rb, 0, none⟩)), some (.pointer (some ⟨rb, 0, none⟩)), some (.pointer (some ⟨rb, 1, none⟩)), some (.int .i64 (p : Int)), some (.int .i64 b), some (.tuple #[.string s, .int .i64 (q : Int), .int .i64 y]), some (.tuple #[.string s, .int .i64 (q : Int), .int .i64 y]), some (.string s), some (.int .i64 (q : Int)), some (.int .i64 y), some (.string s), some (.int .i64 (q : Int)), some (.int .i64 y)] (⟨#[.pointer (some ⟨rb, 0, none⟩), .int .i64 b, x2, x3, x4, x5, x6, x7, x8, x9, x10, x11, x12, x13, x14, x15, x16, x17, x18, x19, x20, x21, x22, x23, x24, x25, x26], []⟩ : Act) := by
  refine qchn_step (b := (⟨#[.pointer (some ⟨rb, 0, none⟩), .int .i64 b, x2, x3, x4, x5, x6, x7, x8, .pointer (some ⟨rb, 0, none⟩), x10, x11, x12, x13, x14, x15, x16, x17, x18, x19, x20, x21, x22, x23, x24, x25, x26], []⟩ : Act)) (by kernel_rfl) (fun u hu => qv (by kernel_rfl)) (by kernel_rfl) ?_
  refine qchn_step (b := (⟨#[.pointer (some ⟨rb, 0, none⟩), .int .i64 b, x2, x3, x4, x5, x6, x7, x8, .pointer (some ⟨rb, 0, none⟩), .pointer (some ⟨rb, 0, none⟩), x11, x12, x13, x14, x15, x16, x17, x18, x19, x20, x21, x22, x23, x24, x25, x26], []⟩ : Act)) (by kernel_rfl) (fun u hu => qv (by kernel_rfl)) (by kernel_rfl) ?_
  refine qchn_step (b := (⟨#[.pointer (some ⟨rb, 0, none⟩), .int .i64 b, x2, x3, x4, x5, x6, x7, x8, .pointer (some ⟨rb, 0, none⟩), .pointer (some ⟨rb, 0, none⟩), .pointer (some ⟨rb, 0, none⟩), x12, x13, x14, x15, x16, x17, x18, x19, x20, x21, x22, x23, x24, x25, x26], []⟩ : Act)) (by kernel_rfl) (fun u hu => qv (by kernel_rfl)) (by kernel_rfl) ?_
  refine qchn_step (b := (⟨#[.pointer (some ⟨rb, 0, none⟩), .int .i64 b, x2, x3, x4, x5, x6, x7, x8, .pointer (some ⟨rb, 0, none⟩), .pointer (some ⟨rb, 0, none⟩), .pointer (some ⟨rb, 0, none⟩), .slice xa xn xc, x13, x14, x15, x16, x17, x18, x19, x20, x21, x22, x23, x24, x25, x26], []⟩ : Act)) (by kernel_rfl) (fun u hu => qv (ld_any 30 (.tmp 11) rb 0 (by kernel_rfl) (by kernel_rfl) (ldS ((h1.q hu).c0)))) (by kernel_rfl) ?_
  refine qchn_step (b := (⟨#[.pointer (some ⟨rb, 0, none⟩), .int .i64 b, x2, x3, x4, x5, x6, x7, x8, .pointer (some ⟨rb, 0, none⟩), .pointer (some ⟨rb, 0, none⟩), .pointer (some ⟨rb, 0, none⟩), .slice xa xn xc, .pointer (some ⟨rb, 0, none⟩), x14, x15, x16, x17, x18, x19, x20, x21, x22, x23, x24, x25, x26], []⟩ : Act)) (by kernel_rfl) (fun u hu => qv (by kernel_rfl)) (by kernel_rfl) ?_
  refine qchn_step (b := (⟨#[.pointer (some ⟨rb, 0, none⟩), .int .i64 b, x2, x3, x4, x5, x6, x7, x8, .pointer (some ⟨rb, 0, none⟩), .pointer (some ⟨rb, 0, none⟩), .pointer (some ⟨rb, 0, none⟩), .slice xa xn xc, .pointer (some ⟨rb, 0, none⟩), .pointer (some ⟨rb, 0, none⟩), x15, x16, x17, x18, x19, x20, x21, x22, x23, x24, x25, x26], []⟩ : Act)) (by kernel_rfl) (fun u hu => qv (by kernel_rfl)) (by kernel_rfl) ?_
  refine qchn_step (b := (⟨#[.pointer (some ⟨rb, 0, none⟩), .int .i64 b, x2, x3, x4, x5, x6, x7, x8, .pointer (some ⟨rb, 0, none⟩), .pointer (some ⟨rb, 0, none⟩), .pointer (some ⟨rb, 0, none⟩), .slice xa xn xc, .pointer (some ⟨rb, 0, none⟩), .pointer (some ⟨rb, 0, none⟩), .pointer (some ⟨rb, 1, none⟩), x16, x17, x18, x19, x20, x21, x22, x23, x24, x25, x26], []⟩ : Act)) (by kernel_rfl) (fun u hu => qv (by kernel_rfl)) (by kernel_rfl) ?_
  refine qchn_step (b := (⟨#[.pointer (some ⟨rb, 0, none⟩), .int .i64 b, x2, x3, x4, x5, x6, x7, x8, .pointer (some ⟨rb, 0, none⟩), .pointer (some ⟨rb, 0, none⟩), .pointer (some ⟨rb, 0, none⟩), .slice xa xn xc, .pointer (some ⟨rb, 0, none⟩), .pointer (some ⟨rb, 0, none⟩), .pointer (some ⟨rb, 1, none⟩), .int .i64 (p : Int), x17, x18, x19, x20, x21, x22, x23, x24, x25, x26], []⟩ : Act)) (by kernel_rfl) (fun u hu => qv (ld_any 3 (.tmp 15) rb 1 (by kernel_rfl) (by kernel_rfl) (ldI ((h1.q hu).c1)))) (by kernel_rfl) ?_
  refine qchn_step (b := (⟨#[.pointer (some ⟨rb, 0, none⟩), .int .i64 b, x2, x3, x4, x5, x6, x7, x8, .pointer (some ⟨rb, 0, none⟩), .pointer (some ⟨rb, 0, none⟩), .pointer (some ⟨rb, 0, none⟩), .slice xa xn xc, .pointer (some ⟨rb, 0, none⟩), .pointer (some ⟨rb, 0, none⟩), .pointer (some ⟨rb, 1, none⟩), .int .i64 (p : Int), .int .i64 b, x18, x19, x20, x21, x22, x23, x24, x25, x26], []⟩ : Act)) (by kernel_rfl) (fun u hu => qv (by kernel_rfl)) (by kernel_rfl) ?_
  refine qchn_step (b := (⟨#[.pointer (some ⟨rb, 0, none⟩), .int .i64 b, x2, x3, x4, x5, x6, x7, x8, .pointer (some ⟨rb, 0, none⟩), .pointer (some ⟨rb, 0, none⟩), .pointer (some ⟨rb, 0, none⟩), .slice xa xn xc, .pointer (some ⟨rb, 0, none⟩), .pointer (some ⟨rb, 0, none⟩), .pointer (some ⟨rb, 1, none⟩), .int .i64 (p : Int), .int .i64 b, .tuple #[.string s, .int .i64 (q : Int), .int .i64 y], x19, x20, x21, x22, x23, x24, x25, x26], []⟩ : Act)) (by kernel_rfl) (fun u hu => qc 55 #[.slice xa xn xc, .int .i64 (p : Int), .int .i64 b] (by kernel_rfl) (HC u hu)) (by kernel_rfl) ?_
  refine qchn_step (b := (⟨#[.pointer (some ⟨rb, 0, none⟩), .int .i64 b, x2, x3, x4, x5, x6, x7, .tuple #[.string s, .int .i64 (q : Int), .int .i64 y], .pointer (some ⟨rb, 0, none⟩), .pointer (some ⟨rb, 0, none⟩), .pointer (some ⟨rb, 0, none⟩), .slice xa xn xc, .pointer (some ⟨rb, 0, none⟩), .pointer (some ⟨rb, 0, none⟩), .pointer (some ⟨rb, 1, none⟩), .int .i64 (p : Int), .int .i64 b, .tuple #[.string s, .int .i64 (q : Int), .int .i64 y], x19, x20, x21, x22, x23, x24, x25, x26], []⟩ : Act)) (by kernel_rfl) (fun u hu => qv (by kernel_rfl)) (by kernel_rfl) ?_
  refine qchn_step (b := (⟨#[.pointer (some ⟨rb, 0, none⟩), .int .i64 b, x2, x3, x4, x5, x6, x7, .tuple #[.string s, .int .i64 (q : Int), .int .i64 y], .pointer (some ⟨rb, 0, none⟩), .pointer (some ⟨rb, 0, none⟩), .pointer (some ⟨rb, 0, none⟩), .slice xa xn xc, .pointer (some ⟨rb, 0, none⟩), .pointer (some ⟨rb, 0, none⟩), .pointer (some ⟨rb, 1, none⟩), .int .i64 (p : Int), .int .i64 b, .tuple #[.string s, .int .i64 (q : Int), .int .i64 y], .string s, x20, x21, x22, x23, x24, x25, x26], []⟩ : Act)) (by kernel_rfl) (fun u hu => qv (by kernel_rfl)) (by kernel_rfl) ?_
  refine qchn_step (b := (⟨#[.pointer (some ⟨rb, 0, none⟩), .int .i64 b, x2, x3, x4, x5, x6, x7, .tuple #[.string s, .int .i64 (q : Int), .int .i64 y], .pointer (some ⟨rb, 0, none⟩), .pointer (some ⟨rb, 0, none⟩), .pointer (some ⟨rb, 0, none⟩), .slice xa xn xc, .pointer (some ⟨rb, 0, none⟩), .pointer (some ⟨rb, 0, none⟩), .pointer (some ⟨rb, 1, none⟩), .int .i64 (p : Int), .int .i64 b, .tuple #[.string s, .int .i64 (q : Int), .int .i64 y], .string s, .int .i64 (q : Int), x21, x22, x23, x24, x25, x26], []⟩ : Act)) (by kernel_rfl) (fun u hu => qv (by kernel_rfl)) (by kernel_rfl) ?_
  refine qchn_step (b := (⟨#[.pointer (some ⟨rb, 0, none⟩), .int .i64 b, x2, x3, x4, x5, x6, x7, .tuple #[.string s, .int .i64 (q : Int), .int .i64 y], .pointer (some ⟨rb, 0, none⟩), .pointer (some ⟨rb, 0, none⟩), .pointer (some ⟨rb, 0, none⟩), .slice xa xn xc, .pointer (some ⟨rb, 0, none⟩), .pointer (some ⟨rb, 0, none⟩), .pointer (some ⟨rb, 1, none⟩), .int .i64 (p : Int), .int .i64 b, .tuple #[.string s, .int .i64 (q : Int), .int .i64 y], .string s, .int .i64 (q : Int), .int .i64 y, x22, x23, x24, x25, x26], []⟩ : Act)) (by kernel_rfl) (fun u hu => qv (by kernel_rfl)) (by kernel_rfl) ?_
  refine qchn_step (b := (⟨#[.pointer (some ⟨rb, 0, none⟩), .int .i64 b, x2, x3, x4, .string s, x6, x7, .tuple #[.string s, .int .i64 (q : Int), .int .i64 y], .pointer (some ⟨rb, 0, none⟩), .pointer (some ⟨rb, 0, none⟩), .pointer (some ⟨rb, 0, none⟩), .slice xa xn xc, .pointer (some ⟨rb, 0, none⟩), .pointer (some ⟨rb, 0, none⟩), .pointer (some ⟨rb, 1, none⟩), .int .i64 (p : Int), .int .i64 b, .tuple #[.string s, .int .i64 (q : Int), .int .i64 y], .string s, .int .i64 (q : Int), .int .i64 y, x22, x23, x24, x25, x26], []⟩ : Act)) (by kernel_rfl) (fun u hu => qv (by kernel_rfl)) (by kernel_rfl) ?_
  refine qchn_step (b := (⟨#[.pointer (some ⟨rb, 0, none⟩), .int .i64 b, x2, x3, x4, .string s, .int .i64 (q : Int), x7, .tuple #[.string s, .int .i64 (q : Int), .int .i64 y], .pointer (some ⟨rb, 0, none⟩), .pointer (some ⟨rb, 0, none⟩), .pointer (some ⟨rb, 0, none⟩), .slice xa xn xc, .pointer (some ⟨rb, 0, none⟩), .pointer (some ⟨rb, 0, none⟩), .pointer (some ⟨rb, 1, none⟩), .int .i64 (p : Int), .int .i64 b, .tuple #[.string s, .int .i64 (q : Int), .int .i64 y], .string s, .int .i64 (q : Int), .int .i64 y, x22, x23, x24, x25, x26], []⟩ : Act)) (by kernel_rfl) (fun u hu => qv (by kernel_rfl)) (by kernel_rfl) ?_
  refine qchn_step (b := (⟨#[.pointer (some ⟨rb, 0, none⟩), .int .i64 b, x2, x3, x4, .string s, .int .i64 (q : Int), .int .i64 y, .tuple #[.string s, .int .i64 (q : Int), .int .i64 y], .pointer (some ⟨rb, 0, none⟩), .pointer (some ⟨rb, 0, none⟩), .pointer (some ⟨rb, 0, none⟩), .slice xa xn xc, .pointer (some ⟨rb, 0, none⟩), .pointer (some ⟨rb, 0, none⟩), .pointer (some ⟨rb, 1, none⟩), .int .i64 (p : Int), .int .i64 b, .tuple #[.string s, .int .i64 (q : Int), .int .i64 y], .string s, .int .i64 (q : Int), .int .i64 y, x22, x23, x24, x25, x26], []⟩ : Act)) (by kernel_rfl) (fun u hu => qv (by kernel_rfl)) (by kernel_rfl) ?_
  trivial
set_option maxHeartbeats 16000000 in
theorem tx1 (rb : Nat) (xa : Option Addr) (xn xc : Nat) (zs : List Int) (p : Nat) (b : Int) (s : ByteArray) (q : Nat) (y : Int) {x2 x3 x4 x5 x6 x7 x8 x9 x10 x11 x12 x13 x14 x15 x16 x17 x18 x19 x20 x21 x22 x23 x24 x25 x26 : Value} (w : World) (R : Exit → Act → World → Prop) (h1 : Rg w rb ⟨xa, xn, xc⟩ zs p) (HC : ∀ u, Q w u → Calls Try.prog 55 #[.slice xa xn xc, .int .i64 (p : Int), .int .i64 b] u fun e u' => e = .returned (.tuple #[.string s, .int .i64 (q : Int), .int .i64 y]) ∧ Q w u')
    (h : ∀ W, (fun u => Q w u) W → R .normal (⟨#[.pointer (some ⟨rb, 0, none⟩), .int .i64 b, x2, x3, x4, .string s, .int .i64 (q : Int), .int .i64 y, .tuple #[.string s, .int .i64 (q : Int), .int .i64 y], .pointer (some ⟨rb, 0, none⟩), .pointer (some ⟨rb, 0, none⟩), .pointer (some ⟨rb, 0, none⟩), .slice xa xn xc, .pointer (some ⟨rb, 0, none⟩), .pointer (some ⟨rb, 0, none⟩), .pointer (some ⟨rb, 1, none⟩), .int .i64 (p : Int), .int .i64 b, .tuple #[.string s, .int .i64 (q : Int), .int .i64 y], .string s, .int .i64 (q : Int), .int .i64 y, x22, x23, x24, x25, x26], []⟩ : Act) W) : (Code.region 1 (RofN Try.f36 1) true).wp Try.prog R (⟨#[.pointer (some ⟨rb, 0, none⟩), .int .i64 b, x2, x3, x4, x5, x6, x7, x8, x9, x10, x11, x12, x13, x14, x15, x16, x17, x18, x19, x20, x21, x22, x23, x24, x25, x26], []⟩ : Act) w := by
  refine wp_region_quiet (C := (fun u => Q w u)) (by kernel_rfl) (by kernel_rfl) ((Q.refl w).drew) ?_
  refine qchn_all [some (.pointer (some ⟨rb, 0, none⟩)), some (.pointer (some ⟨rb, 0, none⟩)), some (.pointer (some ⟨rb, 0, none⟩)), some (.slice xa xn xc), some (.pointer (some ⟨rb, 0, none⟩)), some (.pointer (some ⟨rb, 0, none⟩)), some (.pointer (some ⟨rb, 1, none⟩)), some (.int .i64 (p : Int)), some (.int .i64 b), some (.tuple #[.string s, .int .i64 (q : Int), .int .i64 y]), some (.tuple #[.string s, .int .i64 (q : Int), .int .i64 y]), some (.string s), some (.int .i64 (q : Int)), some (.int .i64 y), some (.string s), some (.int .i64 (q : Int)), some (.int .i64 y)] _ (⟨#[.pointer (some ⟨rb, 0, none⟩), .int .i64 b, x2, x3, x4, .string s, .int .i64 (q : Int), .int .i64 y, .tuple #[.string s, .int .i64 (q : Int), .int .i64 y], .pointer (some ⟨rb, 0, none⟩), .pointer (some ⟨rb, 0, none⟩), .pointer (some ⟨rb, 0, none⟩), .slice xa xn xc, .pointer (some ⟨rb, 0, none⟩), .pointer (some ⟨rb, 0, none⟩), .pointer (some ⟨rb, 1, none⟩), .int .i64 (p : Int), .int .i64 b, .tuple #[.string s, .int .i64 (q : Int), .int .i64 y], .string s, .int .i64 (q : Int), .int .i64 y, x22, x23, x24, x25, x26], []⟩ : Act) (Nat.le_of_eq (by kernel_rfl)) (tx1c rb xa xn xc zs p b s q y h1 HC) (by kernel_rfl) ?_
  refine qend (by kernel_rfl) ?_
  exact h
set_option maxHeartbeats 4000000 in
theorem numR_ok (rb : Nat) (x : Sv) (zs : List Int) (p : Nat) (b : Int) (n : Int) (q : Nat) (w : World) (h : Rg w rb x zs p) (ho : numO zs p b = .ok n q) (hq : q ≤ zs.length) :
    Calls Try.prog 38 #[.pointer (some ⟨rb, 0, none⟩), .int .i64 b] w fun e w' => e = .returned (.int .i64 n) ∧ Rg w' rb x zs q ∧ Keep (fun b => b = rb) w w' := by
  have he : (pgA zs p b).2.2 = 0 ∧ (pgA zs p b).1 = n ∧ (pgA zs p b).2.1 = q := by
    unfold numO at ho
    split at ho
    · cases ho
    · split at ho
      · cases ho
      · rename_i h1 h2
        cases ho
        exact ⟨by simpa using h2, rfl, rfl⟩
  have HC := hid (fun u (k : Q w u) => show Calls Try.prog 58 #[.slice x.a x.n x.c, .int .i64 (p : Int), .int .i64 b] u fun e u' => e = .returned (.tuple #[.int .i64 (pgA zs p b).1, .int .i64 ((pgA zs p b).2.1 : Nat), .int .i64 (pgA zs p b).2.2]) ∧ Q w u' from (get_any x.a x.n x.c zs p b u h.l h.n h.z (h.s.q k)).mono (fun e v hh => ⟨hh.1, by rw [← hh.2]; exact k⟩))
  rw [he.1, he.2.1, he.2.2] at HC
  have HG := hid h
  have HT := hid (fun u (k : Q w u) => goTo_ok rb x zs p q u (h.q k) hq)
  obtain ⟨xa, xn, xc⟩ := x
  dsimp only at *
  clear h ho he
  go_enter Try.func38, Try.ntmps38
  go_wp2_with fail
  generalize hR : Code.region 1 _ true = CC
  have eR : CC = Code.region 1 (RofN Try.f38 1) true := hR.symm.trans (by kernel_rfl)
  clear hR
  subst eR
  refine nm1 rb xa xn xc zs p b n q 0 w _ HG.out HC.out ?_
  intro w1 q1
  have Q1 := hid q1
  clear q1
  go_wp2_with (go_at_call 56; refine (HT.out _ Q1.out).mono ?_; rintro e w2 ⟨rfl, g2, k2⟩)
  go_ret
  exact ⟨rfl, g2, (Keep.ofQ Q1.out).trans k2⟩
set_option maxHeartbeats 4000000 in
theorem numR_bad (rb : Nat) (x : Sv) (zs : List Int) (p : Nat) (b : Int) (y : Int) (w : World) (h : Rg w rb x zs p) (ho : numO zs p b = .bad y) :
    Calls Try.prog 38 #[.pointer (some ⟨rb, 0, none⟩), .int .i64 b] w fun e w' => e = .panicked [refP y] ∧ Q w w' := by
  have HC := hid (fun u (k : Q w u) => show Calls Try.prog 58 #[.slice x.a x.n x.c, .int .i64 (p : Int), .int .i64 b] u fun e u' => e = .returned (.tuple #[.int .i64 (pgA zs p b).1, .int .i64 ((pgA zs p b).2.1 : Nat), .int .i64 (pgA zs p b).2.2]) ∧ Q w u' from (get_any x.a x.n x.c zs p b u h.l h.n h.z (h.s.q k)).mono (fun e v hh => ⟨hh.1, by rw [← hh.2]; exact k⟩))
  have HG := hid h
  have HT : Hid (∀ u q, Calls Try.prog 56 #[.pointer (some ⟨rb, 0, none⟩), .int .i64 q, .int .i64 (pgA zs p b).2.2] u fun e w' => e = .panicked [refP y] ∧ u = w') := hid (fun u q => by
    unfold numO at ho
    split at ho
    · rename_i h1
      cases ho
      rw [h1]
      exact goTo_12 rb q u
    · rename_i h1
      split at ho
      · rename_i h2
        cases ho
        exact goTo_bad rb q _ u h2 h1
      · cases ho)
  generalize (pgA zs p b).1 = n at *
  generalize (pgA zs p b).2.1 = q at *
  generalize (pgA zs p b).2.2 = z at *
  obtain ⟨xa, xn, xc⟩ := x
  dsimp only at *
  clear h ho
  go_enter Try.func38, Try.ntmps38
  go_wp2_with fail
  generalize hR : Code.region 1 _ true = CC
  have eR : CC = Code.region 1 (RofN Try.f38 1) true := hR.symm.trans (by kernel_rfl)
  clear hR
  subst eR
  refine nm1 rb xa xn xc zs p b n q z w _ HG.out HC.out ?_
  intro w1 q1
  have Q1 := hid q1
  clear q1
  go_wp2_with (go_at_call 56; refine (HT.out _ _).mono ?_; rintro e w2 ⟨rfl, rfl⟩)
  exact ⟨rfl, rfl, Q1.out⟩
set_option maxHeartbeats 4000000 in
theorem txtR_ok (rb : Nat) (x : Sv) (zs : List Int) (p : Nat) (b : Int) (n : ByteArray) (q : Nat) (w : World) (h : Rg w rb x zs p) (ho : txtO zs p b = .ok n q) (hq : q ≤ zs.length) :
    Calls Try.prog 36 #[.pointer (some ⟨rb, 0, none⟩), .int .i64 b] w fun e w' => e = .returned (.string n) ∧ Rg w' rb x zs q ∧ Keep (fun b => b = rb) w w' := by
  have he : (gtB zs p b).2.2 = 0 ∧ strOfNums (gtB zs p b).1 = n ∧ (gtB zs p b).2.1 = q := by
    unfold txtO at ho
    split at ho
    · cases ho
    · split at ho
      · cases ho
      · rename_i h1 h2
        cases ho
        exact ⟨by simpa using h2, rfl, rfl⟩
  have HC := hid (fun u (k : Q w u) => show Calls Try.prog 55 #[.slice x.a x.n x.c, .int .i64 (p : Int), .int .i64 b] u fun e u' => e = .returned (.tuple #[.string (strOfNums (gtB zs p b).1), .int .i64 ((gtB zs p b).2.1 : Nat), .int .i64 (gtB zs p b).2.2]) ∧ Q w u' from (getText_any x.a x.n x.c zs p b u h.l h.n h.c h.z (h.s.q k)).mono (fun e v hh => ⟨hh.1, k.trans hh.2⟩))
  rw [he.1, he.2.1, he.2.2] at HC
  have HG := hid h
  have HT := hid (fun u (k : Q w u) => goTo_ok rb x zs p q u (h.q k) hq)
  obtain ⟨xa, xn, xc⟩ := x
  dsimp only at *
  clear h ho he
  go_enter Try.func36, Try.ntmps36
  go_wp2_with fail
  generalize hR : Code.region 1 _ true = CC
  have eR : CC = Code.region 1 (RofN Try.f36 1) true := hR.symm.trans (by kernel_rfl)
  clear hR
  subst eR
  refine tx1 rb xa xn xc zs p b n q 0 w _ HG.out HC.out ?_
  intro w1 q1
  have Q1 := hid q1
  clear q1
  go_wp2_with (go_at_call 56; refine (HT.out _ Q1.out).mono ?_; rintro e w2 ⟨rfl, g2, k2⟩)
  go_ret
  exact ⟨rfl, g2, (Keep.ofQ Q1.out).trans k2⟩
set_option maxHeartbeats 4000000 in
theorem txtR_bad (rb : Nat) (x : Sv) (zs : List Int) (p : Nat) (b : Int) (y : Int) (w : World) (h : Rg w rb x zs p) (ho : txtO zs p b = .bad y) :
    Calls Try.prog 36 #[.pointer (some ⟨rb, 0, none⟩), .int .i64 b] w fun e w' => e = .panicked [refP y] ∧ Q w w' := by
  have HC := hid (fun u (k : Q w u) => show Calls Try.prog 55 #[.slice x.a x.n x.c, .int .i64 (p : Int), .int .i64 b] u fun e u' => e = .returned (.tuple #[.string (strOfNums (gtB zs p b).1), .int .i64 ((gtB zs p b).2.1 : Nat), .int .i64 (gtB zs p b).2.2]) ∧ Q w u' from (getText_any x.a x.n x.c zs p b u h.l h.n h.c h.z (h.s.q k)).mono (fun e v hh => ⟨hh.1, k.trans hh.2⟩))
  have HG := hid h
  have HT : Hid (∀ u q, Calls Try.prog 56 #[.pointer (some ⟨rb, 0, none⟩), .int .i64 q, .int .i64 (gtB zs p b).2.2] u fun e w' => e = .panicked [refP y] ∧ u = w') := hid (fun u q => by
    unfold txtO at ho
    split at ho
    · rename_i h1
      cases ho
      rw [h1]
      exact goTo_12 rb q u
    · rename_i h1
      split at ho
      · rename_i h2
        cases ho
        exact goTo_bad rb q _ u h2 h1
      · cases ho)
  generalize strOfNums (gtB zs p b).1 = n at *
  generalize (gtB zs p b).2.1 = q at *
  generalize (gtB zs p b).2.2 = z at *
  obtain ⟨xa, xn, xc⟩ := x
  dsimp only at *
  clear h ho
  go_enter Try.func36, Try.ntmps36
  go_wp2_with fail
  generalize hR : Code.region 1 _ true = CC
  have eR : CC = Code.region 1 (RofN Try.f36 1) true := hR.symm.trans (by kernel_rfl)
  clear hR
  subst eR
  refine tx1 rb xa xn xc zs p b n q z w _ HG.out HC.out ?_
  intro w1 q1
  have Q1 := hid q1
  clear q1
  go_wp2_with (go_at_call 56; refine (HT.out _ _).mono ?_; rintro e w2 ⟨rfl, rfl⟩)
  exact ⟨rfl, rfl, Q1.out⟩
end Go.Proofs.Ytehejibllkmflaa
