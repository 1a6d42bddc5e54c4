/-
  The parameters as a Lean structure, the program's table of its fields, and what memory holds of them: contracts of Usual and fields. Nothing is proved of the statement here.
-/
import Derived.Test.YtidbimhcebfjfaaMem
namespace Go.Proofs.Ytidbimhcebfjfaa
open Go.RowKit
set_option linter.unusedVariables false
set_option maxRecDepth 20000

/-- Parameters by their ids. -/
structure Pm where
  num : Nat → Int
  has : Nat → Bool
  byt : Nat → List Int
  mv : Bool
def usM : Pm := ⟨fun i => if i = 3 then 65527 else if i = 10 then 3 else if i = 11 then 25 else if i = 14 then 2 else 0, fun _ => false, fun _ => [], false⟩
def zeM : Pm := ⟨fun _ => 0, fun _ => false, fun _ => [], false⟩
abbrev sv (x : Sv) : Value := .slice x.a x.n x.c
/-- The program's cells of parameters, their bytes at s. -/
def pc (m : Pm) (s : Nat → Sv) : Array Value :=
  #[.bool (m.has 0), .bool (m.has 2), .bool (m.has 15), .bool (m.has 16), sv (s 0), sv (s 2), sv (s 15), sv (s 16), .int .i64 (m.num 1), .int .i64 (m.num 3), .int .i64 (m.num 4), .int .i64 (m.num 5), .int .i64 (m.num 6), .int .i64 (m.num 7), .int .i64 (m.num 8), .int .i64 (m.num 9), .int .i64 (m.num 10), .int .i64 (m.num 11), .int .i64 (m.num 14), .bool m.mv]
def usA : Array Value :=
  #[.bool false, .bool false, .bool false, .bool false, .slice none 0 0, .slice none 0 0, .slice none 0 0, .slice none 0 0, .int .i64 0, .int .i64 65527, .int .i64 0, .int .i64 0, .int .i64 0, .int .i64 0, .int .i64 0, .int .i64 0, .int .i64 3, .int .i64 25, .int .i64 2, .bool false]
def zeA : Array Value :=
  #[.bool false, .bool false, .bool false, .bool false, .slice none 0 0, .slice none 0 0, .slice none 0 0, .slice none 0 0, .int .i64 0, .int .i64 0, .int .i64 0, .int .i64 0, .int .i64 0, .int .i64 0, .int .i64 0, .int .i64 0, .int .i64 0, .int .i64 0, .int .i64 0, .bool false]
theorem pc_usual : pc usM (fun _ => nilS) = usA := rfl
theorem pc_zero : pc zeM (fun _ => nilS) = zeA := rfl

def fnum (pb c : Nat) (u l m : Int) : Value := .iface 89 (.agg #[.pointer (some ⟨pb, c, none⟩), .int .i64 u, .int .i64 l, .int .i64 m])
def fdat (pb h c : Nat) (l m : Int) : Value := .iface 84 (.agg #[.pointer (some ⟨pb, h, none⟩), .pointer (some ⟨pb, c, none⟩), .int .i64 l, .int .i64 m])
def fsrv (pb h c : Nat) (l m : Int) : Value := .iface 86 (.agg #[.pointer (some ⟨pb, h, none⟩), .pointer (some ⟨pb, c, none⟩), .int .i64 l, .int .i64 m])
def fmrk (pb c : Nat) : Value := .iface 91 (.agg #[.pointer (some ⟨pb, c, none⟩)])
/-- The row of fields over the parameters in block pb. -/
def frow (pb : Nat) : Array Value :=
  #[.int .i64 0, fsrv pb 0 4 0 20, .int .i64 1, fnum pb 8 0 0 4611686018427387903, .int .i64 2, fsrv pb 1 5 16 16, .int .i64 3, fnum pb 9 65527 1200 4611686018427387903, .int .i64 4, fnum pb 10 0 0 4611686018427387903, .int .i64 5, fnum pb 11 0 0 4611686018427387903, .int .i64 6, fnum pb 12 0 0 4611686018427387903, .int .i64 7, fnum pb 13 0 0 4611686018427387903,
    .int .i64 8, fnum pb 14 0 0 1152921504606846976, .int .i64 9, fnum pb 15 0 0 1152921504606846976, .int .i64 10, fnum pb 16 3 0 20, .int .i64 11, fnum pb 17 25 0 16383, .int .i64 12, fmrk pb 19, .int .i64 14, fnum pb 18 2 2 4611686018427387903, .int .i64 15, fdat pb 2 6 0 20, .int .i64 16, fsrv pb 3 7 0 20]

theorem info24 : (Try.prog.info? 24).map (·.size) = some 20 := by kernel_rfl
theorem usA_one : usA.all (·.oneCell') = true := by simp [usA, Value.oneCell']
theorem pc_one (m : Pm) (s : Nat → Sv) : (pc m s).all (·.oneCell') = true := by simp [pc, Value.oneCell']
theorem pc_info (m : Pm) (s : Nat → Sv) : (Try.prog.info? 24).map (·.size) = some (pc m s).size := info24
/-- The end of a call whose result is parameters in a block. -/
theorem ret_ps {fn : Func} {p : Tmp} {a : Act} {w : World} {R : Ending → World → Prop} (hr : fn.results = #[.cell p 24]) (hd : a.defers = [])
    (g ty : Nat) (cs : Array Value) (hs : cs.size = 20) (hp : a.tmps.getD p undef = .pointer (some ⟨g, 0, none⟩)) (hb : w.heap[g]? = some (.cells cs ty (0, 0))) (hR : R (.returned (.agg cs)) w) : bodyPost Try.prog fn R .ret a w :=
  ⟨hd, _, results_cell_row hr _ w g ty _ (0, 0) _ hp hb Try.underlying24 rfl (by rw [hs]; kernel_rfl), hR⟩

set_option maxHeartbeats 4000000 in
theorem usual_any (w : World) : Calls Try.prog 16 #[] w fun e w' => e = .returned (.agg usA) ∧ Q w w' := by
  go_enter Try.func16, Try.ntmps16
  go_wp2_with (refine wpList_store_row rfl 24 _ _ rfl w.heap.size usA rfl rfl 24 _ (heap_alloc_new w _) info24 rfl usA_one ?_; refine Hid.out ?_)
  refine hid ?_
  generalize hw1 : World.setRow _ _ _ = w1
  have q1 : Q w w1 := by rw [← hw1]; exact (((Keep.refl (fun _ => False) w).alloc _).setRow _ _ (.inr (Nat.le_refl _))).toQ (fun _ _ => id)
  have b1 : w1.heap[w.heap.size]? = some (.cells usA 24 (0, 0)) := by rw [← hw1]; exact setRow_heap _ _ _ _ 24 _ (heap_alloc_new w _)
  clear hw1
  go_wp2
  exact ret_ps rfl rfl w.heap.size 24 usA rfl rfl b1 ⟨rfl, q1⟩
end Go.Proofs.Ytidbimhcebfjfaa
