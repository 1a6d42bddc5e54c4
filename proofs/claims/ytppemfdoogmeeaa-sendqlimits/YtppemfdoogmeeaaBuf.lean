/-
  A queue of the program in memory, and what New, Room, Written, Sent, Base, Done and Finish answer: contracts that the statements' walks use.
-/
import Derived.Test.YtppemfdoogmeeaaBase
import Derived.BigQuiet
import Derived.Deep.QuietTactic
namespace Go.Proofs.Ytppemfdoogmeeaa
open Go.RowKit
set_option linter.unusedVariables false

theorem ret_int {k : IntKind} {a b : Int} (h : a = b) : Ending.returned (.int k a) = .returned (.int k b) := by rw [h]
theorem ret_bool {a b : Bool} (h : a = b) : Ending.returned (.bool a) = .returned (.bool b) := by rw [h]

/-- A slice's words. -/
structure Sv where
  a : Option Addr
  n : Nat
  c : Nat
def Sv.v (d : Sv) : Value := .slice d.a d.n d.c
/-- Bytes in a row. -/
abbrev u8s (zs : List Int) : List Value := zs.map (.int .u8)
abbrev Row (w : World) (d : Sv) (zs : List Int) : Prop := Sub w 5 1 d.a d.n d.c (u8s zs)
theorem Row.len {w : World} {d : Sv} {zs : List Int} (h : Row w d zs) : zs.length = d.n := by simpa using h.1
theorem Row.cap {w : World} {d : Sv} {zs : List Int} (h : Row w d zs) : d.n ≤ d.c := by
  rcases h.2 with ⟨_, h1, h2⟩ | ⟨g, off, cur, _, _, h1, _⟩ <;> omega

/-! ### the program's queue -/
def Hd (w : World) (rb : Nat) (room : Int) (base sent : Nat) (d m : Sv) (fin : Bool) (en : Int) : Prop :=
  w.heap[rb]? = some (.cells #[.int .i64 room, .int .i64 base, .int .i64 sent, .slice d.a d.n d.c, .slice m.a m.n m.c, .bool fin, .int .u8 en] 52 (0, 0))
section
variable {w w' : World} {rb : Nat} {room : Int} {base sent : Nat} {d m : Sv} {fin : Bool} {en : Int}
theorem Hd.c0 (h : Hd w rb room base sent d m fin en) : w.cell? ⟨rb, 0, none⟩ = some (.int .i64 room) := by rw [cell_of_row w rb 0 _ 52 (0, 0) h]; rfl
theorem Hd.c1 (h : Hd w rb room base sent d m fin en) : w.cell? ⟨rb, 1, none⟩ = some (.int .i64 base) := by rw [cell_of_row w rb 1 _ 52 (0, 0) h]; rfl
theorem Hd.c2 (h : Hd w rb room base sent d m fin en) : w.cell? ⟨rb, 2, none⟩ = some (.int .i64 sent) := by rw [cell_of_row w rb 2 _ 52 (0, 0) h]; rfl
theorem Hd.c3 (h : Hd w rb room base sent d m fin en) : w.cell? ⟨rb, 3, none⟩ = some (.slice d.a d.n d.c) := by rw [cell_of_row w rb 3 _ 52 (0, 0) h]; rfl
theorem Hd.c4 (h : Hd w rb room base sent d m fin en) : w.cell? ⟨rb, 4, none⟩ = some (.slice m.a m.n m.c) := by rw [cell_of_row w rb 4 _ 52 (0, 0) h]; rfl
theorem Hd.c5 (h : Hd w rb room base sent d m fin en) : w.cell? ⟨rb, 5, none⟩ = some (.bool fin) := by rw [cell_of_row w rb 5 _ 52 (0, 0) h]; rfl
theorem Hd.c6 (h : Hd w rb room base sent d m fin en) : w.cell? ⟨rb, 6, none⟩ = some (.int .u8 en) := by rw [cell_of_row w rb 6 _ 52 (0, 0) h]; rfl
theorem Hd.free (h : Hd w rb room base sent d m fin en) (j : Nat) : w.frozen? ⟨rb, j, none⟩ = false := frozen_of_row w rb j _ 52 h
theorem Hd.lt (h : Hd w rb room base sent d m fin en) : rb < w.heap.size := lt_of_block h
theorem Hd.base_ (h : Hd w rb room base sent d m fin en) (q : Nat) : Hd (w.setCell ⟨rb, 1, none⟩ (.int .i64 q)) rb room q sent d m fin en := by
  have := heap_setCell_same w rb 1 _ 52 (.int .i64 q) h
  simpa [Hd] using this
theorem Hd.sent_ (h : Hd w rb room base sent d m fin en) (q : Nat) : Hd (w.setCell ⟨rb, 2, none⟩ (.int .i64 q)) rb room base q d m fin en := by
  have := heap_setCell_same w rb 2 _ 52 (.int .i64 q) h
  simpa [Hd] using this
theorem Hd.data_ (h : Hd w rb room base sent d m fin en) (q : Sv) : Hd (w.setCell ⟨rb, 3, none⟩ (.slice q.a q.n q.c)) rb room base sent q m fin en := by
  have := heap_setCell_same w rb 3 _ 52 (.slice q.a q.n q.c) h
  simpa [Hd] using this
theorem Hd.marks_ (h : Hd w rb room base sent d m fin en) (q : Sv) : Hd (w.setCell ⟨rb, 4, none⟩ (.slice q.a q.n q.c)) rb room base sent d q fin en := by
  have := heap_setCell_same w rb 4 _ 52 (.slice q.a q.n q.c) h
  simpa [Hd] using this
theorem Hd.fin_ (h : Hd w rb room base sent d m fin en) (q : Bool) : Hd (w.setCell ⟨rb, 5, none⟩ (.bool q)) rb room base sent d m q en := by
  have := heap_setCell_same w rb 5 _ 52 (.bool q) h
  simpa [Hd] using this
theorem Hd.end_ (h : Hd w rb room base sent d m fin en) (q : Int) : Hd (w.setCell ⟨rb, 6, none⟩ (.int .u8 q)) rb room base sent d m fin q := by
  have := heap_setCell_same w rb 6 _ 52 (.int .u8 q) h
  simpa [Hd] using this
theorem Hd.keep {F : Nat → Prop} (h : Hd w rb room base sent d m fin en) (k : Keep F w w') (hF : ¬ F rb) : Hd w' rb room base sent d m fin en := (k.block rb h.lt hF).trans h
theorem Hd.q (h : Hd w rb room base sent d m fin en) (k : Q w w') : Hd w' rb room base sent d m fin en := h.keep (Keep.ofQ (F := fun _ => False) k) id
end

/-- The blocks that are a queue's own. -/
def Fp (rb : Nat) (d m : Sv) (k : Nat) : Prop := k = rb ∨ blk d.a = some k ∨ blk m.a = some k

/-- Its rows: the bytes and the marks from the base on. -/
structure Rs (w : World) (rb : Nat) (d m : Sv) (bs ms : List Int) : Prop where
  sd : Row w d bs
  sm : Row w m ms
  e1 : blk d.a ≠ some rb
  e2 : blk m.a ≠ some rb
  e3 : ∀ b, blk d.a = some b → blk m.a ≠ some b
theorem Rs.keep {F : Nat → Prop} {w w' : World} {rb : Nat} {d m : Sv} {bs ms : List Int} (h : Rs w rb d m bs ms) (k : Keep F w w') (hF : ∀ i, i ≠ rb → Fp rb d m i → ¬ F i) : Rs w' rb d m bs ms :=
  ⟨h.sd.keep k (fun b hb => hF b (fun e => h.e1 (by rw [hb, e])) (.inr (.inl hb))), h.sm.keep k (fun b hb => hF b (fun e => h.e2 (by rw [hb, e])) (.inr (.inr hb))), h.e1, h.e2, h.e3⟩
theorem Rs.q {w w' : World} {rb : Nat} {d m : Sv} {bs ms : List Int} (h : Rs w rb d m bs ms) (k : Q w w') : Rs w' rb d m bs ms := h.keep (Keep.ofQ (F := fun _ => False) k) (fun _ _ _ => id)
/-- .. where a cell of the head is set. -/
theorem Rs.hd {w : World} {rb : Nat} {d m : Sv} {bs ms : List Int} (h : Rs w rb d m bs ms) (j : Nat) (v : Value) : Rs (w.setCell ⟨rb, j, none⟩ v) rb d m bs ms :=
  h.keep ((Keep.refl (fun k => k = rb) w).setCell rb j v (.inl rfl)) (fun i hi _ e => hi e)
/-- .. where a mark is set. -/
theorem Rs.mark {w : World} {rb : Nat} {d m : Sv} {bs ms : List Int} (h : Rs w rb d m bs ms) {g o k : Nat} (ha : m.a = some ⟨g, o, none⟩) (hk : k < m.n) (v : Int) : Rs (w.setCell ⟨g, o + k, none⟩ (.int .u8 v)) rb d m bs (ms.set k v) := by
  have hg : blk m.a = some g := by rw [ha]; rfl
  refine ⟨h.sd.keep ((Keep.refl (fun b => b = g) w).setCell g _ _ (.inl rfl)) (fun b hb e => h.e3 b hb (by rw [hg, e])), ?_, h.e1, h.e2, h.e3⟩
  have := h.sm.set ha (j := k) (by omega) (.int .u8 v)
  show Sub _ 5 1 _ _ _ (u8s (ms.set k v))
  rw [show u8s (ms.set k v) = (u8s ms).set k (.int .u8 v) from List.map_set]
  exact this

/-- The program's queue holds the state s. -/
structure Bf (w : World) (rb : Nat) (d m : Sv) (room : Int) (s : S) : Prop where
  hd : Hd w rb room (bas s) s.sent d m s.fin s.en
  rs : Rs w rb d m (s.bs.drop (bas s)) (s.ms.drop (bas s))
section
variable {w w' : World} {rb : Nat} {d m : Sv} {room : Int} {s : S}
theorem Bf.dn (h : Bf w rb d m room s) : d.n = s.bs.length - bas s := by have := h.rs.sd.len; rw [List.length_drop] at this; omega
theorem Bf.mn (h : Bf w rb d m room s) : m.n = s.ms.length - bas s := by have := h.rs.sm.len; rw [List.length_drop] at this; omega
theorem Bf.lt (h : Bf w rb d m room s) : ∀ i, Fp rb d m i → i < w.heap.size := by
  rintro i (rfl | hi | hi)
  · exact h.hd.lt
  · exact h.rs.sd.lt i hi
  · exact h.rs.sm.lt i hi
theorem Bf.keep {F : Nat → Prop} (h : Bf w rb d m room s) (k : Keep F w w') (hF : ∀ i, Fp rb d m i → ¬ F i) : Bf w' rb d m room s :=
  ⟨h.hd.keep k (hF rb (.inl rfl)), h.rs.keep k (fun i _ hi => hF i hi)⟩
theorem Bf.q (h : Bf w rb d m room s) (k : Q w w') : Bf w' rb d m room s := h.keep (Keep.ofQ (F := fun _ => False) k) (fun _ _ => id)
end

def nilS : Sv := ⟨none, 0, 0⟩

set_option maxHeartbeats 400000 in
theorem new_bad (room : Int) (w : World) (h : ¬ (1 ≤ room ∧ room ≤ 65536)) :
    Calls Try.prog 8 #[.int .i64 room] w fun e w' => e = .returned (.tuple #[.pointer none, .int .i64 20]) ∧ w = w' := by
  by_cases h1 : room < 1
  · have hb : decide (room < 1) = true := by simp [h1]
    go_enter Try.func8, Try.ntmps8
    go_wp2
    go_ret2
    exact ⟨rfl, rfl⟩
  · have hb : decide (room < 1) = false := by simp [h1]
    have hc : (65536 : Int) < room := by omega
    go_enter Try.func8, Try.ntmps8
    go_wp2
    go_ret2
    exact ⟨rfl, rfl⟩

set_option maxHeartbeats 400000 in
theorem new_good (room : Int) (w : World) (h0 : 1 ≤ room) (h1 : room ≤ 65536) :
    Calls Try.prog 8 #[.int .i64 room] w fun e w' => e = .returned (.tuple #[.pointer (some ⟨w.heap.size, 0, none⟩), .int .i64 0]) ∧ Bf w' w.heap.size nilS nilS room s0 ∧ Q w w' ∧ w.heap.size < w'.heap.size := by
  have hb : decide (room < 1) = false := by simp; omega
  have hc : ¬ (65536 : Int) < room := by omega
  go_enter Try.func8, Try.ntmps8
  go_wp2
  go_ret2
  exact ⟨rfl, ⟨heap_alloc_new w _, ⟨sub_nil _ _ _, sub_nil _ _ _, by simp [blk, nilS], by simp [blk, nilS], by simp [blk, nilS]⟩⟩, (Q.refl w).alloc _, by simp⟩

section
variable (rb : Nat) (d m : Sv) (room : Int) (s : S) (w : World)
theorem sent_any (hB : Bf w rb d m room s) : Calls Try.prog 13 #[.pointer (some ⟨rb, 0, none⟩)] w fun e w' => e = .returned (.int .i64 s.sent) ∧ w = w' := by
  have c := hB.hd.c2
  clear hB
  go_enter Try.func13, Try.ntmps13
  go_wp2
  go_ret
  exact ⟨rfl, rfl⟩
theorem base_any (hB : Bf w rb d m room s) : Calls Try.prog 14 #[.pointer (some ⟨rb, 0, none⟩)] w fun e w' => e = .returned (.int .i64 (bas s)) ∧ w = w' := by
  have c := hB.hd.c1
  clear hB
  go_enter Try.func14, Try.ntmps14
  go_wp2
  go_ret
  exact ⟨rfl, rfl⟩
theorem room_any (hB : Bf w rb d m room s) (hO : Ok room s) : Calls Try.prog 11 #[.pointer (some ⟨rb, 0, none⟩)] w fun e w' => e = .returned (.int .i64 (room - ((s.ms.length : Int) - bas s))) ∧ ∃ k, w' = w.drewN k := by
  have c0 := hB.hd.c0
  have c3 := hB.hd.c3
  have hn := hB.dn
  have h1 := hO.r0
  have h2 := hO.r1
  have h3 := hO.room
  have h4 := hO.len
  have h5 := bas_le s
  have hw : IntKind.i64.wrap (room - (d.n : Int)) = room - ((s.ms.length : Int) - bas s) := by rw [IntKind.wrap_i64]; omega
  clear hB hO hn h1 h2 h3 h4 h5
  go_enter Try.func11, Try.ntmps11
  go_wp2
  go_quiet (fail)
  go_wp2
  go_ret
  exact ⟨rfl, _, rfl⟩
theorem written_any (hB : Bf w rb d m room s) (hO : Ok room s) (hL : s.ms.length ≤ 4611686018427387904) : Calls Try.prog 12 #[.pointer (some ⟨rb, 0, none⟩)] w fun e w' => e = .returned (.int .i64 s.ms.length) ∧ ∃ k, w' = w.drewN k := by
  have c1 := hB.hd.c1
  have c3 := hB.hd.c3
  have hn := hB.dn
  have h4 := hO.len
  have h5 := bas_le s
  have hw : IntKind.i64.wrap ((bas s : Int) + (d.n : Int)) = s.ms.length := by rw [IntKind.wrap_i64]; omega
  clear hB hO hn h4 h5 hL
  go_enter Try.func12, Try.ntmps12
  go_wp2
  go_quiet (fail)
  go_wp2
  go_ret
  exact ⟨rfl, _, rfl⟩
theorem done_any (hB : Bf w rb d m room s) (hO : Ok room s) : Calls Try.prog 15 #[.pointer (some ⟨rb, 0, none⟩)] w fun e w' => e = .returned (.bool (dnB s)) ∧ w = w' := by
  have c6 := hB.hd.c6
  have c3 := hB.hd.c3
  have hn := hB.dn
  have h4 := hO.len
  have h5 := bas_le s
  have hz : ((d.n : Int) == 0) = (bas s == s.ms.length) := by
    rw [Bool.eq_iff_iff]; simp; omega
  by_cases he : s.en = 3
  · have e3 : (s.en == 3) = true := by simp [he]
    have HR := hid (show dnB s = (bas s == s.ms.length) from by unfold dnB; rw [e3]; rfl)
    clear hB hO hn h4 h5 he
    go_enter Try.func15, Try.ntmps15
    go_wp2
    go_ret
    exact ⟨ret_bool HR.out.symm, rfl⟩
  · have e3 : (s.en == 3) = false := by simp [he]
    have HR := hid (show dnB s = false from by unfold dnB; rw [e3]; rfl)
    clear hB hO hn h4 h5 he
    go_enter Try.func15, Try.ntmps15
    go_wp2
    go_ret
    exact ⟨ret_bool HR.out.symm, rfl⟩
theorem finish_any (hB : Bf w rb d m room s) : Calls Try.prog 20 #[.pointer (some ⟨rb, 0, none⟩)] w fun e w' => e = .returned (.int .i64 (wrE s)) ∧ Bf w' rb d m room (fiS s) ∧ Keep (fun k => k = rb) w w' := by
  have c5 := hB.hd.c5
  have f5 := hB.hd.free 5
  have HB := hid hB
  clear hB
  cases hf : s.fin
  · rw [hf] at c5
    have HE := hid (show wrE s = 0 from by unfold wrE; rw [hf]; rfl)
    clear hf
    go_enter Try.func20, Try.ntmps20
    go_wp2
    go_ret
    exact ⟨ret_int HE.out.symm, ⟨HB.out.hd.fin_ true, HB.out.rs.hd _ _⟩, (Keep.refl _ _).setCell rb 5 _ (.inl rfl)⟩
  · rw [hf] at c5
    have HE := hid (show wrE s = 40 from by unfold wrE; rw [hf]; rfl)
    have HF := hid (show fiS s = s from by unfold fiS; rw [← hf])
    clear hf
    go_enter Try.func20, Try.ntmps20
    go_wp2
    go_ret
    exact ⟨ret_int HE.out.symm, by rw [HF.out]; exact HB.out, Keep.refl _ _⟩
end
end Go.Proofs.Ytppemfdoogmeeaa
