/-
  The document's own queue in memory, and what its Base, Left, Done, first and Finish answer: contracts that the walk of the law SendqPlays uses.
-/
import Derived.Test.YtppemfdoogmeeaaIx
namespace Go.Proofs.Ytppemfdoogmeeaa
open Go.RowKit
set_option linter.unusedVariables false

abbrev i64s (zs : List Int) : List Value := zs.map (.int .i64)
abbrev RowN (w : World) (d : Sv) (zs : List Int) : Prop := Sub w 3 1 d.a d.n d.c (i64s zs)
theorem RowN.len {w : World} {d : Sv} {zs : List Int} (h : RowN w d zs) : zs.length = d.n := by simpa using h.1
theorem rown_cells {w : World} {d : Sv} {zs : List Int} (h : RowN w d zs) (hn : 0 < d.n) : ∃ g o, d.a = some ⟨g, o, none⟩ ∧ (∀ j, w.frozen? ⟨g, j, none⟩ = false) ∧ ∀ i, i < d.n → w.cell? ⟨g, o + i, none⟩ = some (.int .i64 (at_ zs i)) := by
  have hl := h.len
  obtain ⟨g, o, ha, hf, hc⟩ := h.some_ hn
  refine ⟨g, o, ha, hf, fun i hi => hc i _ ?_⟩
  rw [List.getElem?_map, at_get (by omega)]; rfl

def Hr (w : World) (rd : Nat) (room : Int) (sent : Nat) (x y : Sv) (fin : Bool) (en : Int) : Prop :=
  w.heap[rd]? = some (.cells #[.int .i64 room, .int .i64 sent, .slice x.a x.n x.c, .slice y.a y.n y.c, .bool fin, .int .i64 en] 36 (0, 0))
section
variable {w w' : World} {rd : Nat} {room : Int} {sent : Nat} {x y : Sv} {fin : Bool} {en : Int}
theorem Hr.c0 (h : Hr w rd room sent x y fin en) : w.cell? ⟨rd, 0, none⟩ = some (.int .i64 room) := by rw [cell_of_row w rd 0 _ 36 (0, 0) h]; rfl
theorem Hr.c1 (h : Hr w rd room sent x y fin en) : w.cell? ⟨rd, 1, none⟩ = some (.int .i64 sent) := by rw [cell_of_row w rd 1 _ 36 (0, 0) h]; rfl
theorem Hr.c2 (h : Hr w rd room sent x y fin en) : w.cell? ⟨rd, 2, none⟩ = some (.slice x.a x.n x.c) := by rw [cell_of_row w rd 2 _ 36 (0, 0) h]; rfl
theorem Hr.c3 (h : Hr w rd room sent x y fin en) : w.cell? ⟨rd, 3, none⟩ = some (.slice y.a y.n y.c) := by rw [cell_of_row w rd 3 _ 36 (0, 0) h]; rfl
theorem Hr.c4 (h : Hr w rd room sent x y fin en) : w.cell? ⟨rd, 4, none⟩ = some (.bool fin) := by rw [cell_of_row w rd 4 _ 36 (0, 0) h]; rfl
theorem Hr.c5 (h : Hr w rd room sent x y fin en) : w.cell? ⟨rd, 5, none⟩ = some (.int .i64 en) := by rw [cell_of_row w rd 5 _ 36 (0, 0) h]; rfl
theorem Hr.free (h : Hr w rd room sent x y fin en) (j : Nat) : w.frozen? ⟨rd, j, none⟩ = false := frozen_of_row w rd j _ 36 h
theorem Hr.lt (h : Hr w rd room sent x y fin en) : rd < w.heap.size := lt_of_block h
theorem Hr.sent_ (h : Hr w rd room sent x y fin en) (q : Nat) : Hr (w.setCell ⟨rd, 1, none⟩ (.int .i64 q)) rd room q x y fin en := by
  have := heap_setCell_same w rd 1 _ 36 (.int .i64 q) h
  simpa [Hr] using this
theorem Hr.data_ (h : Hr w rd room sent x y fin en) (q : Sv) : Hr (w.setCell ⟨rd, 2, none⟩ (.slice q.a q.n q.c)) rd room sent q y fin en := by
  have := heap_setCell_same w rd 2 _ 36 (.slice q.a q.n q.c) h
  simpa [Hr] using this
theorem Hr.state_ (h : Hr w rd room sent x y fin en) (q : Sv) : Hr (w.setCell ⟨rd, 3, none⟩ (.slice q.a q.n q.c)) rd room sent x q fin en := by
  have := heap_setCell_same w rd 3 _ 36 (.slice q.a q.n q.c) h
  simpa [Hr] using this
theorem Hr.fin_ (h : Hr w rd room sent x y fin en) (q : Bool) : Hr (w.setCell ⟨rd, 4, none⟩ (.bool q)) rd room sent x y q en := by
  have := heap_setCell_same w rd 4 _ 36 (.bool q) h
  simpa [Hr] using this
theorem Hr.end_ (h : Hr w rd room sent x y fin en) (q : Int) : Hr (w.setCell ⟨rd, 5, none⟩ (.int .i64 q)) rd room sent x y fin q := by
  have := heap_setCell_same w rd 5 _ 36 (.int .i64 q) h
  simpa [Hr] using this
theorem Hr.keep {F : Nat → Prop} (h : Hr w rd room sent x y fin en) (k : Keep F w w') (hF : ¬ F rd) : Hr w' rd room sent x y fin en := (k.block rd h.lt hF).trans h
theorem Hr.q (h : Hr w rd room sent x y fin en) (k : Q w w') : Hr w' rd room sent x y fin en := h.keep (Keep.ofQ (F := fun _ => False) k) id
end

/-- Its rows. -/
structure Rr (w : World) (rd : Nat) (x y : Sv) (bs ms : List Int) : Prop where
  sd : Row w x bs
  sm : RowN w y ms
  e1 : blk x.a ≠ some rd
  e2 : blk y.a ≠ some rd
  e3 : ∀ b, blk x.a = some b → blk y.a ≠ some b
theorem Rr.keep {F : Nat → Prop} {w w' : World} {rd : Nat} {x y : Sv} {bs ms : List Int} (h : Rr w rd x y bs ms) (k : Keep F w w') (hF : ∀ i, i ≠ rd → Fp rd x y i → ¬ F i) : Rr w' rd x y bs ms :=
  ⟨h.sd.keep k (fun b hb => hF b (fun e => h.e1 (by rw [hb, e])) (.inr (.inl hb))), h.sm.keep k (fun b hb => hF b (fun e => h.e2 (by rw [hb, e])) (.inr (.inr hb))), h.e1, h.e2, h.e3⟩
theorem Rr.q {w w' : World} {rd : Nat} {x y : Sv} {bs ms : List Int} (h : Rr w rd x y bs ms) (k : Q w w') : Rr w' rd x y bs ms := h.keep (Keep.ofQ (F := fun _ => False) k) (fun _ _ _ => id)
theorem Rr.hd {w : World} {rd : Nat} {x y : Sv} {bs ms : List Int} (h : Rr w rd x y bs ms) (j : Nat) (v : Value) : Rr (w.setCell ⟨rd, j, none⟩ v) rd x y bs ms :=
  h.keep ((Keep.refl (fun k => k = rd) w).setCell rd j v (.inl rfl)) (fun i hi _ e => hi e)
theorem Rr.mark {w : World} {rd : Nat} {x y : Sv} {bs ms : List Int} (h : Rr w rd x y bs ms) {g o k : Nat} (ha : y.a = some ⟨g, o, none⟩) (hk : k < y.n) (v : Int) : Rr (w.setCell ⟨g, o + k, none⟩ (.int .i64 v)) rd x y bs (ms.set k v) := by
  have hg : blk y.a = some g := by rw [ha]; rfl
  refine ⟨h.sd.keep ((Keep.refl (fun b => b = g) w).setCell g _ _ (.inl rfl)) (fun b hb e => h.e3 b hb (by rw [hg, e])), ?_, h.e1, h.e2, h.e3⟩
  have := h.sm.set ha (j := k) (by omega) (.int .i64 v)
  show Sub _ 3 1 _ _ _ (i64s (ms.set k v))
  rw [show i64s (ms.set k v) = (i64s ms).set k (.int .i64 v) from List.map_set]
  exact this

/-- The document's queue holds the state s. -/
structure Rw (w : World) (rd : Nat) (x y : Sv) (room : Int) (s : S) : Prop where
  hd : Hr w rd room s.sent x y s.fin s.en
  rs : Rr w rd x y s.bs s.ms
section
variable {w w' : World} {rd : Nat} {x y : Sv} {room : Int} {s : S}
theorem Rw.lt (h : Rw w rd x y room s) : ∀ i, Fp rd x y i → i < w.heap.size := by
  rintro i (rfl | hi | hi)
  · exact h.hd.lt
  · exact h.rs.sd.lt i hi
  · exact h.rs.sm.lt i hi
theorem Rw.keep {F : Nat → Prop} (h : Rw w rd x y room s) (k : Keep F w w') (hF : ∀ i, Fp rd x y i → ¬ F i) : Rw w' rd x y room s :=
  ⟨h.hd.keep k (hF rd (.inl rfl)), h.rs.keep k (fun i _ hi => hF i hi)⟩
theorem Rw.q (h : Rw w rd x y room s) (k : Q w w') : Rw w' rd x y room s := h.keep (Keep.ofQ (F := fun _ => False) k) (fun _ _ => id)
end

section
variable (rd : Nat) (x y : Sv) (room : Int) (s : S) (w : World)
set_option maxHeartbeats 1000000 in
theorem rbase_any (hR : Rw w rd x y room s) (hL : s.ms.length ≤ 4611686018427387904) : Calls Try.prog 32 #[.pointer (some ⟨rd, 0, none⟩)] w fun e w' => e = .returned (.int .i64 (bas s)) ∧ w = w' := by
  have c3 := hR.hd.c3
  have hl := hR.rs.sm.len
  have hb := bas_le s
  have HA := hid (ld_at 3 s.ms)
  have HE := hid (ld_end 3 s.ms)
  have HS := hid hR.rs.sm
  have HB := hid (show bas s = ld 3 s.ms from rfl)
  have HL := hid hl
  generalize hq : bas s = q at *
  rw [← HB.out] at HA HE
  have hqn : q ≤ y.n := by omega
  have hyn : y.n ≤ 4611686018427387904 := by omega
  clear hR hl hb hq hL
  go_enter Try.func32, Try.ntmps32
  go_wp2
  go_loopw [3] (fun i wr => ∃ j : Nat, j ≤ q ∧ i = .int .i64 j ∧ wr = w) (fun i _ => q + 1 - (intOf i).toNat)
  case atStart => exact ⟨0, Nat.zero_le _, rfl, rfl⟩
  case round =>
    obtain ⟨j, hj, rfl, rfl⟩ := hrel
    by_cases hlt : j < q
    · have hjm : j < y.n := by omega
      have hjm' : (j : Int) < (y.n : Int) := by omega
      obtain ⟨g, o, e, _, hc⟩ := rown_cells HS.out (show 0 < y.n by omega)
      have hcj := hc j hjm
      rw [HA.out j hlt] at hcj
      rw [e] at c3
      have hwi : IntKind.i64.wrap ((j : Int) + 1) = ((j + 1 : Nat) : Int) := by rw [IntKind.wrap_i64]; omega
      clear hc e
      go_wp2
      go_roundw
      case rel => exact ⟨j + 1, by omega, by go_num, by first | rfl | trivial⟩
      case measure => simp [intOf]; omega
    · obtain rfl : j = q := by omega
      by_cases hz : j < y.n
      · have hz' : (j : Int) < (y.n : Int) := by omega
        obtain ⟨g, o, e, _, hc⟩ := rown_cells HS.out (show 0 < y.n by omega)
        have hcj := hc j hz
        have hne : (at_ s.ms j != 3) = true := by
          have := HE.out (by rw [HL.out]; exact hz)
          simpa using this
        rw [e] at c3
        generalize at_ s.ms j = v at *
        clear hc e
        go_wp2
        go_ret
        exact ⟨rfl, rfl⟩
      · have hz' : decide ((j : Int) < (y.n : Int)) = false := by simp; omega
        have hjy : (y.n : Int) = j := by omega
        go_wp2
        go_ret
        exact ⟨by first | exact ret_int hjy | rfl, rfl⟩

/-- The first one of a kind, or -1. -/
def ixv (v : Int) (ks : List Int) : Int := if fs v ks < ks.length then (fs v ks : Int) else -1

set_option maxHeartbeats 1000000 in
theorem rfirst_any (v : Int) (hR : Rw w rd x y room s) (hL : s.ms.length ≤ 4611686018427387904) : Calls Try.prog 39 #[.pointer (some ⟨rd, 0, none⟩), .int .i64 v] w fun e w' => e = .returned (.int .i64 (ixv v s.ms)) ∧ w = w' := by
  have c3 := hR.hd.c3
  have hl := hR.rs.sm.len
  have hb := fs_le v s.ms
  have HA := hid (fs_lt v s.ms)
  have HE := hid (fs_at v s.ms)
  have HS := hid hR.rs.sm
  have HL := hid hl
  have HX := hid (show ixv v s.ms = if fs v s.ms < s.ms.length then (fs v s.ms : Int) else -1 from rfl)
  generalize fs v s.ms = q at *
  have hqn : q ≤ y.n := by omega
  have hyn : y.n ≤ 4611686018427387904 := by omega
  clear hR hl hb hL
  go_enter Try.func39, Try.ntmps39
  go_wp2
  go_loopw [5] (fun i wr => ∃ j : Nat, j ≤ q ∧ i = .int .i64 j ∧ wr = w) (fun i _ => q + 1 - (intOf i).toNat)
  case atStart => exact ⟨0, Nat.zero_le _, rfl, rfl⟩
  case round =>
    obtain ⟨j, hj, rfl, rfl⟩ := hrel
    by_cases hz : j < y.n
    · have hz' : (j : Int) < (y.n : Int) := by omega
      obtain ⟨g, o, e, _, hc⟩ := rown_cells HS.out (show 0 < y.n by omega)
      have hcj := hc j hz
      rw [e] at c3
      have hwi : IntKind.i64.wrap ((j : Int) + 1) = ((j + 1 : Nat) : Int) := by rw [IntKind.wrap_i64]; omega
      clear hc e
      by_cases hlt : j < q
      · have hne : (at_ s.ms j == v) = false := by have := HA.out j hlt; simpa using this
        generalize at_ s.ms j = u at *
        go_wp2
        go_roundw
        case rel => exact ⟨j + 1, by omega, by go_num, by first | rfl | trivial⟩
        case measure => simp [intOf]; omega
      · obtain rfl : j = q := by omega
        rw [HE.out (by rw [HL.out]; exact hz)] at hcj
        have hee : (v == v) = true := by simp
        go_wp2
        go_ret
        exact ⟨ret_int (by rw [HX.out, if_pos (by rw [HL.out]; exact hz)]), rfl⟩
    · have hz' : decide ((j : Int) < (y.n : Int)) = false := by simp; omega
      have HJ := hid (show ¬ q < y.n by omega)
      go_wp2
      go_ret
      exact ⟨ret_int (by rw [HX.out, if_neg (by rw [HL.out]; exact HJ.out)]), rfl⟩

theorem rleft_any (hR : Rw w rd x y room s) (hO : Ok room s) (hL : s.ms.length ≤ 4611686018427387904) : Calls Try.prog 33 #[.pointer (some ⟨rd, 0, none⟩)] w fun e w' => e = .returned (.int .i64 (room - ((s.ms.length : Int) - bas s))) ∧ ∃ k, w' = w.drewN k := by
  have c0 := hR.hd.c0
  have c2 := hR.hd.c2
  have hx : x.n = s.ms.length := by rw [← hR.rs.sd.len]; exact hO.len
  rw [hx] at c2
  have hb := bas_le s
  have h1 := hO.r0
  have h2 := hO.r1
  have h3 := hO.room
  have HB := hid (fun k => rbase_any rd x y room s (w.drewN k) (hR.q ((Q.refl w).drewN k)) hL)
  have hw1 : IntKind.i64.wrap ((s.ms.length : Int) - (bas s : Int)) = (s.ms.length : Int) - bas s := by rw [IntKind.wrap_i64]; omega
  have hw2 : IntKind.i64.wrap (room - ((s.ms.length : Int) - (bas s : Int))) = room - ((s.ms.length : Int) - bas s) := by rw [IntKind.wrap_i64]; omega
  clear hR hO hL hx hb h1 h2 h3
  go_enter Try.func33, Try.ntmps33
  go_wp2
  go_quiet (first | (go_at_call 32; exact Calls.quiet_of_same ((HB.out _).mono (fun e w' h => ⟨h.1, h.2.symm⟩))))
  go_wp2
  go_ret
  exact ⟨rfl, _, rfl⟩

theorem rdone_any (hR : Rw w rd x y room s) (hO : Ok room s) (hL : s.ms.length ≤ 4611686018427387904) : Calls Try.prog 34 #[.pointer (some ⟨rd, 0, none⟩)] w fun e w' => e = .returned (.bool (dnB s)) ∧ ∃ k, w' = w.drewN k := by
  have c5 := hR.hd.c5
  have c2 := hR.hd.c2
  have hx : x.n = s.ms.length := by rw [← hR.rs.sd.len]; exact hO.len
  rw [hx] at c2
  have HB := hid (fun k => rbase_any rd x y room s (w.drewN k) (hR.q ((Q.refl w).drewN k)) hL)
  by_cases he : s.en = 3
  · have e3 : (s.en == 3) = true := by simp [he]
    have HR := hid (show dnB s = (bas s == s.ms.length) from by unfold dnB; rw [e3]; rfl)
    have HC := hid (show ((bas s : Int) == (s.ms.length : Int)) = (bas s == s.ms.length) from by rw [Bool.eq_iff_iff]; simp; omega)
    rw [he] at c5
    clear hR hO hL hx he
    go_enter Try.func34, Try.ntmps34
    go_wp2
    go_quiet (first | (go_at_call 32; exact Calls.quiet_of_same ((HB.out _).mono (fun e w' h => ⟨h.1, h.2.symm⟩))))
    go_wp2
    go_ret
    exact ⟨ret_bool (by rw [HR.out, ← HC.out]), _, rfl⟩
  · have e3 : (s.en == 3) = false := by simp [he]
    have HR := hid (show dnB s = false from by unfold dnB; rw [e3]; rfl)
    clear hR hO hL hx he
    go_enter Try.func34, Try.ntmps34
    go_wp2
    go_quiet (fail)
    go_wp2
    go_ret
    exact ⟨ret_bool HR.out.symm, _, rfl⟩

theorem rfinish_any (hR : Rw w rd x y room s) : Calls Try.prog 29 #[.pointer (some ⟨rd, 0, none⟩)] w fun e w' => e = .returned (.int .i64 (wrE s)) ∧ Rw w' rd x y room (fiS s) ∧ Keep (fun k => k = rd) w w' := by
  have c4 := hR.hd.c4
  have f4 := hR.hd.free 4
  have HB := hid hR
  clear hR
  cases hf : s.fin
  · rw [hf] at c4
    have HE := hid (show wrE s = 0 from by unfold wrE; rw [hf]; rfl)
    clear hf
    go_enter Try.func29, Try.ntmps29
    go_wp2
    go_ret
    exact ⟨ret_int HE.out.symm, ⟨HB.out.hd.fin_ true, HB.out.rs.hd _ _⟩, (Keep.refl _ _).setCell rd 4 _ (.inl rfl)⟩
  · rw [hf] at c4
    have HE := hid (show wrE s = 40 from by unfold wrE; rw [hf]; rfl)
    have HF := hid (show fiS s = s from by unfold fiS; rw [← hf])
    clear hf
    go_enter Try.func29, Try.ntmps29
    go_wp2
    go_ret
    exact ⟨ret_int HE.out.symm, by rw [HF.out]; exact HB.out, Keep.refl _ _⟩
end
end Go.Proofs.Ytppemfdoogmeeaa
