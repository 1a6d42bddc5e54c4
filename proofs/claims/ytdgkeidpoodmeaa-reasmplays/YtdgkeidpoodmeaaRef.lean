/-
  The document's own buffer in memory, and what its Ready and Held answer: contracts that the walk of the law ReasmPlays uses.
-/
import Derived.Test.YtdgkeidpoodmeaaPair
namespace Go.Proofs.Ytdgkeidpoodmeaa
open Go.RowKit
set_option linter.unusedVariables false

/-- The cells of the bytes, and of which of them were taken. -/
def bys (xs : Sl) : List Value := (vals xs).map (Value.int .u8)
def hvs (xs : Sl) : List Value := xs.map fun o => .bool o.isSome
theorem bys_len (xs : Sl) : (bys xs).length = xs.length := by simp [bys, vals_len]
theorem hvs_len (xs : Sl) : (hvs xs).length = xs.length := by simp [hvs]
theorem bys_get {xs : Sl} {k : Nat} (h : k < xs.length) : (bys xs)[k]? = some (.int .u8 ((at_ xs k).getD 0)) := by
  unfold bys vals
  rw [List.getElem?_map, List.getElem?_map, at_eq h]; rfl
theorem hvs_get {xs : Sl} {k : Nat} (h : k < xs.length) : (hvs xs)[k]? = some (.bool (at_ xs k).isSome) := by
  unfold hvs
  rw [List.getElem?_map, at_eq h]; rfl
theorem bys_drop (xs : Sl) (k : Nat) : (bys xs).drop (k * 1) = bys (xs.drop k) := by simp [bys, vals]
theorem hvs_drop (xs : Sl) (k : Nat) : (hvs xs).drop (k * 1) = hvs (xs.drop k) := by simp [hvs]
theorem bys_append (xs ys : Sl) : bys (xs ++ ys) = bys xs ++ bys ys := by simp [bys, vals]
theorem hvs_append (xs ys : Sl) : hvs (xs ++ ys) = hvs xs ++ hvs ys := by simp [hvs]
theorem bys_set (xs : Sl) (k : Nat) (v : Int) : (bys xs).set k (.int .u8 v) = bys (xs.set k (some v)) := by simp [bys, vals, List.map_set]
theorem hvs_set (xs : Sl) (k : Nat) (v : Int) : (hvs xs).set k (.bool true) = hvs (xs.set k (some v)) := by simp [hvs, List.map_set]

/-- The document's buffer: its own cells. -/
def Hr (w : World) (rd : Nat) (room off high fin : Int) (known : Bool) (ab : Option Addr) (nb cb : Nat) (ah : Option Addr) (nh ch : Nat) : Prop :=
  w.heap[rd]? = some (.cells #[.int .i64 room, .int .i64 off, .int .i64 high, .bool known, .int .i64 fin, .slice ab nb cb, .slice ah nh ch] 38 (0, 0))
section
variable {w w' : World} {rd : Nat} {room off high fin : Int} {known : Bool} {ab : Option Addr} {nb cb : Nat} {ah : Option Addr} {nh ch : Nat}
theorem Hr.c0 (h : Hr w rd room off high fin known ab nb cb ah nh ch) : w.cell? ⟨rd, 0, none⟩ = some (.int .i64 room) := by rw [cell_of_row w rd 0 _ 38 (0, 0) h]; rfl
theorem Hr.c1 (h : Hr w rd room off high fin known ab nb cb ah nh ch) : w.cell? ⟨rd, 1, none⟩ = some (.int .i64 off) := by rw [cell_of_row w rd 1 _ 38 (0, 0) h]; rfl
theorem Hr.c2 (h : Hr w rd room off high fin known ab nb cb ah nh ch) : w.cell? ⟨rd, 2, none⟩ = some (.int .i64 high) := by rw [cell_of_row w rd 2 _ 38 (0, 0) h]; rfl
theorem Hr.c3 (h : Hr w rd room off high fin known ab nb cb ah nh ch) : w.cell? ⟨rd, 3, none⟩ = some (.bool known) := by rw [cell_of_row w rd 3 _ 38 (0, 0) h]; rfl
theorem Hr.c4 (h : Hr w rd room off high fin known ab nb cb ah nh ch) : w.cell? ⟨rd, 4, none⟩ = some (.int .i64 fin) := by rw [cell_of_row w rd 4 _ 38 (0, 0) h]; rfl
theorem Hr.c5 (h : Hr w rd room off high fin known ab nb cb ah nh ch) : w.cell? ⟨rd, 5, none⟩ = some (.slice ab nb cb) := by rw [cell_of_row w rd 5 _ 38 (0, 0) h]; rfl
theorem Hr.c6 (h : Hr w rd room off high fin known ab nb cb ah nh ch) : w.cell? ⟨rd, 6, none⟩ = some (.slice ah nh ch) := by rw [cell_of_row w rd 6 _ 38 (0, 0) h]; rfl
theorem Hr.free (h : Hr w rd room off high fin known ab nb cb ah nh ch) (j : Nat) : w.frozen? ⟨rd, j, none⟩ = false := frozen_of_row w rd j _ 38 h
theorem Hr.lt (h : Hr w rd room off high fin known ab nb cb ah nh ch) : rd < w.heap.size := lt_of_block h
theorem Hr.off_ (h : Hr w rd room off high fin known ab nb cb ah nh ch) (q : Int) : Hr (w.setCell ⟨rd, 1, none⟩ (.int .i64 q)) rd room q high fin known ab nb cb ah nh ch := by
  have := heap_setCell_same w rd 1 _ 38 (.int .i64 q) h
  simpa [Hr] using this
theorem Hr.high_ (h : Hr w rd room off high fin known ab nb cb ah nh ch) (q : Int) : Hr (w.setCell ⟨rd, 2, none⟩ (.int .i64 q)) rd room off q fin known ab nb cb ah nh ch := by
  have := heap_setCell_same w rd 2 _ 38 (.int .i64 q) h
  simpa [Hr] using this
theorem Hr.known_ (h : Hr w rd room off high fin known ab nb cb ah nh ch) (q : Bool) : Hr (w.setCell ⟨rd, 3, none⟩ (.bool q)) rd room off high fin q ab nb cb ah nh ch := by
  have := heap_setCell_same w rd 3 _ 38 (.bool q) h
  simpa [Hr] using this
theorem Hr.fin_ (h : Hr w rd room off high fin known ab nb cb ah nh ch) (q : Int) : Hr (w.setCell ⟨rd, 4, none⟩ (.int .i64 q)) rd room off high q known ab nb cb ah nh ch := by
  have := heap_setCell_same w rd 4 _ 38 (.int .i64 q) h
  simpa [Hr] using this
theorem Hr.bytes_ (h : Hr w rd room off high fin known ab nb cb ah nh ch) (a' : Option Addr) (n' c' : Nat) : Hr (w.setCell ⟨rd, 5, none⟩ (.slice a' n' c')) rd room off high fin known a' n' c' ah nh ch := by
  have := heap_setCell_same w rd 5 _ 38 (.slice a' n' c') h
  simpa [Hr] using this
theorem Hr.have_ (h : Hr w rd room off high fin known ab nb cb ah nh ch) (a' : Option Addr) (n' c' : Nat) : Hr (w.setCell ⟨rd, 6, none⟩ (.slice a' n' c')) rd room off high fin known ab nb cb a' n' c' := by
  have := heap_setCell_same w rd 6 _ 38 (.slice a' n' c') h
  simpa [Hr] using this
theorem Hr.keep {F : Nat → Prop} (h : Hr w rd room off high fin known ab nb cb ah nh ch) (k : Keep F w w') (hF : ¬ F rd) : Hr w' rd room off high fin known ab nb cb ah nh ch := (k.block rd h.lt hF).trans h
theorem Hr.q (h : Hr w rd room off high fin known ab nb cb ah nh ch) (k : Q w w') : Hr w' rd room off high fin known ab nb cb ah nh ch := h.keep (Keep.ofQ (F := fun _ => False) k) id
end

/-- Where its two rows lie. -/
structure A where
  ab : Option Addr
  cb : Nat
  ah : Option Addr
  ch : Nat
/-- The blocks that are its own. -/
def Fr (rd : Nat) (x : A) (k : Nat) : Prop := k = rd ∨ blk x.ab = some k ∨ blk x.ah = some k

/-- The document's buffer holds these places. -/
structure Rw (w : World) (rd : Nat) (x : A) (n : Nat) (room off high fin : Int) (known : Bool) (xs : Sl) : Prop where
  hd : Hr w rd room off high fin known x.ab n x.cb x.ah n x.ch
  sb : Sub w 5 1 x.ab n x.cb (bys xs)
  sh : Sub w 4 1 x.ah n x.ch (hvs xs)
  e1 : blk x.ab ≠ some rd
  e2 : blk x.ah ≠ some rd
  e3 : ∀ b, blk x.ab = some b → blk x.ah ≠ some b
section
variable {w w' : World} {rd : Nat} {x : A} {n : Nat} {room off high fin : Int} {known : Bool} {xs : Sl}
theorem Rw.len (h : Rw w rd x n room off high fin known xs) : xs.length = n := by have := h.sh.1; rw [hvs_len] at this; omega
theorem Rw.keep {F : Nat → Prop} (h : Rw w rd x n room off high fin known xs) (k : Keep F w w') (hF : ∀ i, Fr rd x i → ¬ F i) : Rw w' rd x n room off high fin known xs :=
  ⟨h.hd.keep k (hF rd (.inl rfl)), h.sb.keep k (fun b hb => hF b (.inr (.inl hb))), h.sh.keep k (fun b hb => hF b (.inr (.inr hb))), h.e1, h.e2, h.e3⟩
theorem Rw.q (h : Rw w rd x n room off high fin known xs) (k : Q w w') : Rw w' rd x n room off high fin known xs := h.keep (Keep.ofQ (F := fun _ => False) k) (fun _ _ => id)
theorem Rw.lt (h : Rw w rd x n room off high fin known xs) : ∀ i, Fr rd x i → i < w.heap.size := by
  rintro i (rfl | hi | hi)
  · exact h.hd.lt
  · exact h.sb.lt i hi
  · exact h.sh.lt i hi
theorem Rw.hcell (h : Rw w rd x n room off high fin known xs) {k : Nat} (hk : k < n) : ∃ g o, x.ah = some ⟨g, o, none⟩ ∧ (∀ j, w.frozen? ⟨g, j, none⟩ = false) ∧ w.cell? ⟨g, o + k, none⟩ = some (.bool (at_ xs k).isSome) := by
  obtain ⟨g, o, ha, hf, hc⟩ := h.sh.some_ (by omega)
  exact ⟨g, o, ha, hf, hc k _ (hvs_get (by have := h.len; omega))⟩
theorem Rw.bcell (h : Rw w rd x n room off high fin known xs) {k : Nat} (hk : k < n) : ∃ g o, x.ab = some ⟨g, o, none⟩ ∧ (∀ j, w.frozen? ⟨g, j, none⟩ = false) ∧ w.cell? ⟨g, o + k, none⟩ = some (.int .u8 ((at_ xs k).getD 0)) := by
  obtain ⟨g, o, ha, hf, hc⟩ := h.sb.some_ (by omega)
  exact ⟨g, o, ha, hf, hc k _ (bys_get (by have := h.len; omega))⟩
end

set_option maxHeartbeats 1000000 in
theorem rready_any (rd : Nat) (x : A) (n : Nat) (room off high fin : Int) (known : Bool) (xs : Sl) (w : World) (hr : Rw w rd x n room off high fin known xs) (hn : n ≤ 65536) :
    Calls Try.prog 21 #[.pointer (some ⟨rd, 0, none⟩)] w fun e w' => e = .returned (.int .i64 (rdy xs)) ∧ w = w' := by
  have c6 := hr.hd.c6
  have HR := hid hr
  have HL := hid hr.len
  have HRL := hid (rdy_le xs)
  clear hr
  go_enter Try.func21, Try.ntmps21
  go_wp2
  go_loopw [3] (fun i wr => ∃ k : Nat, k ≤ rdy xs ∧ i = .int .i64 k ∧ w = wr) (fun i _ => n - (intOf i).toNat)
  case atStart => exact ⟨0, Nat.zero_le _, rfl, rfl⟩
  case round =>
    obtain ⟨k, hk, rfl, rfl⟩ := hrel
    by_cases hlt : k < rdy xs
    · obtain ⟨v, hv⟩ := rdy_some hlt
      have hkn : k < n := by have := HRL.out; have := HL.out; omega
      have hkn' : (k : Int) < (n : Int) := by omega
      have hkd : decide ((k : Int) < (n : Int)) = true := by simp; omega
      obtain ⟨g, o, ha, _, d0⟩ := HR.out.hcell hkn
      rw [ha] at c6
      rw [hv] at d0
      simp only [Option.isSome_some] at d0
      have HLT := hid hlt
      clear hlt hv hk
      go_wp2
      go_roundw
      case rel => exact ⟨k + 1, HLT.out, by go_num, trivial⟩
      case measure => simp [intOf]; omega
    · obtain rfl : k = rdy xs := by omega
      have hno := rdy_none xs
      by_cases hkn : rdy xs < n
      · have hkn' : (rdy xs : Int) < (n : Int) := by omega
        have hkd : decide ((rdy xs : Int) < (n : Int)) = true := by simp; omega
        obtain ⟨g, o, ha, _, d0⟩ := HR.out.hcell hkn
        rw [ha] at c6
        rw [hno] at d0
        simp only [Option.isSome_none] at d0
        clear hlt hno hk
        go_wp2
        go_ret
        exact ⟨rfl, rfl⟩
      · have hkd : decide ((rdy xs : Int) < (n : Int)) = false := by simp; omega
        clear hlt hno hk
        go_wp2
        go_ret
        exact ⟨rfl, rfl⟩

theorem held_take {xs : Sl} {i : Nat} (h : i < xs.length) : heldN (xs.take (i + 1)) = heldN (xs.take i) + if (at_ xs i).isSome then 1 else 0 := by
  rw [List.take_add_one, at_eq h, held_append]
  show _ + heldN [at_ xs i] = _
  rw [held_cons]
  simp [heldN]

set_option maxHeartbeats 1000000 in
theorem rheld_any (rd : Nat) (x : A) (n : Nat) (room off high fin : Int) (known : Bool) (xs : Sl) (w : World) (hr : Rw w rd x n room off high fin known xs) (hn : n ≤ 65536) :
    Calls Try.prog 22 #[.pointer (some ⟨rd, 0, none⟩)] w fun e w' => e = .returned (.int .i64 (heldN xs)) ∧ w = w' := by
  have c6 := hr.hd.c6
  have HR := hid hr
  have HL := hid hr.len
  clear hr
  go_enter Try.func22, Try.ntmps22
  go_wp2
  go_loopw [4, 3] (fun i v wr => ∃ k : Nat, k ≤ n ∧ i = .int .i64 k ∧ v = .int .i64 (heldN (xs.take k)) ∧ w = wr) (fun i _ _ => n - (intOf i).toNat)
  case atStart => exact ⟨0, Nat.zero_le _, rfl, rfl, rfl⟩
  case round =>
    obtain ⟨k, hk, rfl, rfl, rfl⟩ := hrel
    by_cases hkn : k < n
    · have hkn' : (k : Int) < (n : Int) := by omega
      obtain ⟨g, o, ha, _, d0⟩ := HR.out.hcell hkn
      rw [ha] at c6
      have HT := hid (held_take (xs := xs) (i := k) (by have := HL.out; omega))
      have hb : heldN (xs.take k) ≤ 65536 := by have := held_le (xs.take k); rw [List.length_take] at this; omega
      generalize heldN (xs.take k) = q at *
      cases hv : (at_ xs k).isSome with
      | true =>
        rw [hv] at d0 HT
        clear hv
        go_wp2
        go_roundw
        case rel => exact ⟨k + 1, by omega, by go_num, by rw [HT.out]; go_num, trivial⟩
        case measure => simp [intOf]; omega
      | false =>
        rw [hv] at d0 HT
        clear hv
        go_wp2
        go_roundw
        case rel => exact ⟨k + 1, by omega, by go_num, by rw [HT.out]; rfl, trivial⟩
        case measure => simp [intOf]; omega
    · obtain rfl : k = n := by omega
      rw [List.take_of_length_le (by rw [HL.out]; exact Nat.le_refl _)]
      go_wp2
      go_ret
      exact ⟨rfl, rfl⟩
end Go.Proofs.Ytdgkeidpoodmeaa
