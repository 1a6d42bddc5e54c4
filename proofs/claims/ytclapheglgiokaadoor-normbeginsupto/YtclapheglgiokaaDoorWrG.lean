/-
  The document's Copy of bytes, Hex, Chunk, Last: contracts that the statements' walks use.
-/
import Derived.Test.YtclapheglgiokaaDoorWrF
import Derived.Test.YtclapheglgiokaaDoorDoD
import Derived.Laws.CopyOwn
import Derived.Deep.RegionHeld3
import Derived.BigQuiet
import Derived.Deep.QuietTactic
namespace Go.Proofs.YtclapheglgiokaaDoor
open Go.RowKit
set_option linter.unusedVariables false
set_option maxRecDepth 20000

theorem info5u : (Tryd.prog.info? 5).map (fun i => (i.zero, i.size, i.bytes)) = some (some (.int .u8 0), 1, 1) := by kernel_rfl
theorem made_u8 (n : Nat) : (madeCells (Value.int .u8 0).cells (n * 1)).toList = Lib.byteCells (List.replicate n 0) := by
  apply List.ext_getElem?
  intro j
  by_cases hj : j < n
  · simp [madeCells, Value.cells, Lib.byteCells, hj, Nat.mod_one]
  · rw [List.getElem?_eq_none (by simp [madeCells, Value.cells]; omega), List.getElem?_eq_none (by rw [Lib.byteCells_length, List.length_replicate]; omega)]
theorem copyB_run {w1 : World} {a : Option Addr} {g n c : Nat} {bs : List UInt8} (h : SegB w1 a bs) (hl : bs.length = n) (hm : n ≤ maxLen) (hb : w1.heap[g]? = some (.cells (Lib.byteCells (List.replicate n 0)).toArray 5 (0, 0))) :
    ∃ w2, (Builtin.copy_ #[28, 28] 3 #[.slice (some ⟨g, 0, none⟩) n n, .slice a n c]).run Tryd.prog w1 = .ok (goInt n) w2 ∧ Keep (fun i => i = g) w1 w2 ∧ BR w2 ⟨some ⟨g, 0, none⟩, n, n⟩ bs := by
  obtain ⟨i0, hi, hz0, hz1, hz2⟩ := info_parts info5u
  by_cases h0 : n = 0
  · subst h0
    obtain rfl : bs = [] := List.eq_nil_of_length_eq_zero hl
    refine ⟨w1, ?_, Keep.refl _ _, rfl, .inr ⟨g, 0, _, rfl, hb, Nat.le_refl _, by show 0 ≤ maxLen; omega, by simp, fun j hj => by simp at hj⟩⟩
    cases a <;> simp [Builtin.copy_, run_underlying Tryd.underlying28, Builtin.lenOf, sizeOf, typeInfo, hi, storeCells, Builtin.firstCells, loadCells, loadCellsFrom]
  · obtain ⟨b, off, rfl, hc⟩ := h (by intro e; rw [e] at hl; simp at hl; omega)
    have hsrc : ∀ j v, (Lib.byteCells bs)[j]? = some v → w1.cell? ((⟨b, off, none⟩ : Addr).add j) = some v := fun j v hj => by
      rw [addr_add]; exact hc j v hj
    have hf := run_firstCells_some (P := Tryd.prog) w1 1 n ⟨b, off, none⟩ n c (Lib.byteCells bs) (by rw [Lib.byteCells_length, hl, Nat.mul_one]) hsrc
    have hst := run_storeCells_at Tryd.prog g 0 5 (Lib.byteCells bs) 0 _ w1 hb (by rw [List.size_toArray, Lib.byteCells_length, Lib.byteCells_length, List.length_replicate]; omega) (Lib.byteCells_one bs)
    have e2 : List.drop (Lib.byteCells bs).length (Lib.byteCells (List.replicate n 0)) = [] := List.drop_of_length_le (by rw [Lib.byteCells_length, Lib.byteCells_length]; simp [hl])
    simp only [Nat.add_zero, Nat.zero_add, List.take_zero, List.nil_append, e2, List.append_nil] at hst
    have hk := keep_row hb (Lib.byteCells bs)
    refine ⟨_, ?_, hk.1, ?_⟩
    · simp [Builtin.copy_, run_underlying Tryd.underlying28, Builtin.lenOf, sizeOf, typeInfo, hi, hz1, hf, hst]
    · exact ⟨by rw [Lib.byteCells_length, hl, Nat.mul_one], .inr ⟨g, 0, _, rfl, hk.2, Nat.le_refl _, hm, by rw [List.size_toArray, Lib.byteCells_length]; show 0 + n * 1 ≤ _; omega, fun j hj => by simp⟩⟩
theorem own_blockB {w u : World} {m : Nat} {vs : List UInt8} (h : u.ownsRow w.heap.size 5 1 (.slice (some ⟨w.heap.size, 0, none⟩) m m) m (Lib.byteCells vs)) : u.heap[w.heap.size]? = some (.cells (Lib.byteCells vs).toArray 5 (0, 0)) := by
  rcases h.2 with ⟨h2, h3⟩ | ⟨g, cap', cur, hv, hb, hg, h1, h2, h3, h4⟩
  · cases h2
  · simp only [Value.slice.injEq, Option.some.injEq, Addr.mk.injEq, and_true, true_and] at hv
    obtain ⟨rfl, rfl⟩ := hv
    rw [hg, ← h4, List.take_of_length_le (by simp; omega)]
set_option maxHeartbeats 1000000 in
theorem copyb_any (x : Sv) (bs : List UInt8) (w : World) (h : SegB w x.a bs) (hl : bs.length = x.n) (hn : x.n ≤ 4398046511104) : Calls Tryd.prog 19 #[.slice x.a x.n x.c] w fun e w' => ∃ g, e = .returned (.slice (some ⟨g, 0, none⟩) x.n x.n) ∧ Q w w' ∧ BR w' ⟨some ⟨g, 0, none⟩, x.n, x.n⟩ bs ∧ w.heap.size ≤ g := by
  obtain ⟨i0, hi, hz0, hz1, hz2⟩ := info_parts info5u
  obtain ⟨a, n, c⟩ := x
  dsimp only at *
  have HL := hid hl
  have HSG := hid h
  clear h hl
  go_enter Tryd.func19, Tryd.ntmps19
  go_wp2_with (at_make; refine wpList_make_full _ rfl _ _ 28 rfl w.heap.size 5 i0 (.int .u8 0) 1 Tryd.underlying28 hi hz0 hz1 .i64 .i64 _ _ n rfl rfl rfl rfl (by rw [hz2]; omega) (by unfold maxLen; omega) (Nat.le_refl _) ?_; intro w1 hown hgr)
  have hq : Q w w1 := (Q.refl w).grown hgr
  rw [made_u8] at hown
  obtain ⟨w2, hrun, hk2, hr2⟩ := copyB_run (c := c) (HSG.out.q hq) HL.out (by unfold maxLen; omega) (own_blockB hown)
  have H2 := hid (show Q w w2 from hk2.below hq hq.size (fun i e => by omega))
  have O2 := hid hr2
  clear hown hgr hq hk2 hr2
  rw [hrun]
  clear hrun
  go_wp2
  go_ret
  exact ⟨w.heap.size, rfl, H2.out, O2.out, Nat.le_refl _⟩
theorem BR.seg {w : World} {y : Sv} {bs : List UInt8} (h : BR w y bs) : SegB w y.a bs := by
  intro hne
  rcases h.2 with ⟨_, h2, _⟩ | ⟨g, off, cur, h1, hg, _, _, _, h4⟩
  · exfalso
    have hl := h.1
    rw [Lib.byteCells_length, h2] at hl
    exact hne (List.eq_nil_of_length_eq_zero (by omega))
  · refine ⟨g, off, h1, fun j v hj => ?_⟩
    have hj' : j < y.n * 1 := by
      rw [← h.1]
      exact (List.getElem?_eq_some_iff.1 hj).1
    rw [cell_of_row w g _ cur 5 (0, 0) hg, h4 j hj', hj]
theorem BR.len {w : World} {y : Sv} {bs : List UInt8} (h : BR w y bs) : bs.length = y.n := by have := h.1; rw [Lib.byteCells_length] at this; omega
theorem BR.q {w w' : World} {y : Sv} {bs : List UInt8} (h : BR w y bs) (k : Q w w') : BR w' y bs := Sub.q' h k
/-- Bytes as a text. -/
theorem seg_strB {w : World} {a : Option Addr} {n c : Nat} {bs : List UInt8} (h : SegB w a bs) (hl : bs.length = n) (h0 : 0 < n) : (convert 28 9 (.slice a n c)).run Tryd.prog w = .ok (.string ⟨bs.toArray⟩) w := by
  obtain ⟨g, off, rfl, hc⟩ := h (by intro e; rw [e] at hl; simp at hl; omega)
  rw [← hl]
  refine run_convert_bytes_back w 28 9 5 ⟨g, off, none⟩ c bs Tryd.underlying28 Tryd.underlying5 Tryd.underlying9 (fun j hj => ?_)
  rw [addr_add, hc j _ (show (Lib.byteCells bs)[j]? = some (.int .u8 (bs[j].toNat : Int)) from by simp [Lib.byteCells, hj])]
theorem bcat (a b : List UInt8) : (⟨a.toArray⟩ : ByteArray) ++ ⟨b.toArray⟩ = ⟨(a ++ b).toArray⟩ := by
  apply ByteArray.ext
  simp
/-- One digit out of the document's sixteen. -/
theorem dig_sl (d : Nat) (h : d < 16) : (⟨#[48, 49, 50, 51, 52, 53, 54, 55, 56, 57, 97, 98, 99, 100, 101, 102]⟩ : ByteArray).extract d (d + 1) = ⟨#[hxd d]⟩ := by
  have : ∀ d, d < 16 → (⟨#[48, 49, 50, 51, 52, 53, 54, 55, 56, 57, 97, 98, 99, 100, 101, 102]⟩ : ByteArray).extract d (d + 1) = ⟨#[hxd d]⟩ := by decide +kernel
  exact this d h
set_option maxHeartbeats 4000000 in
theorem rhex_any (n : Nat) (w : World) (hn : n ≤ 16384) : Calls Tryd.prog 49 #[.int .i64 (n : Int)] w fun e w' => e = .returned (.string ⟨(hexG n).toArray⟩) ∧ w' = w := by
  go_enter Tryd.func49, Tryd.ntmps49
  go_wp2_with fail
  go_loop [0, 3] (fun u s => ∃ (m : Nat) (ds : List UInt8), m ≤ 16384 ∧ u = .int .i64 (m : Int) ∧ s = .string ⟨ds.toArray⟩ ∧ hexG m ++ ds = hexG n ∧ ds.length ≤ 3 ∧ (m < 16 ∨ ds.length = 0 ∨ ds.length = 1 ∧ m ≤ 1024 ∨ ds.length = 2 ∧ m ≤ 64)) (fun u _ => (intOf u).toNat)
  case atStart => exact ⟨n, [], hn, rfl, rfl, by simp, by simp, .inr (.inl rfl)⟩
  case round =>
    obtain ⟨m, ds, hm, rfl, rfl, hx, hdl3, hds⟩ := hrel
    have HDS := hid hds
    clear hds
    obtain ⟨d, hdd⟩ : ∃ d, d = m % 16 := ⟨_, rfl⟩
    have hdl : d < 16 := by omega
    have hrem : (m : Int) % 16 = (d : Int) := by omega
    have hd0 : (0 : Int) ≤ (d : Int) := by omega
    have hd1 : (d : Int) < 16 := by omega
    have hm0 : (0 : Int) ≤ (m : Int) := by omega
    have hmb : (m : Int) ≤ 16384 := by omega
    have hsl := dig_sl d hdl
    have HD := hid hdd
    have HX0 := hid hx
    clear hdd hx
    go_wp2_with fail
    · rename_i hz _
      have h16 : m < 16 := by have h := eq_of_beq hz; omega
      have HX := hid (show hxd d :: ds = hexG n from by rw [← HX0.out, hexG_lt h16, HD.out, Nat.mod_eq_of_lt h16]; rfl)
      go_ret
      exact ⟨congrArg (fun x => Ending.returned (Value.string x)) ((bcat [hxd d] ds).trans (congrArg (fun z : List UInt8 => (⟨z.toArray⟩ : ByteArray)) HX.out)), rfl⟩
    · rename_i hz
      have h16 : ¬ m < 16 := by intro h; rw [show (m : Int) / 16 = 0 from by omega] at hz; exact absurd hz (by decide)
      have HX := hid (show hexG (m / 16) ++ (hxd d :: ds) = hexG n from by
        have hge : hexG m = hexG (m / 16) ++ [hxd d] := by rw [HD.out]; exact hexG_ge h16
        rw [← HX0.out, hge]; simp)
      exact ⟨⟨m / 16, hxd d :: ds, by omega, by first | rfl | simp, congrArg Value.string (bcat [hxd d] ds), HX.out, by rcases HDS.out with h | h | ⟨h, _⟩ | ⟨h, _⟩ <;> simp only [List.length_cons] <;> omega, by
        rcases HDS.out with h | h | ⟨h, h'⟩ | ⟨h, h'⟩
        · omega
        · exact .inr (.inr (.inl ⟨by rw [List.length_cons, h], by omega⟩))
        · exact .inr (.inr (.inr ⟨by rw [List.length_cons, h], by omega⟩))
        · exact .inl (by omega)⟩, by simp [intOf]; omega⟩
end Go.Proofs.YtclapheglgiokaaDoor
