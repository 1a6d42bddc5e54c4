/-
  The writer's lines: contracts that the statements' walks use.
-/
import Derived.Test.YtclapheglgiokaaDoorSh
import Derived.Test.YtclapheglgiokaaDoorRnU
import Derived.Lib.BufferAt
import Derived.Lib.Hide
namespace Go.Proofs.YtclapheglgiokaaDoor
open Go.RowKit
set_option linter.unusedVariables false
set_option maxRecDepth 20000

/-- A writer in memory: block b, made at or behind block B, that holds these bytes. -/
def WB (B b : Nat) (bs : List UInt8) (w : World) : Prop := LibA.IsBuffer 77 (fun _ => none) 5 B b 0 (Lib.byteCells bs) w
theorem WB.low {B b : Nat} {bs : List UInt8} {w : World} (h : WB B b bs w) : B ≤ b := h.1
theorem WB.lt {B b : Nat} {bs : List UInt8} {w : World} (h : WB B b bs w) : b < w.heap.size := LibA.IsBuffer.lt h
theorem wB_new (w : World) : WB w.heap.size w.heap.size [] (w.alloc (.cells #[.slice none 0 0, .int .i64 0, .int .i8 0] 77)) :=
  LibA.zero_isBuffer (Nat.le_refl _) (LibA.three_whole (blk_new w #[.slice none 0 0, .int .i64 0, .int .i8 0] 77))
theorem WB.tag {B b : Nat} {bs : List UInt8} {w : World} (h : WB B b bs w) {c : Array Value} {e : TypeId} {fz : Nat × Nat} (hc : w.heap[b]? = some (.cells c e fz)) : e = 77 := by
  obtain ⟨_, v, lr, h3, _⟩ := h
  exact h3.tag hc
theorem WB.old {B b : Nat} {bs : List UInt8} {w w' : World} (h : WB B b bs w) (q : Below w.heap.size w w') : WB B b bs w' := LibA.IsBuffer.old h q
/-- What the writers leave as it was. -/
structure Fr (B b : Nat) (w w' : World) : Prop where
  k : Below B w w'
  o : Lib.OthersKept 5 (some b) w w'
theorem Fr.refl (B b : Nat) (w : World) : Fr B b w w := ⟨Below.refl B w, Lib.OthersKept.refl _ _ _⟩
theorem Fr.trans {B b : Nat} {u v w : World} (h : Fr B b u v) (k : Fr B b v w) : Fr B b u w := ⟨h.k.trans k.k, h.o.trans k.o⟩
theorem Fr.alloc {B b : Nat} {u v : World} (h : Fr B b u v) (o : Obj) (hB : B ≤ v.heap.size) : Fr B b u (v.alloc o) := ⟨h.k.alloc hB o, h.o.alloc o⟩
theorem Fr.drew {B b : Nat} {u v : World} (h : Fr B b u v) : Fr B b u v.drew := ⟨h.k.drew, h.o⟩
/-- A block that is no row of bytes and not the writer's own stands. -/
theorem Fr.blk {B b : Nat} {u v : World} {bs : List UInt8} (h : Fr B b u v) (hw : WB B b bs u) {g t : Nat} {cs : Array Value} (hg : Blk u g t cs) (h5 : t ≠ 5) (h77 : t ≠ 77) : Blk v g t cs :=
  h.o g _ hg (by intro e; cases e; exact h77 (hw.tag hg)) (by intro c fz e; cases e; exact h5 rfl)
theorem Fr.at {B b : Nat} {u v : World} (h : Fr B b u v) {g t : Nat} {cs : Array Value} (hg : Blk u g t cs) (h5 : t ≠ 5) (hb : g ≠ b) : Blk v g t cs :=
  h.o g _ hg (by intro e; cases e; exact hb rfl) (by intro c fz e; cases e; exact h5 rfl)
/-- A row of texts, at a block's head. -/
def Txs (w : World) (x : Sv) (ps : List ByteArray) : Prop := ps.length = x.n ∧ (ps ≠ [] → ∃ g, x.a = some ⟨g, 0, none⟩ ∧ Blk w g 9 (ps.map Value.string).toArray)
/-- The bytes of some texts behind one another. -/
def catB (ps : List ByteArray) : List UInt8 := ps.flatMap fun s => s.data.toList
def lenB (ps : List ByteArray) : Nat := (ps.map (·.size)).sum
theorem catB_len (ps : List ByteArray) : (catB ps).length = lenB ps := by
  unfold catB lenB
  rw [List.length_flatMap]
  rfl
theorem catB_snoc {ps : List ByteArray} {k : Nat} {s : ByteArray} (h : ps[k]? = some s) : catB (ps.take (k + 1)) = catB (ps.take k) ++ s.data.toList := by
  unfold catB
  rw [List.take_add_one, h, List.flatMap_append]
  simp
theorem lenB_take (ps : List ByteArray) (k : Nat) : (catB (ps.take k)).length ≤ lenB ps := by
  rw [← catB_len]
  conv => rhs; rw [← List.take_append_drop k ps]
  unfold catB
  rw [List.flatMap_append, List.length_append]
  exact Nat.le_add_right _ _
theorem crlf_cells : Lib.byteCells [13, 10] = Lib.byteCells (⟨#[13, 10]⟩ : ByteArray).data.toList := rfl
set_option maxHeartbeats 4000000 in
theorem line_any (B b : Nat) (bs : List UInt8) (x : Sv) (ps : List ByteArray) (w : World) (h : WB B b bs w) (hB : B ≤ w.heap.size) (hx : Txs w x ps) (hn : ps.length ≤ 1000) (hl : bs.length + lenB ps + 2 ≤ 140737488355328) :
    Calls Tryd.prog 33 #[.pointer (some ⟨b, 0, none⟩), .slice x.a x.n x.c] w fun e w' => e = .returned (.tuple #[]) ∧ WB B b (bs ++ catB ps ++ [13, 10]) w' ∧ Fr B b w w' := by
  obtain ⟨xa, xn, xc⟩ := x
  obtain ⟨hl', hx⟩ := hx
  dsimp only at hl' hx
  subst hl'
  have HX := hid hx
  have HW := hid h
  have HBB := hid hB
  have HL := hid hl
  clear hx h hB hl
  go_enter Tryd.func33, Tryd.ntmps33
  go_wp2_with fail
  go_loopw [5, 8] (fun p i wr => ∃ k : Nat, k ≤ ps.length ∧ i = .int .i64 (k : Int) ∧ WB B b (bs ++ catB (ps.take k)) wr ∧ Fr B b w wr) (fun _ i _ => ps.length - (intOf i).toNat)
  case atStart => exact ⟨0, by omega, rfl, by simpa [catB] using HW.out, Fr.refl _ _ _⟩
  case round =>
    obtain ⟨k, hk, rfl, hw, hf⟩ := hrel
    have HWR := hid hw
    have HF := hid hf
    have HSZ := hid (show B ≤ wr.heap.size from by have h1 := hw.low; have h2 := hw.lt; omega)
    by_cases hlt : k < ps.length
    · obtain ⟨g, ha, hb⟩ := HX.out (by intro e; subst e; simp at hlt)
      subst ha
      have hbr := hf.blk HW.out hb (by decide) (by decide)
      have hs : ps[k]? = some ps[k] := List.getElem?_eq_getElem hlt
      generalize ps[k] = s at hs
      have c0 : wr.cell? ⟨g, k, none⟩ = some (.string s) := by rw [hbr.cell]; simp [hs]
      have hki : (k : Int) < (ps.length : Int) := by omega
      have hk0 : (0 : Int) ≤ (k : Int) := by omega
      have hkb : (k : Int) < 1000 := by omega
      have HSN := hid (catB_snoc hs)
      have HLS := hid (show (bs ++ catB (ps.take k)).length + s.size ≤ 140737488355328 from by
        have h1 := lenB_take ps (k + 1)
        rw [catB_snoc hs, List.length_append] at h1
        have h2 : s.data.toList.length = s.size := rfl
        have h3 := HL.out
        rw [List.length_append]
        omega)
      clear hw hf hb hbr hs
      go_wp2_with (go_at_call 59; refine (wstr_any B b _ s _ HWR.out HSZ.out (Lib.byteCells_one _) (by rw [Lib.byteCells_length]; exact HLS.out)).mono ?_; rintro e w1 ⟨rfl, h1, b1, o1⟩; have H1 := hid h1; have F1 := hid (HF.out.trans ⟨b1, o1⟩); clear h1 b1 o1)
      go_roundw
      case rel => exact ⟨k + 1, by omega, by go_num, by rw [HSN.out, ← List.append_assoc]; unfold WB; rw [Lib.byteCells_append]; exact H1.out, F1.out⟩
      case measure => simp [intOf]; omega
    · have hki : ¬ (k : Int) < (ps.length : Int) := by omega
      have e0 : ps.take k = ps := List.take_of_length_le (by omega)
      rw [e0] at HWR
      have HLS := hid (show (bs ++ catB ps).length + 2 ≤ 140737488355328 from by rw [List.length_append, catB_len]; exact HL.out)
      clear hw hf e0
      go_wp2_with (go_at_call 59; refine (wstr_any B b _ ⟨#[13, 10]⟩ _ HWR.out HSZ.out (Lib.byteCells_one _) (by rw [Lib.byteCells_length]; exact HLS.out)).mono ?_; rintro e w1 ⟨rfl, h1, b1, o1⟩; have H1 := hid h1; have F1 := hid (HF.out.trans ⟨b1, o1⟩); clear h1 b1 o1)
      go_end0
      exact ⟨rfl, by unfold WB; rw [Lib.byteCells_append]; exact H1.out, F1.out⟩
theorem txs_new (w : World) (ps : List ByteArray) (n : Nat) (hn : ps.length = n) : Txs (w.alloc (.cells (ps.map Value.string).toArray 9)) ⟨some ⟨w.heap.size, 0, none⟩, n, n⟩ ps :=
  ⟨hn, fun _ => ⟨_, rfl, blk_new w _ 9⟩⟩
set_option maxHeartbeats 4000000 in
theorem field_any (B b : Nat) (bs : List UInt8) (n v : ByteArray) (w : World) (h : WB B b bs w) (hB : B ≤ w.heap.size) (hl : bs.length + n.size + v.size + 4 ≤ 140737488355328) :
    Calls Tryd.prog 34 #[.pointer (some ⟨b, 0, none⟩), .string n, .string v] w fun e w' => e = .returned (.tuple #[]) ∧ WB B b (bs ++ (n.data.toList ++ [58, 32] ++ v.data.toList ++ [13, 10])) w' ∧ Fr B b w w' := by
  have HS := show B ≤ (w.alloc (.cells #[.string n, .string ⟨#[58, 32]⟩, .string v] 9)).heap.size from by rw [World.size_alloc]; omega
  have HF := hid ((Fr.refl B b w).alloc (.cells #[.string n, .string ⟨#[58, 32]⟩, .string v] 9) hB)
  have HC := hid (show bs ++ catB [n, ⟨#[58, 32]⟩, v] ++ [13, 10] = bs ++ (n.data.toList ++ [58, 32] ++ v.data.toList ++ [13, 10]) from by simp [catB])
  have HL := show bs.length + lenB [n, ⟨#[58, 32]⟩, v] + 2 ≤ 140737488355328 from by
    have e : lenB [n, ⟨#[58, 32]⟩, v] = n.size + (2 + (v.size + 0)) := rfl
    rw [e]; omega
  have HK := hid (show Calls Tryd.prog 33 #[.pointer (some ⟨b, 0, none⟩), .slice (some ⟨w.heap.size, 0, none⟩) 3 3] (w.alloc (.cells #[.string n, .string ⟨#[58, 32]⟩, .string v] 9)) fun e w' => e = .returned (.tuple #[]) ∧ WB B b (bs ++ catB [n, ⟨#[58, 32]⟩, v] ++ [13, 10]) w' ∧ Fr B b (w.alloc (.cells #[.string n, .string ⟨#[58, 32]⟩, .string v] 9)) w' from
    line_any B b bs ⟨some ⟨w.heap.size, 0, none⟩, 3, 3⟩ [n, ⟨#[58, 32]⟩, v] _ (h.old ((Below.refl w.heap.size w).alloc (Nat.le_refl _) _)) HS (txs_new w [n, ⟨#[58, 32]⟩, v] 3 rfl) (by show 3 ≤ 1000; omega) HL)
  clear h hB hl HS HL
  go_enter Tryd.func34, Tryd.ntmps34
  go_wp2_with (go_at_call 33; refine HK.out.mono ?_; rintro e w1 ⟨rfl, h1, f1⟩; have H1 := hid h1; have F1 := hid (HF.out.trans f1); clear h1 f1)
  go_end0
  exact ⟨rfl, by rw [← HC.out]; exact H1.out, F1.out⟩
/-- A row of bytes in memory. -/
def BR (w : World) (x : Sv) (bs : List UInt8) : Prop := Sub w 5 1 x.a x.n x.c (Lib.byteCells bs)
set_option maxHeartbeats 4000000 in
theorem bytes_any (B b : Nat) (bs : List UInt8) (w : World) (h : WB B b bs w) : Calls Tryd.prog 37 #[.pointer (some ⟨b, 0, none⟩)] w fun e w' => ∃ y : Sv, e = .returned (.slice y.a y.n y.c) ∧ Q w w' ∧ BR w' y bs ∧ (∀ g, blk y.a = some g → B ≤ g ∧ g ≠ b) := by
  obtain ⟨hB, lr, hc⟩ := LibA.IsBuffer.cases h
  rcases hc with ⟨he, h3⟩ | ⟨g, cap, cur, h3, hBg, hg, hn, hm, hs, ht, hne⟩
  · have c0 := h3.c0
    have c1 := h3.c1
    have HE := hid (show bs = [] from by
      have e := congrArg List.length he
      rw [Lib.byteCells_length] at e
      exact List.eq_nil_of_length_eq_zero e)
    clear h3 he h
    go_enter Tryd.func37, Tryd.ntmps37
    go_wp2_with fail
    go_region
    all_goals
      go_wp2
      go_ret
      exact ⟨⟨none, 0, 0⟩, rfl, (Q.refl w).drew, by rw [HE.out]; exact sub_nil _ _ _, fun g e => by cases e⟩
  · have c0 := h3.c0
    have c1 := h3.c1
    have HR := hid (show ∀ W : World, W.heap[g]? = some (.cells cur 5 (0, 0)) → BR W ⟨some ⟨g, 0, none⟩, (Lib.byteCells bs).length, cap⟩ bs from fun W hW =>
      ⟨by rw [Nat.mul_one], .inr ⟨g, 0, cur, rfl, hW, hn, hm, by show 0 + cap * 1 ≤ cur.size; omega, fun j hj => by
        rw [Nat.mul_one] at hj
        conv => rhs; rw [← ht]
        rw [List.getElem?_take, if_pos hj, Nat.zero_add, Array.getElem?_toList]⟩⟩)
    have HG := hid hg
    have HB := hid (show B ≤ g ∧ g ≠ b from ⟨hBg, hne⟩)
    have hnc : ((Lib.byteCells bs).length : Int) ≤ (cap : Int) := by omega
    have hmc : (cap : Int) ≤ 9223372036854775807 := by unfold maxLen at hm; omega
    clear h3 h ht hs hg hBg hne
    generalize (Lib.byteCells bs).length = n at *
    go_enter Tryd.func37, Tryd.ntmps37
    go_wp2_with fail
    go_region
    all_goals
      go_wp2
      go_ret
      exact ⟨⟨some ⟨g, 0, none⟩, n, cap⟩, rfl, (Q.refl w).drew, HR.out _ HG.out, fun g' e => by cases e; exact HB.out⟩
end Go.Proofs.YtclapheglgiokaaDoor
