/-
  Chunk and Last: contracts that the statements' walks use.
-/
import Derived.Test.YtclapheglgiokaaDoorWrC
import Derived.Test.YtclapheglgiokaaDoorWrD
namespace Go.Proofs.YtclapheglgiokaaDoor
open Go.RowKit
set_option linter.unusedVariables false
set_option maxRecDepth 20000

/-- A chunk's bytes. -/
def chkB (bs : List UInt8) : List UInt8 := hexG bs.length ++ [13, 10] ++ bs ++ [13, 10]
/-- Bytes that lie from a place on. -/
def SegB (w : World) (a : Option Addr) (bs : List UInt8) : Prop := bs ≠ [] → ∃ g off, a = some ⟨g, off, none⟩ ∧ ∀ j v, (Lib.byteCells bs)[j]? = some v → w.cell? ⟨g, off + j, none⟩ = some v
theorem SegB.q {w w' : World} {a : Option Addr} {bs : List UInt8} (h : SegB w a bs) (k : Q w w') : SegB w' a bs := by
  intro hne
  obtain ⟨g, off, ha, hc⟩ := h hne
  exact ⟨g, off, ha, fun j v hj => by have := hc j v hj; rw [k.cell (lt_of_cell this)]; exact this⟩
set_option maxHeartbeats 8000000 in
theorem chunk_any (x : Sv) (bs : List UInt8) (w : World) (hx : SegB w x.a bs) (hl : bs.length = x.n) (hlt : ∀ b, blk x.a = some b → b < w.heap.size) (ht : Tb w) (h0 : 0 < bs.length) (h1 : bs.length ≤ 16384) :
    Calls Tryd.prog 18 #[.slice x.a x.n x.c] w fun e w' => ∃ y : Sv, e = .returned (.tuple #[.slice y.a y.n y.c, .int .i64 0]) ∧ Q w w' ∧ BR w' y (chkB bs) ∧ New w.heap.size y := by
  obtain ⟨xa, xn, xc⟩ := x
  dsimp only at hx hl hlt
  subst hl
  obtain ⟨g, off, rfl, hc⟩ := hx (by intro e; subst e; simp at h0)
  have HC := hid hc
  have HG := hid (hlt g rfl)
  have HH := hid (fun W (q : Q w W) => hex_any bs.length W (ht.q q) h1)
  have HLEN := hid (hexG_len h1)
  have e0 : ¬ (16384 : Int) < (bs.length : Int) := by omega
  have e1 : ((bs.length : Int) == 0) = false := by simp; intro e; subst e; simp at h0
  have e1' : ¬ (bs.length : Int) = 0 := by omega
  have H1 := hid h1
  have HW2 := hid (wB_new w)
  have HQ2 := hid ((Q.refl w).alloc (.cells #[.slice none 0 0, .int .i64 0, .int .i8 0] 77))
  clear hx hc hlt ht h0 h1
  go_enter Tryd.func18, Tryd.ntmps18
  go_upto_region 6 with fail
  generalize hW : World.alloc w _ = W2 at *
  clear hW
  generalize hb : w.heap.size = b at HW2 HG
  have HWB := hid hb
  clear hb
  go_wp2_with fail
  refine (HH.out W2 HQ2.out).mono ?_
  rintro e w3 ⟨rfl, q3⟩
  have HW3 := hid (HW2.out.old q3)
  have HF3 := hid (show Below b W2 w3 from Below.mono q3 (by have := HW2.out.lt; omega))
  clear q3 HW2 HH
  have HL1 := hid (show Calls Tryd.prog 33 #[.pointer (some ⟨b, 0, none⟩), .slice (some ⟨w3.heap.size, 0, none⟩) 1 1] (w3.alloc (.cells #[.string ⟨(hexG bs.length).toArray⟩] 9)) fun e w' => e = .returned (.tuple #[]) ∧ WB b b ([] ++ catB [⟨(hexG bs.length).toArray⟩] ++ [13, 10]) w' ∧ Fr b b (w3.alloc (.cells #[.string ⟨(hexG bs.length).toArray⟩] 9)) w' from
    line_any b b [] ⟨some ⟨w3.heap.size, 0, none⟩, 1, 1⟩ [⟨(hexG bs.length).toArray⟩] _ (HW3.out.old ((Below.refl w3.heap.size w3).alloc (Nat.le_refl _) _)) (by rw [World.size_alloc]; have := HW3.out.lt; omega) (txs_new w3 [⟨(hexG bs.length).toArray⟩] 1 rfl) (by show 1 ≤ 1000; omega) (by
      have e : lenB [⟨(hexG bs.length).toArray⟩] = (hexG bs.length).length + 0 := rfl
      have := HLEN.out
      rw [e]; show 0 + _ + 2 ≤ _; omega))
  have HF4 := hid ((Fr.refl b b w3).alloc (.cells #[.string ⟨(hexG bs.length).toArray⟩] 9) (by have := HW3.out.lt; omega))
  go_wp2_with fail
  refine HL1.out.mono ?_
  rintro e w4 ⟨rfl, h4, f4⟩
  have H4 := hid (show WB b b (hexG bs.length ++ [13, 10]) w4 from by
    have e : hexG bs.length ++ [13, 10] = [] ++ catB [⟨(hexG bs.length).toArray⟩] ++ [13, 10] := by simp [catB]
    rw [e]; exact h4)
  have F4 := hid (HF3.out.trans (HF4.out.trans f4).k)
  clear h4 f4 HL1 HF4 HW3 HF3
  go_wp2_with fail
  refine (wbytes_any b b _ (Lib.byteCells bs) ⟨g, off, none⟩ bs.length xc w4 H4.out (by have h1 := H4.out.low; have h2 := H4.out.lt; omega) (Lib.byteCells_one _) (Lib.byteCells_length _) (by have := HG.out; show g ≠ b; omega) (fun j v hj => by
    have h1 := HC.out j v hj
    have h2 : W2.cell? ⟨g, off + j, none⟩ = some v := by rw [HQ2.out.cell (lt_of_cell h1)]; exact h1
    rw [addr_add, World.cell?_of_block (F4.out.block g HG.out)]; exact h2) (Lib.byteCells_one _) (by
    rw [Lib.byteCells_length, List.length_append]
    have h1 := HLEN.out
    have h2 := H1.out
    show _ + 2 + _ ≤ _; omega)).mono ?_
  rintro e w5 ⟨rfl, h5, b5, o5⟩
  have H5 := hid (show WB b b (hexG bs.length ++ [13, 10] ++ bs) w5 from by unfold WB; rw [Lib.byteCells_append]; exact h5)
  have F5 := hid (F4.out.trans b5)
  clear h5 b5 o5 H4 F4
  go_wp2_with fail
  refine (line_any b b _ ⟨none, 0, 0⟩ [] w5 H5.out (by have h1 := H5.out.low; have h2 := H5.out.lt; omega) ⟨rfl, fun h => absurd rfl h⟩ (by decide) (by
    rw [List.length_append, List.length_append]
    have h1 := HLEN.out
    have h2 := H1.out
    show _ + 2 + _ + 0 + 2 ≤ _; omega)).mono ?_
  rintro e w6 ⟨rfl, h6, f6⟩
  have H6 := hid (show WB b b (chkB bs) w6 from by
    have e : chkB bs = hexG bs.length ++ [13, 10] ++ bs ++ catB [] ++ [13, 10] := by unfold chkB catB; simp
    rw [e]; exact h6)
  have F6 := hid (F5.out.trans f6.k)
  clear h6 f6 H5 F5
  go_wp2_with fail
  refine (bytes_any b b _ w6 H6.out).mono ?_
  rintro e w7 ⟨⟨ya, yn, yc⟩, rfl, q7, ry, ny⟩
  have Q7 := hid (show Q w w7 from by
    have h1 := HWB.out
    have h2 := H6.out.lt
    exact (Below.mono HQ2.out (Nat.le_refl _)).trans ((Below.mono F6.out (by omega)).trans (Below.mono q7 (by omega))))
  have RY := hid ry
  have NY := hid (show New w.heap.size ⟨ya, yn, yc⟩ from fun g e => by have h1 := (ny g e).1; have h2 := HWB.out; omega)
  clear q7 ry ny
  go_wp2_with fail
  go_ret2
  exact ⟨⟨ya, yn, yc⟩, rfl, Q7.out, RY.out, NY.out⟩
end Go.Proofs.YtclapheglgiokaaDoor
