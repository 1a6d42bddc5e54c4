/-
  The head of a request that has no fields and no body: a contract that the statements' walks use.
-/
import Derived.Test.YtclapheglgiokaaDoorWrB
import Derived.Deep.Cut
namespace Go.Proofs.YtclapheglgiokaaDoor
open Go.RowKit
set_option linter.unusedVariables false
set_option maxRecDepth 20000

def sHTTP : ByteArray := ⟨#[32, 72, 84, 84, 80, 47, 49, 46, 49]⟩
def sHost : ByteArray := ⟨#[104, 111, 115, 116]⟩
def sVia : ByteArray := ⟨#[118, 105, 97]⟩
def sTurn : ByteArray := ⟨#[51, 32, 116, 117, 114, 110, 112, 105, 107, 101]⟩
/-- A field's line. -/
def fldB (n v : ByteArray) : List UInt8 := n.data.toList ++ [58, 32] ++ v.data.toList ++ [13, 10]
/-- The request's line, the host's. -/
def topB (m p a : ByteArray) : List UInt8 := catB [m, ⟨#[32]⟩, p, sHTTP] ++ [13, 10] ++ fldB sHost a
def endB : List UInt8 := fldB sVia sTurn ++ [13, 10]
theorem fldB_len (n v : ByteArray) : (fldB n v).length = n.size + v.size + 4 := by
  unfold fldB
  simp only [List.length_append]
  have h1 : n.data.toList.length = n.size := rfl
  have h2 : v.data.toList.length = v.size := rfl
  simp
  omega
theorem topB_len (m p a : ByteArray) : (topB m p a).length = m.size + p.size + a.size + 20 := by
  unfold topB
  rw [List.length_append, List.length_append, catB_len, fldB_len]
  have e : lenB [m, ⟨#[32]⟩, p, sHTTP] = m.size + (1 + (p.size + (9 + 0))) := rfl
  have e2 : sHost.size = 4 := rfl
  rw [e, e2]
  simp
  omega
set_option maxHeartbeats 8000000 in
theorem head_nil (m sc a p : ByteArray) (n : Int) (w : World) (hc : eqS m kCNT = false) (h0 : frm m n false = 0) (hs : m.size + p.size + a.size ≤ 70368744177664) :
    Calls Tryd.prog 11 #[.agg (rqC m sc a p ⟨none, 0, 0⟩ n), .bool false] w fun e w' => ∃ y : Sv, e = .returned (.tuple #[.slice y.a y.n y.c, .int .i64 0]) ∧ Q w w' ∧ BR w' y (topB m p a ++ endB) ∧ New w.heap.size y := by
  have HFR := hid (fun bw W => wframing_none bw m sc a p ⟨none, 0, 0⟩ n false W h0)
  have HS := hid hs
  have hmc : (m.toList == [67, 79, 78, 78, 69, 67, 84]) = false := (beq_lit m _).trans hc
  have HQ1 := hid ((Q.refl w).alloc (.cells (rqC m sc a p ⟨none, 0, 0⟩ n) 24))
  have HB1 := hid (blk_new w (rqC m sc a p ⟨none, 0, 0⟩ n) 24)
  clear hc h0 hs
  go_enter Tryd.func11, Tryd.ntmps11
  go_upto_region 1 with fail
  generalize hW : World.alloc w _ = W1 at *
  clear hW
  have HLQ := hid HB1.out.lt
  generalize hbq : w.heap.size = bq at HB1 HLQ ⊢
  have HBQ := hid (Nat.le_of_eq hbq)
  clear hbq
  have c10 : W1.cell? ⟨bq, 0, none⟩ = some (.string m) := HB1.out.cell 0
  go_upto_region 4 with fail
  clear c10
  have HW2 := hid (wB_new W1)
  have HLW := hid (show W1.heap.size < (W1.alloc (.cells #[.slice none 0 0, .int .i64 0, .int .i8 0] 77)).heap.size from HW2.out.lt)
  have HQ2 := hid (HQ1.out.alloc (.cells #[.slice none 0 0, .int .i64 0, .int .i8 0] 77))
  have HB2 := hid (HB1.out.q ((Q.refl W1).alloc (.cells #[.slice none 0 0, .int .i64 0, .int .i8 0] 77)))
  have HSB := hid (show w.heap.size ≤ W1.heap.size from Below.size HQ1.out)
  clear HB1 HQ1
  generalize hW : World.alloc W1 _ = W2 at *
  clear hW
  generalize W1.heap.size = b at *
  have c20 : W2.cell? ⟨bq, 0, none⟩ = some (.string m) := HB2.out.cell 0
  have c23 : W2.cell? ⟨bq, 3, none⟩ = some (.string p) := HB2.out.cell 3
  have HL1 := hid (show Calls Tryd.prog 33 #[.pointer (some ⟨b, 0, none⟩), .slice (some ⟨W2.heap.size, 0, none⟩) 4 4] (W2.alloc (.cells #[.string m, .string ⟨#[32]⟩, .string p, .string sHTTP] 9)) fun e w' => e = .returned (.tuple #[]) ∧ WB b b ([] ++ catB [m, ⟨#[32]⟩, p, sHTTP] ++ [13, 10]) w' ∧ Fr b b (W2.alloc (.cells #[.string m, .string ⟨#[32]⟩, .string p, .string sHTTP] 9)) w' from
    line_any b b [] ⟨some ⟨W2.heap.size, 0, none⟩, 4, 4⟩ [m, ⟨#[32]⟩, p, sHTTP] _ (HW2.out.old ((Below.refl W2.heap.size W2).alloc (Nat.le_refl _) _)) (by rw [World.size_alloc]; have := HLW.out; omega) (txs_new W2 [m, ⟨#[32]⟩, p, sHTTP] 4 rfl) (by show 4 ≤ 1000; omega) (by
      have e : lenB [m, ⟨#[32]⟩, p, sHTTP] = m.size + (1 + (p.size + (9 + 0))) := rfl
      have := HS.out
      rw [e]; show 0 + _ + 2 ≤ _; omega))
  have HF1 := hid ((Fr.refl b b W2).alloc (.cells #[.string m, .string ⟨#[32]⟩, .string p, .string sHTTP] 9) (by have := HLW.out; omega))
  clear HW2
  go_wp2_with fail
  refine HL1.out.mono ?_
  rintro e w3 ⟨rfl, h3, f3⟩
  have H3 := hid h3
  have F3 := hid (HF1.out.trans f3)
  have LQB := hid (show bq < b from HLQ.out)
  have c32 : w3.cell? ⟨bq, 2, none⟩ = some (.string a) := (show Blk w3 bq 24 (rqC m sc a p ⟨none, 0, 0⟩ n) from (F3.out.k.block bq LQB.out).trans HB2.out).cell 2
  clear h3 f3 c20 c23 HL1 HF1
  go_wp2_with fail
  refine (field_any b b _ sHost a w3 H3.out (by have h1 := H3.out.low; have h2 := H3.out.lt; omega) (by
    rw [List.nil_append, List.length_append, catB_len]
    have e : lenB [m, ⟨#[32]⟩, p, sHTTP] = m.size + (1 + (p.size + (9 + 0))) := rfl
    have e2 : sHost.size = 4 := rfl
    have := HS.out
    rw [e, e2]; show _ + 2 + _ + _ + _ ≤ _; omega)).mono ?_
  rintro e w4 ⟨rfl, h4, f4⟩
  have H4 := hid (show WB b b (topB m p a) w4 from h4)
  have F4 := hid (F3.out.trans f4)
  have c44 : w4.cell? ⟨bq, 4, none⟩ = some (.slice none 0 0) := (show Blk w4 bq 24 (rqC m sc a p ⟨none, 0, 0⟩ n) from (F4.out.k.block bq LQB.out).trans HB2.out).cell 4
  clear h4 f4 c32 H3 F3
  go_wp2_with fail
  refine (reqf_nil b w4).mono ?_
  rintro e w5 ⟨rfl, h5⟩
  replace h5 := h5.symm
  subst h5
  have B5 := hid (show Blk w4 bq 24 (rqC m sc a p ⟨none, 0, 0⟩ n) from (F4.out.k.block bq LQB.out).trans HB2.out)
  clear c44
  go_wp2_with (refine wpList_load_row rfl 24 _ rfl bq rfl 24 _ (0, 0) _ B5.out Tryd.underlying24 rfl (info24 m sc a p ⟨none, 0, 0⟩ n) ?_)
  refine (HFR.out b w4).mono ?_
  rintro e w6 ⟨rfl, q6⟩
  have H6 := hid (H4.out.old q6)
  have F6 := hid (show Below b W2 w6 from F4.out.k.trans (Below.mono q6 (by have := H4.out.lt; omega)))
  clear q6 H4 F4 B5 HFR
  go_wp2_with fail
  refine (field_any b b _ sVia sTurn w6 H6.out (by have h1 := H6.out.low; have h2 := H6.out.lt; omega) (by
    rw [topB_len]
    have e2 : sVia.size = 3 := rfl
    have e3 : sTurn.size = 10 := rfl
    have := HS.out
    rw [e2, e3]; omega)).mono ?_
  rintro e w7 ⟨rfl, h7, f7⟩
  have H7 := hid h7
  have F7 := hid (F6.out.trans f7.k)
  clear h7 f7 H6 F6
  go_wp2_with fail
  refine (line_any b b _ ⟨none, 0, 0⟩ [] w7 H7.out (by have h1 := H7.out.low; have h2 := H7.out.lt; omega) ⟨rfl, fun h => absurd rfl h⟩ (by decide) (by
    rw [List.length_append, topB_len]
    have e2 : sVia.data.toList.length = 3 := rfl
    have e3 : sTurn.data.toList.length = 10 := rfl
    have := HS.out
    simp only [List.length_append, e2, e3]
    show _ + (3 + 2 + 10 + 2) + 0 + 2 ≤ _
    omega)).mono ?_
  rintro e w8 ⟨rfl, h8, f8⟩
  have H8 := hid (show WB b b (topB m p a ++ endB) w8 from by
    have e : topB m p a ++ endB = topB m p a ++ (sVia.data.toList ++ [58, 32] ++ sTurn.data.toList ++ [13, 10]) ++ catB [] ++ [13, 10] := by
      unfold endB fldB catB
      simp
    rw [e]; exact h8)
  have F8 := hid (F7.out.trans f8.k)
  clear h8 f8 H7 F7
  go_wp2_with fail
  refine (bytes_any b b _ w8 H8.out).mono ?_
  rintro e w9 ⟨⟨ya, yn, yc⟩, rfl, q9, ry, ny⟩
  have Q9 := hid (show Q w w9 from by
    have h1 := HSB.out
    have h2 := H8.out.lt
    exact (Below.mono (HQ2.out) (Nat.le_refl _)).trans ((Below.mono F8.out h1).trans (Below.mono q9 (by omega))))
  have RY := hid ry
  have NY := hid (show New w.heap.size ⟨ya, yn, yc⟩ from fun g e => by have h1 := (ny g e).1; have h2 := HSB.out; omega)
  clear q9 ry ny
  go_wp2_with fail
  go_ret2
  exact ⟨⟨ya, yn, yc⟩, rfl, Q9.out, RY.out, NY.out⟩
end Go.Proofs.YtclapheglgiokaaDoor
