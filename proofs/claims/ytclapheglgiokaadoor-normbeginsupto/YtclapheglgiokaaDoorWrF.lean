/-
  The last chunk; bytes as a text: contracts that the statements' walks use.
-/
import Derived.Test.YtclapheglgiokaaDoorWrE
import Derived.Test.YtclapheglgiokaaDoorOpu
namespace Go.Proofs.YtclapheglgiokaaDoor
open Go.RowKit
set_option linter.unusedVariables false
set_option maxRecDepth 20000

theorem chunk_zero (x : Sv) (w : World) (h : x.n = 0) : Calls Tryd.prog 18 #[.slice x.a x.n x.c] w fun e w' => e = .returned (.tuple #[.slice none 0 0, .int .i64 0]) ∧ w' = w := by
  obtain ⟨xa, xn, xc⟩ := x
  dsimp only at h
  subst h
  go_enter Tryd.func18, Tryd.ntmps18
  go_wp2
  go_ret2
  exact ⟨rfl, rfl⟩
theorem chunk_huge (x : Sv) (w : World) (h : 16384 < x.n) : Calls Tryd.prog 18 #[.slice x.a x.n x.c] w fun e w' => e = .returned (.tuple #[.slice none 0 0, .int .i64 52]) ∧ w' = w := by
  obtain ⟨xa, xn, xc⟩ := x
  dsimp only at h
  have e0 : (16384 : Int) < (xn : Int) := by omega
  go_enter Tryd.func18, Tryd.ntmps18
  go_wp2
  go_ret2
  exact ⟨rfl, rfl⟩
/-- A row of bytes as a text. -/
theorem br_str {w : World} {y : Sv} {bs : List UInt8} (h : BR w y bs) : (convert 28 9 (.slice y.a y.n y.c)).run Tryd.prog w = .ok (.string ⟨bs.toArray⟩) w := by
  have hl := h.1
  rw [Lib.byteCells_length, Nat.mul_one] at hl
  rcases h.2 with ⟨h1, h2, h3⟩ | ⟨g, off, cur, h1, hg, _, _, _, h4⟩
  · rw [h2] at hl
    have hb : bs = [] := List.eq_nil_of_length_eq_zero hl
    rw [h1, h2, h3, hb]
    exact run_convert_bytes_nil (P := Tryd.prog) (w := w) 28 5 Tryd.underlying28 Tryd.underlying5 0 0 9 (by kernel_rfl)
  · rw [h1, ← hl]
    refine run_convert_bytes_back w 28 9 5 ⟨g, off, none⟩ y.c bs Tryd.underlying28 Tryd.underlying5 Tryd.underlying9 (fun j hj => ?_)
    rw [addr_add, cell_of_row w g _ cur 5 (0, 0) hg, h4 j (by omega)]
    simp [Lib.byteCells, hj]
theorem nil_str (w : World) : (convert 28 9 (.slice none 0 0)).run Tryd.prog w = .ok (.string ⟨#[]⟩) w := run_convert_bytes_nil (P := Tryd.prog) (w := w) 28 5 Tryd.underlying28 Tryd.underlying5 0 0 9 (by kernel_rfl)
/-- Fields' lines behind one another. -/
def fdsB (l : List Fd) : List UInt8 := l.flatMap fun p => fldB p.1 p.2
theorem fdsB_len (l : List Fd) : (fdsB l).length = totF l + 4 * l.length := by
  induction l with
  | nil => rfl
  | cons p r ih =>
    have e : totF (p :: r) = (p.1.size + p.2.size) + totF r := by simp [totF]
    have e2 : fdsB (p :: r) = fldB p.1 p.2 ++ fdsB r := by simp [fdsB]
    rw [e2, List.length_append, fldB_len, ih, e, List.length_cons]; omega
theorem fdsB_snoc {l : List Fd} {k : Nat} {p : Fd} (h : l[k]? = some p) : fdsB (l.take (k + 1)) = fdsB (l.take k) ++ fldB p.1 p.2 := by
  unfold fdsB
  rw [take_snoc h, List.flatMap_append]
  simp
theorem fdsB_take (l : List Fd) (k : Nat) : (fdsB (l.take k)).length ≤ (fdsB l).length := by
  conv => rhs; rw [← List.take_append_drop k l]
  unfold fdsB
  rw [List.flatMap_append, List.length_append]
  exact Nat.le_add_right _ _
/-- The last chunk's bytes. -/
def lastB (l : List Fd) : List UInt8 := [48, 13, 10] ++ fdsB l ++ [13, 10]
set_option maxHeartbeats 8000000 in
theorem last_any (x : Sv) (l : List Fd) (w : World) (h : Fin w x l) (hb : totF l + 4 * l.length ≤ 70368744177664) : Calls Tryd.prog 21 #[.slice x.a x.n x.c] w fun e w' => ∃ y : Sv, e = .returned (.slice y.a y.n y.c) ∧ Q w w' ∧ BR w' y (lastB l) ∧ New w.heap.size y := by
  obtain ⟨xa, xn, xc⟩ := x
  have hl := h.len
  dsimp only at hl
  subst hl
  have HX := hid h
  have HL := hid (show (fdsB l).length ≤ 70368744177664 from by rw [fdsB_len]; exact hb)
  have HW2 := hid (wB_new w)
  have HQ2 := hid ((Q.refl w).alloc (.cells #[.slice none 0 0, .int .i64 0, .int .i8 0] 77))
  clear h hb
  go_enter Tryd.func21, Tryd.ntmps21
  go_upto_region 2 with fail
  generalize hW : World.alloc w _ = W2 at *
  clear hW
  generalize hbb : w.heap.size = b at HW2
  have HWB := hid hbb
  clear hbb
  have HL1 := hid (show Calls Tryd.prog 33 #[.pointer (some ⟨b, 0, none⟩), .slice (some ⟨W2.heap.size, 0, none⟩) 1 1] (W2.alloc (.cells #[.string ⟨#[48]⟩] 9)) fun e w' => e = .returned (.tuple #[]) ∧ WB b b ([] ++ catB [⟨#[48]⟩] ++ [13, 10]) w' ∧ Fr b b (W2.alloc (.cells #[.string ⟨#[48]⟩] 9)) w' from
    line_any b b [] ⟨some ⟨W2.heap.size, 0, none⟩, 1, 1⟩ [⟨#[48]⟩] _ (HW2.out.old ((Below.refl W2.heap.size W2).alloc (Nat.le_refl _) _)) (by rw [World.size_alloc]; have := HW2.out.lt; omega) (txs_new W2 [⟨#[48]⟩] 1 rfl) (by decide) (by decide))
  have HF4 := hid ((Fr.refl b b W2).alloc (.cells #[.string ⟨#[48]⟩] 9) (by have := HW2.out.lt; omega))
  go_wp2_with fail
  refine HL1.out.mono ?_
  rintro e w4 ⟨rfl, h4, f4⟩
  have H4 := hid (show WB b b ([48, 13, 10] ++ fdsB (l.take 0)) w4 from h4)
  have F4 := hid (HF4.out.trans f4).k
  clear h4 f4 HL1 HF4 HW2
  go_wp2_with fail
  go_loopw [10] (fun i wr => ∃ k : Nat, k ≤ l.length ∧ i = .int .i64 (k : Int) ∧ WB b b ([48, 13, 10] ++ fdsB (l.take k)) wr ∧ Below b W2 wr) (fun i _ => l.length - (intOf i).toNat)
  case atStart => exact ⟨0, by omega, rfl, H4.out, F4⟩
  case round =>
    obtain ⟨k, hk, rfl, hw, hf⟩ := hrel
    have HWR := hid hw
    have HF := hid hf
    have HQR := hid (show Q w wr from by
      have h1 := HWB.out
      exact (Below.mono HQ2.out (Nat.le_refl _)).trans (Below.mono hf (by omega)))
    by_cases hlt : k < l.length
    · obtain ⟨g, off, ⟨p1, p2⟩, ha, hp, c0, c1⟩ := (HX.out.q HQR.out).s.at hlt
      dsimp only at ha
      subst ha
      dsimp only at c0 c1
      have hki : (k : Int) < (l.length : Int) := by omega
      have hk0 : (0 : Int) ≤ (k : Int) := by omega
      have hkb : (k : Int) < 8796093022208 := by have := HX.out.b; omega
      have HSN := hid (fdsB_snoc hp)
      have HLS := hid (show ([48, 13, 10] ++ fdsB (l.take k)).length + p1.size + p2.size + 4 ≤ 140737488355328 from by
        have h1 := fdsB_take l (k + 1)
        rw [fdsB_snoc hp, List.length_append, fldB_len] at h1
        have h3 := HL.out
        rw [List.length_append]
        show 3 + _ + _ + _ + 4 ≤ _
        dsimp only at h1
        omega)
      have HWA := hid (hw.old ((Below.refl wr.heap.size wr).alloc (Nat.le_refl _) (.cells #[.string p1, .string p2] 57)))
      have HFA := hid (hf.alloc (show b ≤ wr.heap.size by have h1 := hw.low; have h2 := hw.lt; omega) (.cells #[.string p1, .string p2] 57))
      clear hw hf hp
      go_wp2_with (go_at_call 34; refine (field_any b b _ p1 p2 _ HWA.out (by have h1 := HWA.out.low; have h2 := HWA.out.lt; omega) HLS.out).mono ?_; rintro e w5 ⟨rfl, h5, f5⟩; have H5 := hid h5; have F5 := hid (HFA.out.trans f5.k); clear h5 f5)
      go_roundw
      case rel => exact ⟨k + 1, by omega, by go_num, by rw [HSN.out, ← List.append_assoc]; exact H5.out, F5.out⟩
      case measure => simp [intOf]; omega
    · have hki : ¬ (k : Int) < (l.length : Int) := by omega
      have e0 : l.take k = l := List.take_of_length_le (by omega)
      rw [e0] at HWR
      clear hw hf e0
      go_wp2_with fail
      refine (line_any b b _ ⟨none, 0, 0⟩ [] wr HWR.out (by have h1 := HWR.out.low; have h2 := HWR.out.lt; omega) ⟨rfl, fun h => absurd rfl h⟩ (by decide) (by
        rw [List.length_append]
        have h1 := HL.out
        show 3 + _ + 0 + 2 ≤ _; omega)).mono ?_
      rintro e w6 ⟨rfl, h6, f6⟩
      have H6 := hid (show WB b b (lastB l) w6 from by
        have e : lastB l = [48, 13, 10] ++ fdsB l ++ catB [] ++ [13, 10] := by unfold lastB catB; simp
        rw [e]; exact h6)
      have F6 := hid (HF.out.trans f6.k)
      clear h6 f6 HWR
      go_wp2_with fail
      refine (bytes_any b b _ w6 H6.out).mono ?_
      rintro e w7 ⟨⟨ya, yn, yc⟩, rfl, q7, ry, ny⟩
      have Q7 := hid (show Q w w7 from by
        have h1 := HWB.out
        have h2 := H6.out.lt
        exact (Below.mono HQ2.out (Nat.le_refl _)).trans ((Below.mono F6.out (by omega)).trans (Below.mono q7 (by omega))))
      have RY := hid ry
      have NY := hid (show New w.heap.size ⟨ya, yn, yc⟩ from fun g e => by have h1 := (ny g e).1; have h2 := HWB.out; omega)
      clear q7 ry ny
      go_wp2_with fail
      go_ret
      exact ⟨⟨ya, yn, yc⟩, rfl, Q7.out, RY.out, NY.out⟩
end Go.Proofs.YtclapheglgiokaaDoor
