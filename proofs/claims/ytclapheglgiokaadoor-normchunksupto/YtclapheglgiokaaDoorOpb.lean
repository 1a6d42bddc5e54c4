/-
  How an argument that is a slice of bytes is opened under the condition on the input's bulk; what the row's list of variables gives.
-/
import Derived.Test.YtclapheglgiokaaDoorOpu
import Derived.Test.YtclapheglgiokaaDoorWrE
import Derived.Lib.LaidTab
import Derived.Stop.LaidErr
import Derived.MakeChecks
namespace Go.Proofs.YtclapheglgiokaaDoor
open Go.ChangeShapes Go.WideShapes Go.ChangeAt Go.RowKit Go.Deep
set_option linter.unusedVariables false
set_option maxRecDepth 20000

theorem cells5b : Tryd.prog.cellsOf 5 = 1 := by kernel_rfl
theorem wf_u8 {n : Int} (h : (Lit.int .u8 n).wf = true) : 0 ≤ n ∧ n < 256 := by
  have : 0 ≤ n ∧ n ≤ 255 := by simpa [Lit.wf, IntKind.min, IntKind.max, IntKind.signed, IntKind.bits] using h
  omega
theorem bulk_all {H : Type} (l : List (DataW H)) : l.length ≤ Rows.uptoBulkAll l := by
  induction l with
  | nil => exact Nat.zero_le _
  | cons x r ih =>
    have : 1 ≤ Rows.uptoBulk x := by
      cases x
      case lit l => cases l <;> simp [Rows.uptoBulk]
      all_goals simp [Rows.uptoBulk]
    rw [Rows.uptoBulkAll, List.length_cons]
    omega
def toB (z : Int) : UInt8 := UInt8.ofNat z.toNat
theorem toB_nat {z : Int} (h : 0 ≤ z ∧ z < 256) : ((toB z).toNat : Int) = z := by
  unfold toB
  rw [UInt8.toNat_ofNat']
  omega
theorem open_bytes_upto {H : Type} {enc : TypeId × Value → H} {W : World} {a : Option Addr} {len cap : Nat} {d : DataW H} {p : List MemPlace} {ds : List (DataW H)}
    (h : DataW.Trod enc Tryd.prog W 0 (fun _ => true) true 28 (.slice a len cap) d p) (hk : Rows.uptoSmall H ds = true) (hd : d ∈ ds) :
    ∃ bs : List UInt8, bs.length = len ∧ SegB W a bs ∧ len ≤ 1048576 := by
  have hb : Rows.uptoBulk d ≤ 1048576 := Nat.le_trans (bulk_mem hd) (by simpa [Rows.uptoSmall] using hk)
  obtain ⟨fuel, hf⟩ := h
  rcases open_ints Tryd.underlying28 Tryd.underlying5 cells5b hf with ⟨hcs, _⟩ | ⟨x, l, c, zs, hcs, _, hl, hm, hz, hx, hcell, hwz⟩
  · simp [Value.cells] at hcs
    obtain ⟨rfl, rfl, rfl⟩ := hcs
    exact ⟨[], rfl, fun h => absurd rfl h, by omega⟩
  · simp [Value.cells] at hcs
    obtain ⟨rfl, rfl, rfl⟩ := hcs
    simp only [Prod.mk.injEq] at hx
    obtain ⟨rfl, _⟩ := hx
    have hz' : zs.length = cap := by simpa using hz
    have hlen : len ≤ 1048576 := by
      rw [Rows.uptoBulk] at hb
      have h1 := bulk_all (H := H) (lits .u8 (zs.take len))
      have h2 : (lits (H := H) .u8 (zs.take len)).length = len := by simp [lits]; omega
      omega
    refine ⟨(zs.take len).map toB, by simp; omega, ?_, hlen⟩
    intro hne
    have hl0 : 0 < len := by
      cases len with
      | zero => simp at hne
      | succ k => omega
    obtain ⟨b, off, spot⟩ := x
    have hc := hcell 0 (by omega)
    have hspot : spot = none := by simpa [Addr.add] using World.cell?_spot hc
    subst hspot
    refine ⟨b, off, rfl, fun i v hv => ?_⟩
    have hi : i < len := by
      have := (List.getElem?_eq_some_iff.1 hv).1
      rw [Lib.byteCells_length] at this
      simp at this
      omega
    have := hcell i (by omega)
    rw [addr_add] at this
    rw [this]
    have hwi := wf_u8 (hwz (zs[i]'(by omega)) (List.getElem_mem _))
    simp [Lib.byteCells, hi, show i < zs.length by omega, toB_nat hwi] at hv ⊢
    exact hv
theorem tab_chunks {W : World} (hL : laidMetH Tryd.prog Rows.normChunksUptoRow.laid W) : Tb W := by
  have h1 : laidMet Tryd.prog Rows.normChunksUptoRow.laid W := by rwa [MakeChecks.laidMetH_plain _ _ _ (by kernel_rfl)] at hL
  have h2 := laidMet.tail h1
  have hg : Tryd.prog.globalNamed "math/bits.deBruijn64tab" = some 5 := by kernel_rfl
  have h4 := Lib.tabIs_of_head (P := Tryd.prog) (W := W) (k := .u8) (zs := [0, 1, 56, 2, 57, 49, 28, 3, 61, 58, 42, 50, 38, 29, 17, 4, 62, 47, 59, 36, 45, 43, 51, 22, 53, 39, 33, 30, 24, 18, 12, 5, 63, 55, 48, 27, 60, 41, 37, 16, 46, 35, 44, 21, 52, 32, 23, 11, 54, 26, 40, 15, 34, 20, 31, 10, 25, 14, 19, 9, 13, 8, 7, 6]) (g := 5) (t := 168) (e := 5) (n := 64) hg (by kernel_rfl) (by kernel_rfl) (by kernel_rfl) (by kernel_rfl) (by kernel_rfl) h2
  exact h4.cell hg 15 (by decide)
end Go.Proofs.YtclapheglgiokaaDoor
