/-
  strings.IndexRune at a rune from 128 on, ContainsRune: contracts that the statements' walks use.
-/
import Derived.Test.YtclapheglgiokaaDoorRnD
import Derived.BigQuiet
import Derived.Deep.QuietTactic
import Derived.Laws.Runes
import Derived.WalkMore
import Derived.Scope
namespace Go.Proofs.YtclapheglgiokaaDoor
open Go.RowKit
set_option linter.unusedVariables false
set_option maxRecDepth 20000

theorem str_ix (s : ByteArray) (i : Nat) (h : i < s.size) (W : World) : (Instr.index 9 (.string s) (.int .i64 (i : Int))).run Tryd.prog W = .ok (.int .u8 (s[i]'h).toNat) W := by
  have hu := run_underlying (P := Tryd.prog) (w := W) Tryd.underlying9
  simp [Instr.index, hu, asIntOf, go_sem, h]
set_option maxHeartbeats 8000000 in
theorem ir_high (m : ByteArray) (r : Nat) (w : World) (h : Asc m) (hr : 128 ≤ r) (hne : r ≠ 65533) : Calls Tryd.prog 121 #[.string m, .int .i32 r] w fun e w' => e = .returned (.int .i64 (-1)) ∧ Q w w' := by
  obtain ⟨b, hb⟩ := valid_any r w
  have HV := hid hb
  clear hb
  have a0 : (0 : Int) ≤ (r : Int) := by omega
  have a1 : ¬ (r : Int) < 128 := by omega
  have a2 : ((r : Int) == 65533) = false := by simp; omega
  cases b with
  | false =>
    go_enter Tryd.func121, Tryd.ntmps121
    go_wp2_with (go_at_call 128; refine HV.out.mono ?_; rintro e w1 ⟨rfl, rfl⟩)
    go_ret
    exact ⟨rfl, Q.refl _⟩
  | true =>
    have hcv := fun W => conv_rune r W
    obtain ⟨E, hE⟩ : ∃ E, Utf8.encode (r : Int) = E := ⟨_, rfl⟩
    obtain ⟨e2, e4, e128⟩ := enc_high r hr E hE
    rw [hE] at hcv
    clear hE hr hne
    obtain ⟨k, hk⟩ : ∃ k, E.size = k + 1 := ⟨E.size - 1, by omega⟩
    have hkI : (E.size : Int) - 1 = (k : Int) := by omega
    have hkJ : (k : Int) + 1 = (E.size : Int) := by omega
    have hwq : IntKind.i64.wrap (E.size : Int) = (E.size : Int) := by rw [IntKind.wrap_i64]; omega
    have hk3 : k ≤ 3 := by omega
    have hkE : k < E.size := by omega
    have hkm : k < m.size := by have := h.four; omega
    have hkm1 : E.size ≤ m.size := by have := h.four; omega
    have i1 := fun W => str_ix m k hkm W
    have i2 := fun W => str_ix E k hkE W
    have hx := h.low k hkm
    have hy := e128 k hkE
    have hxy : (((m[k]'hkm).toNat : Int) != ((E[k]'hkE).toNat : Int)) = true := by simp; omega
    have hyb : (E[k]'hkE).toNat < 256 := UInt8.toNat_lt _
    have hno : Lib.indexByte (m.extract E.size m.size).data.toList (((E[k]'hkE).toNat : Int).toNat.toUInt8) = -1 := by
      refine ix_no _ _ fun b hb e => ?_
      rw [ext_all] at hb
      have := asc_mem h b (List.mem_of_mem_drop hb)
      rw [e] at this
      rw [Int.toNat_natCast] at this
      have h2 : ((E[k]'hkE).toNat.toUInt8).toNat = (E[k]'hkE).toNat := by
        show (UInt8.ofNat _).toNat = _
        rw [UInt8.toNat_ofNat']; omega
      omega
    have HI := hid (fun W => ixb_any (m.extract E.size m.size) ((E[k]'hkE).toNat : Int) W)
    rw [hno] at HI
    have hms : m.size ≤ 100 := h.most
    clear hno e128 hx hy e2 e4 hk h
    generalize (E[k]'hkE).toNat = y at *
    generalize (m[k]'hkm).toNat = x at *
    have hk0 : (0 : Int) ≤ (E.size : Int) := by omega
    have hk1 : (E.size : Int) ≤ (m.size : Int) := by omega
    have hkm2 : (k : Int) < (m.size : Int) := by omega
    go_enter Tryd.func121, Tryd.ntmps121
    go_wp2_with (go_at_call 128; refine HV.out.mono ?_; rintro e w1 ⟨rfl, rfl⟩)
    go_step3
    go_wp2_with fail
    go_loop [9, 10] (fun i f => i = .int .i64 (k : Int) ∧ f = .int .i64 0) (fun _ _ => 0)
    case atStart => exact ⟨rfl, rfl⟩
    case round =>
      obtain ⟨rfl, rfl⟩ := hrel
      go_wp2_with fail
      go_step3
      go_wp2_with fail
      go_region
      go_wp2_with fail
      go_region_with (go_at_call 127; refine (HI.out _).mono ?_; rintro e w1 ⟨rfl, rfl⟩)
      all_goals go_wp2_with fail
      simp (config := {zetaDelta := true}) only [Exit.noGoto_ret, Exit.inBlock, Exit.then]
      go_ret
      exact ⟨rfl, (Q.refl _).drew.drew⟩
end Go.Proofs.YtclapheglgiokaaDoor
