/-
  What a message's head tells: bodySize and bodyOf.
-/
import Derived.Test.YtekpepnonhbkcaaShU
namespace Go.Proofs.Ytekpepnonhbkcaa
open Go.RowKit
set_option linter.unusedVariables false
set_option maxRecDepth 20000

theorem getD_byte {zs : List Int} (hz : ∀ y ∈ zs, 0 ≤ y ∧ y < 256) (i : Nat) : 0 ≤ zs.getD i 0 ∧ zs.getD i 0 < 256 := by
  by_cases h : i < zs.length
  · have : zs.getD i 0 = zs[i] := by simp [List.getD_eq_getElem?_getD, h]
    rw [this]; exact hz _ (List.getElem_mem h)
  · have : zs.getD i 0 = 0 := by simp [List.getD_eq_getElem?_getD, List.getElem?_eq_none (Nat.le_of_not_lt h)]
    rw [this]; omega
theorem or_mid (x y : Int) (hx : 0 ≤ x ∧ x < 256) (hy : 0 ≤ y ∧ y < 256) : bits .or .i64 (x * 65536) (y * 256) = (x * 256 + y) * 256 := by
  obtain ⟨x, rfl⟩ := Int.eq_ofNat_of_zero_le hx.1
  obtain ⟨y, rfl⟩ := Int.eq_ofNat_of_zero_le hy.1
  have := i64_or_nat (x * 65536) (y * 256) (by omega) (by omega)
  rw [nat_join 16 (x * 65536) (y * 256) (by omega) (by omega)] at this
  have e : bits .or .i64 ((x : Int) * 65536) ((y : Int) * 256) = ((x * 65536 + y * 256 : Nat) : Int) := by simpa using this
  rw [e]; omega
/-- What a head tells. -/
def bsz (zs : List Int) : Int := (zs.getD 1 0 * 256 + zs.getD 2 0) * 256 + zs.getD 3 0
set_option maxHeartbeats 4000000 in
theorem bodySize_any (b o n c : Nat) (zs : List Int) (w : World) (hl : zs.length = n) (h4 : 4 ≤ n) (hn : n ≤ 140737488355328) (hz : ∀ y ∈ zs, 0 ≤ y ∧ y < 256) (hc : ∀ i, i < n → w.cell? ⟨b, o + i, none⟩ = some (.int .u8 (zs.getD i 0))) :
    Calls Try.prog 58 #[.slice (some ⟨b, o, none⟩) n c] w fun e w' => e = .returned (.int .i64 (bsz zs)) ∧ ∃ k, w' = w.drewN k := by
  have c1 := hc 1 (by omega)
  have c2 := hc 2 (by omega)
  have c3 := hc 3 (by omega)
  have k1 : (1 : Int) < n := by omega
  have k2 : (2 : Int) < n := by omega
  have k3 : (3 : Int) < n := by omega
  have z1 := getD_byte hz 1
  have z2 := getD_byte hz 2
  have z3 := getD_byte hz 3
  unfold bsz
  clear hc hz hl
  generalize zs.getD 1 0 = x at *
  generalize zs.getD 2 0 = y at *
  generalize zs.getD 3 0 = z at *
  have e1 := or_mid x y z1 z2
  have e2 := i64_or_low (x * 256 + y) z (by omega) (by omega) z3.1 z3.2
  go_enter Try.func58, Try.ntmps58
  go_upto_region 1 with fail
  go_quiet (fail)
  go_wp2
  go_ret
  exact ⟨rfl, _, rfl⟩
theorem slice_from (a : Option Addr) (n c : Nat) (h4 : 4 ≤ n) (u : World) :
    (Instr.slice 24 (.slice a n c) (some (.int .i64 4)) none none).run Try.prog u = .ok (.slice (if c = 4 then a else a.map (·.add 4)) (n - 4) (c - 4)) u := by
  have h := run_slice_l (P := Try.prog) u 24 a n c Try.underlying24 .i64 4 (by omega) (by omega)
  rw [h]
  obtain ⟨i0, hi, hz0, hz1, hz2⟩ := info_parts info5
  have e : Try.prog.elem 24 = 5 := by kernel_rfl
  simp [sizeOf, typeInfo, e, hi, hz1, sliced, Result.andThen]
set_option maxHeartbeats 4000000 in
theorem bodyOf_any (a : Option Addr) (n c : Nat) (w : World) (h4 : 4 ≤ n) :
    Calls Try.prog 41 #[.slice a n c] w fun e w' => e = .returned (.slice (if c = 4 then a else a.map (·.add 4)) (n - 4) (c - 4)) ∧ w = w' := by
  have hs := slice_from a n c h4
  generalize (if c = 4 then a else a.map (·.add 4)) = a' at *
  go_enter Try.func41, Try.ntmps41
  go_wp2
  go_ret
  exact ⟨rfl, rfl⟩
end Go.Proofs.Ytekpepnonhbkcaa
