/-
  What probeTime answers: a contract that the statements' walks use.
-/
import Derived.Test.YtjhihcmemnhbbaaTim
namespace Go.Proofs.Ytjhihcmemnhbbaa
open Go.RowKit
set_option linter.unusedVariables false
set_option maxRecDepth 20000

def waitM (S : Lo) (k : Nat) : Int := S.smo + max 1 (4 * S.var) + (if k = 2 then S.most else 0)
def prbT (S : Lo) (k : Nat) : Int := if elic (S.sp k).out = true then (S.sp k).last + waitM S k * 2 ^ S.prb.toNat else -1

theorem shl_fit {X p last : Int} (x0 : 0 ≤ X) (x1 : X ≤ 5600000000000) (p1 : p ≤ 20) (l0 : -1 ≤ last) (l1 : last ≤ 1099511627776) : wrap64 (last + wrap64 (X * 2 ^ p.toNat)) = last + X * 2 ^ p.toNat ∧ 0 ≤ X * 2 ^ p.toNat ∧ X * 2 ^ p.toNat ≤ 5872025600000000000 := by
  have h2 : (2 : Int) ^ p.toNat ≤ 1048576 := by
    have : 2 ^ p.toNat ≤ 2 ^ 20 := Nat.pow_le_pow_right (by omega) (by omega)
    have h3 : ((2 ^ p.toNat : Nat) : Int) ≤ ((2 ^ 20 : Nat) : Int) := by omega
    simpa using h3
  have h0 : (0 : Int) ≤ 2 ^ p.toNat := Int.le_of_lt (Int.pow_pos (by omega))
  have h4 := Int.mul_le_mul_of_nonneg_left h2 x0
  have h5 := Int.mul_nonneg x0 h0
  generalize X * 2 ^ p.toNat = Y at *
  refine ⟨?_, h5, by omega⟩
  simp only [wrap64]
  omega

set_option maxHeartbeats 2000000 in
theorem probeTime_any {N : Nat} {w : World} {rb : Nat} {r : Nat → Sv} {S : Lo} (h : La w rb r S) (hO : Ok N S) {k : Nat} (hk : k < 3) : Calls Try.prog 37 #[.pointer (some ⟨rb, 0, none⟩), .int .i64 (k : Int)] w fun e w' => e = .returned (.int .i64 (prbT S k)) ∧ Q w w' := by
  have E := hid (elic_any (h.rs.o k hk) (by have := (hO.sp k hk).few; omega))
  have c0 := h.hd.out hk
  have hk3 : (k : Int) < 3 := by omega
  have H := hid h
  have HO := hid hO
  by_cases he : elic (S.sp k).out = true
  · have HE := hid (show prbT S k = (S.sp k).last + waitM S k * 2 ^ S.prb.toNat by unfold prbT; rw [if_pos he])
    rw [he] at E
    clear h hO he
    go_enter Try.func37, Try.ntmps37
    go_wp2_with fail
    refine E.out.mono ?_
    rintro e w1 ⟨rfl, q1⟩
    have hL := H.out.q q1
    have c1 := hL.hd.last hk
    have c2 := hL.hd.smo
    have c3 := hL.hd.var
    have c4 := hL.hd.c0
    have c5 := hL.hd.prb
    have o1 := HO.out.smo0
    have o2 := HO.out.smo1
    have o3 := HO.out.var0
    have o4 := HO.out.var1
    have o5 := HO.out.prb0
    have o6 := HO.out.prb1
    have l0 := (HO.out.sp k hk).last0
    have l1 := (HO.out.sp k hk).last1
    have Q1 := hid q1
    clear q1 hL
    have hw1 : IntKind.i64.wrap (4 * S.var) = 4 * S.var := by rw [IntKind.wrap_i64]; omega
    have hw2 : IntKind.i64.wrap (S.smo + max 1 (4 * S.var)) = S.smo + max 1 (4 * S.var) := by rw [IntKind.wrap_i64]; omega
    by_cases k2 : k = 2
    · have hk2 : ((k : Int) == 2) = true := by simp; omega
      have o7 := HO.out.most0
      have o8 := HO.out.most1
      have hw3 : IntKind.i64.wrap (S.smo + max 1 (4 * S.var) + S.most) = S.smo + max 1 (4 * S.var) + S.most := by rw [IntKind.wrap_i64]; omega
      have K2 := hid k2
      have hkz : (k : Int) = 2 ↔ True := by simp; omega
      clear k2 hkz
      have hn : (S.prb < 0) = False := by simp; omega
      go_wp2
      go_quiet (fail)
      go_wp2
      go_quiet (fail)
      go_wp2
      go_ret
      refine ⟨ret_int ?_, ((Q1.out.drewN _).drewN _)⟩
      rw [(shl_fit (by omega) (by omega) o6 l0 l1).1, HE.out]
      unfold waitM
      rw [if_pos K2.out]
    · have hk2 : ((k : Int) == 2) = false := by simp; omega
      have K2 := hid k2
      clear k2
      have hn : (S.prb < 0) = False := by simp; omega
      go_wp2
      go_quiet (fail)
      go_wp2
      go_quiet (fail)
      go_wp2
      go_ret
      refine ⟨ret_int ?_, ((Q1.out.drewN _).drewN _)⟩
      rw [(shl_fit (by omega) (by omega) o6 l0 l1).1, HE.out]
      unfold waitM
      rw [if_neg K2.out, Int.add_zero]
  · have he' : elic (S.sp k).out = false := by simpa using he
    have HE := hid (show prbT S k = -1 by unfold prbT; rw [if_neg he])
    rw [he'] at E
    clear h hO he he'
    go_enter Try.func37, Try.ntmps37
    go_wp2_with fail
    refine E.out.mono ?_
    rintro e w1 ⟨rfl, q1⟩
    have Q1 := hid q1; clear q1
    go_wp2
    go_ret
    exact ⟨ret_int HE.out.symm, Q1.out⟩
end Go.Proofs.Ytjhihcmemnhbbaa
