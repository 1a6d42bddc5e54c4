/-
  What bits.Mul64, Len64, LeadingZeros64, Div64 and Rem64 do at the numbers that prim.times hands them: contracts that the statements' walks use.
-/
import Derived.Test.YtekpepnonhbkcaaBase
import Derived.Laws.Bits64
import Derived.Laws.Bits64b
import Derived.Lib.Mul64
import Derived.BigQuiet
import Derived.Deep.QuietTactic
namespace Go.Proofs.Ytekpepnonhbkcaa
open Go.RowKit
set_option linter.unusedVariables false
set_option maxRecDepth 20000

namespace Mul64
theorem maskN (a : Nat) (ha : a < 18446744073709551616) : bits .and .u64 (a : Int) 4294967295 = ((a % 4294967296 : Nat) : Int) := by
  have h := bits_and_u64_nat a 4294967295 ha (by omega)
  have e : a &&& 4294967295 = a % 4294967296 := Nat.and_two_pow_sub_one_eq_mod a 32
  rw [e] at h
  exact h
theorem divN (a : Nat) : (a : Int) / 4294967296 = ((a / 4294967296 : Nat) : Int) := by omega
theorem mulN (a b : Nat) : (a : Int) * (b : Int) = ((a * b : Nat) : Int) := (Int.natCast_mul a b).symm
theorem addN (a b : Nat) : (a : Int) + (b : Int) = ((a + b : Nat) : Int) := (Int.natCast_add a b).symm
theorem wrapN (a : Nat) (ha : a < 18446744073709551616) : IntKind.u64.wrap (a : Int) = (a : Int) := by rw [IntKind.wrap_u64]; omega
theorem wrapM (a : Nat) : IntKind.u64.wrap (a : Int) = ((a % 18446744073709551616 : Nat) : Int) := by rw [IntKind.wrap_u64]; omega
end Mul64
set_option maxHeartbeats 1000000 in
theorem mul64_any (x y : Nat) (hx : x < 18446744073709551616) (hy : y < 18446744073709551616) (w : World) :
    Calls Try.prog 87 #[.int .u64 x, .int .u64 y] w fun e w' => e = .returned (.tuple #[.int .u64 ((x * y / 18446744073709551616 : Nat) : Int), .int .u64 ((x * y % 18446744073709551616 : Nat) : Int)]) ∧ w' = w := by
  obtain ⟨bd, bt, bw, hhi⟩ := Lib.mul64_hi x y hx hy
  have ba := Lib.half_mul_le (a := x / 4294967296) (b := y / 4294967296) (by omega) (by omega)
  have bb := Lib.half_mul_le (a := x / 4294967296) (b := y % 4294967296) (by omega) (by omega)
  have bc := Lib.half_mul_le (a := x % 4294967296) (b := y / 4294967296) (by omega) (by omega)
  have ba' : x / 4294967296 * (y / 4294967296) < 18446744073709551616 := by omega
  have bb' : x / 4294967296 * (y % 4294967296) < 18446744073709551616 := by omega
  have bc' : x % 4294967296 * (y / 4294967296) < 18446744073709551616 := by omega
  have bh1 : x / 4294967296 * (y / 4294967296) + (x / 4294967296 * (y % 4294967296) + x % 4294967296 * (y % 4294967296) / 4294967296) / 4294967296 < 18446744073709551616 := by omega
  have bh : x / 4294967296 * (y / 4294967296) + (x / 4294967296 * (y % 4294967296) + x % 4294967296 * (y % 4294967296) / 4294967296) / 4294967296 + ((x / 4294967296 * (y % 4294967296) + x % 4294967296 * (y % 4294967296) / 4294967296) % 4294967296 + x % 4294967296 * (y / 4294967296)) / 4294967296 < 18446744073709551616 := by omega
  go_enter Try.func87, Try.ntmps87
  go_wp2
  simp only [Mul64.maskN x hx, Mul64.maskN y hy, Mul64.divN, Mul64.mulN, Mul64.addN, Mul64.wrapN _ bd, Mul64.wrapN _ bb', Mul64.wrapN _ bt, Mul64.maskN _ bt, Mul64.wrapN _ bc', Mul64.wrapN _ bw, Mul64.wrapN _ ba', Mul64.wrapN _ bh1, Mul64.wrapN _ bh, Mul64.wrapM (x * y)]
  rw [hhi]
  go_ret2
  exact ⟨rfl, rfl⟩

set_option maxHeartbeats 1000000 in
theorem len_p (w : World) : Calls Try.prog 93 #[.int .u64 2305843009213693951] w fun e w' => e = .returned (.int .i64 61) ∧ w' = w := by
  go_enter Try.func93, Try.ntmps93
  go_wp2
  go_ret
  exact ⟨by kernel_rfl, rfl⟩
set_option maxHeartbeats 1000000 in
theorem lead_p (w : World) : Calls Try.prog 92 #[.int .u64 2305843009213693951] w fun e w' => e = .returned (.int .i64 3) ∧ w' = w := by
  go_enter Try.func92, Try.ntmps92
  go_wp2_with (go_at_call 93; refine (len_p _).mono ?_; rintro e w' ⟨rfl, rfl⟩)
  go_ret
  exact ⟨rfl, rfl⟩
theorem and_p : bits .and .u64 18446744073709551608 4294967295 = 4294967288 := by decide
theorem or_low (h l : Nat) (hh : h < 2305843009213693952) (hl : l < 8) : bits .or .u64 ((h : Int) * 8) (l : Int) = (h : Int) * 8 + (l : Int) := by
  have := bits_or_u64_nat (h * 8) l (by omega) (by omega)
  rw [nat_join 3 (h * 8) l (by omega) (by omega)] at this
  simpa using this
theorem or_low' (h l : Int) (h0 : 0 ≤ h) (hh : h < 2305843009213693952) (l0 : 0 ≤ l) (hl : l < 8) : bits .or .u64 (h * 8) l = h * 8 + l := by
  obtain ⟨x, rfl⟩ := Int.eq_ofNat_of_zero_le h0
  obtain ⟨y, rfl⟩ := Int.eq_ofNat_of_zero_le l0
  exact or_low x y (by omega) (by omega)
theorem mask_any (a : Int) (h0 : 0 ≤ a) (h : a < 18446744073709551616) : bits .and .u64 a 4294967295 = a % 4294967296 := by
  obtain ⟨x, rfl⟩ := Int.eq_ofNat_of_zero_le h0
  rw [Mul64.maskN x (by omega)]; omega
theorem wr64 {a : Int} (h0 : 0 ≤ a) (h : a < 18446744073709551616) : IntKind.u64.wrap a = a := by rw [IntKind.wrap_u64]; omega
set_option maxHeartbeats 8000000 in
theorem div_p (hi lo : Int) (w : World) (h0 : 0 ≤ hi) (h1 : hi < 2305843009213693951) (l0 : 0 ≤ lo) (l1 : lo < 18446744073709551616) :
    Calls Try.prog 91 #[.int .u64 hi, .int .u64 lo, .int .u64 2305843009213693951] w fun e w' => (∃ q, e = .returned (.tuple #[.int .u64 q, .int .u64 ((hi * 18446744073709551616 + lo) % 2305843009213693951)])) ∧ Q w w' := by
  have ha := and_p
  by_cases hz : hi = 0
  · subst hz
    go_enter Try.func91, Try.ntmps91
    go_wp2_with fail
    go_quiet (fail)
    go_wp2
    go_ret2
    exact ⟨⟨_, by rw [show (0 * 18446744073709551616 + lo : Int) = lo by omega]; rfl⟩, (Q.refl w).drewN _⟩
  have h2 : 0 < hi := by omega
  have hne : (hi == 0) = false := by simp; omega
  obtain ⟨U, hU, HU⟩ : ∃ U, bits .or .u64 (hi * 8) (lo / 2305843009213693952) = U ∧ U = hi * 8 + lo / 2305843009213693952 := ⟨_, or_low' _ _ h0 (by omega) (by omega) (by omega), rfl⟩
  obtain ⟨V, hV, HV⟩ : ∃ V, IntKind.u64.wrap (lo * 8) = V ∧ V = lo * 8 % 18446744073709551616 := ⟨_, IntKind.wrap_u64 _, rfl⟩
  obtain ⟨A, hA, HA⟩ : ∃ A, V / 4294967296 = A ∧ A = V / 4294967296 := ⟨_, rfl, rfl⟩
  obtain ⟨B, hB, HB⟩ : ∃ B, bits .and .u64 V 4294967295 = B ∧ B = V % 4294967296 := ⟨_, mask_any V (by omega) (by omega), rfl⟩
  have U0 : 0 ≤ U := by omega
  have U1 : U < 18446744073709551608 := by omega
  have A0 : 0 ≤ A := by omega
  have A1 : A < 4294967296 := by omega
  have B0 : 0 ≤ B := by omega
  have B1 : B < 4294967296 := by omega
  obtain ⟨eu, heu, Heu⟩ : ∃ eu, U / 4294967295 = eu ∧ eu = U / 4294967295 := ⟨_, rfl, rfl⟩
  have heu' : U.tdiv 4294967295 = eu := by rw [Int.tdiv_eq_ediv_of_nonneg U0]; exact heu
  have wq : IntKind.u64.wrap eu = eu := wr64 (by omega) (by omega)
  have wq2 : IntKind.u64.wrap (eu * 4294967295) = eu * 4294967295 := wr64 (by omega) (by omega)
  have wq3 : IntKind.u64.wrap (U - eu * 4294967295) = U - eu * 4294967295 := wr64 (by omega) (by omega)
  have KU := hid HU
  have KV := hid HV
  have KA := hid HA
  have KB := hid HB
  have KEu := hid Heu
  clear HU HV HA HB Heu
  go_enter Try.func91, Try.ntmps91
  go_wp2_with (go_at_call 92; refine (lead_p _).mono ?_; rintro e w' ⟨rfl, rfl⟩)
  clear heu' wq wq2 wq3
  go_loop [15, 16] (fun qs rs => ∃ q r : Int, qs = .int .u64 q ∧ rs = .int .u64 r ∧ 0 ≤ q ∧ q ≤ 4294967296 ∧ 0 ≤ r ∧ r < 4294967296 ∧ q * 4294967295 + r = U ∧ U * 4294967296 + A < (q + 1) * 18446744073709551608) (fun qs _ => (intOf qs).toNat)
  case atStart => exact ⟨eu, U - eu * 4294967295, rfl, rfl, by have := KEu.out; omega, by have := KEu.out; omega, by have := KEu.out; omega, by have := KEu.out; omega, by omega, by have := KEu.out; omega⟩
  case round =>
    obtain ⟨qu, ru, rfl, rfl, au, bu, cu, du, hqru, hupu⟩ := hrel
    have HQRu := hid hqru
    have HUPu := hid hupu
    clear hqru hupu
    by_cases hgu : 4294967296 ≤ qu
    · have HBIG := hid (show U * 4294967296 + A < qu * 18446744073709551608 ∧ 1 ≤ qu from by omega)
      by_cases hbu : 4294967296 ≤ ru + 4294967295
      · obtain ⟨Qu, hQu, KQu⟩ : ∃ x, qu - 1 = x ∧ Hid (x = qu - 1) := ⟨_, rfl, hid rfl⟩
        have FNu := hid (show Qu * 18446744073709551608 ≤ U * 4294967296 + A ∧ U * 4294967296 + A < (Qu + 1) * 18446744073709551608 ∧ 0 ≤ Qu ∧ Qu < 4294967296 from by have := KQu.out; have := HQRu.out; have := HBIG.out; omega)
        have wb1 : IntKind.u64.wrap Qu = Qu := wr64 FNu.out.2.2.1 (by have := FNu.out; omega)
        have wb2 : IntKind.u64.wrap (ru + 4294967295) = ru + 4294967295 := wr64 (by omega) (by omega)
        obtain ⟨M, hM, KM⟩ : ∃ x, IntKind.u64.wrap (IntKind.u64.wrap (IntKind.u64.wrap (U * 4294967296) + A) - IntKind.u64.wrap (Qu * 18446744073709551608)) = x ∧ Hid (x = U * 4294967296 + A - Qu * 18446744073709551608) := ⟨_, rfl, hid (by
          have := FNu.out
          simp only [IntKind.wrap_u64]; omega)⟩
        have M0 : 0 ≤ M := by have := KM.out; have := FNu.out; omega
        have M1 : M < 18446744073709551608 := by have := KM.out; have := FNu.out; omega
        obtain ⟨ev, hev, KEv⟩ : ∃ x, M / 4294967295 = x ∧ Hid (x = M / 4294967295) := ⟨_, rfl, hid rfl⟩
        have hev' : M.tdiv 4294967295 = ev := by rw [Int.tdiv_eq_ediv_of_nonneg M0]; exact hev
        have wev : IntKind.u64.wrap ev = ev := wr64 (by have := KEv.out; omega) (by have := KEv.out; omega)
        have wev2 : IntKind.u64.wrap (ev * 4294967295) = ev * 4294967295 := wr64 (by have := KEv.out; omega) (by have := KEv.out; omega)
        have wev3 : IntKind.u64.wrap (M - ev * 4294967295) = M - ev * 4294967295 := wr64 (by have := KEv.out; omega) (by have := KEv.out; omega)
        go_wp2_with fail
        go_loop [18, 16] (fun qs rs => ∃ q r : Int, qs = .int .u64 q ∧ rs = .int .u64 r ∧ 0 ≤ q ∧ q ≤ 4294967296 ∧ 0 ≤ r ∧ r < 4294967296 ∧ q * 4294967295 + r = M ∧ M * 4294967296 + B < (q + 1) * 18446744073709551608) (fun qs _ => (intOf qs).toNat)
        case atStart => exact ⟨ev, M - ev * 4294967295, rfl, rfl, by have := KEv.out; omega, by have := KEv.out; omega, by have := KEv.out; omega, by have := KEv.out; omega, by omega, by have := KEv.out; omega⟩
        case round =>
          obtain ⟨qv, rv, rfl, rfl, av, bv, cv, dv, hqrv, hupv⟩ := hrel
          have HQRv := hid hqrv
          have HUPv := hid hupv
          clear hqrv hupv
          by_cases hgv : 4294967296 ≤ qv
          · have HBIG := hid (show M * 4294967296 + B < qv * 18446744073709551608 ∧ 1 ≤ qv from by omega)
            by_cases hbv : 4294967296 ≤ rv + 4294967295
            · obtain ⟨Qv, hQv, KQv⟩ : ∃ x, qv - 1 = x ∧ Hid (x = qv - 1) := ⟨_, rfl, hid rfl⟩
              have FNv := hid (show Qv * 18446744073709551608 ≤ M * 4294967296 + B ∧ M * 4294967296 + B < (Qv + 1) * 18446744073709551608 ∧ 0 ≤ Qv ∧ Qv < 4294967296 from by have := KQv.out; have := HQRv.out; have := HBIG.out; omega)
              have wb1 : IntKind.u64.wrap Qv = Qv := wr64 FNv.out.2.2.1 (by have := FNv.out; omega)
              have wb2 : IntKind.u64.wrap (rv + 4294967295) = rv + 4294967295 := wr64 (by omega) (by omega)
              have wz : IntKind.u64.wrap (IntKind.u64.wrap (IntKind.u64.wrap (M * 4294967296) + B) - IntKind.u64.wrap (Qv * 18446744073709551608)) = M * 4294967296 + B - Qv * 18446744073709551608 := by
                have := FNv.out
                simp only [IntKind.wrap_u64]; omega
              have HEND := hid (show (M * 4294967296 + B - Qv * 18446744073709551608) / 8 = (hi * 18446744073709551616 + lo) % 2305843009213693951 from by
                have h1 := FNu.out; have h2 := FNv.out; have h3 := KU.out; have h4 := KV.out; have h5 := KA.out; have h6 := KB.out; have h7 := KM.out
                clear wz
                omega)
              go_wp2
              go_ret2
              exact ⟨⟨_, by rw [← HEND.out]; rfl⟩, Q.refl _⟩
            · have wb1 : IntKind.u64.wrap (qv - 1) = qv - 1 := wr64 (by have := HBIG.out; omega) (by omega)
              have wb2 : IntKind.u64.wrap (rv + 4294967295) = rv + 4294967295 := wr64 (by omega) (by omega)
              go_wp2
              go_round
              case rel => exact ⟨qv - 1, rv + 4294967295, rfl, rfl, by have := HBIG.out; omega, by omega, by omega, by omega, by have := HQRv.out; omega, by have := HBIG.out; omega⟩
              case measure => simp [intOf]; have := HBIG.out; omega
          · by_cases htv : 4294967296 * rv + B < qv * 4294967288
            · have HBIG := hid (show M * 4294967296 + B < qv * 18446744073709551608 ∧ 1 ≤ qv from by have := HQRv.out; omega)
              have wt1 : IntKind.u64.wrap (qv * 4294967288) = qv * 4294967288 := wr64 (by omega) (by omega)
              have wt2 : IntKind.u64.wrap (4294967296 * rv) = 4294967296 * rv := wr64 (by omega) (by omega)
              have wt3 : IntKind.u64.wrap (4294967296 * rv + B) = 4294967296 * rv + B := wr64 (by omega) (by omega)
              by_cases hbv : 4294967296 ≤ rv + 4294967295
              · obtain ⟨Qv, hQv, KQv⟩ : ∃ x, qv - 1 = x ∧ Hid (x = qv - 1) := ⟨_, rfl, hid rfl⟩
                have FNv := hid (show Qv * 18446744073709551608 ≤ M * 4294967296 + B ∧ M * 4294967296 + B < (Qv + 1) * 18446744073709551608 ∧ 0 ≤ Qv ∧ Qv < 4294967296 from by have := KQv.out; have := HQRv.out; have := HBIG.out; omega)
                have wb1 : IntKind.u64.wrap Qv = Qv := wr64 FNv.out.2.2.1 (by have := FNv.out; omega)
                have wb2 : IntKind.u64.wrap (rv + 4294967295) = rv + 4294967295 := wr64 (by omega) (by omega)
                have wz : IntKind.u64.wrap (IntKind.u64.wrap (IntKind.u64.wrap (M * 4294967296) + B) - IntKind.u64.wrap (Qv * 18446744073709551608)) = M * 4294967296 + B - Qv * 18446744073709551608 := by
                  have := FNv.out
                  simp only [IntKind.wrap_u64]; omega
                have HEND := hid (show (M * 4294967296 + B - Qv * 18446744073709551608) / 8 = (hi * 18446744073709551616 + lo) % 2305843009213693951 from by
                  have h1 := FNu.out; have h2 := FNv.out; have h3 := KU.out; have h4 := KV.out; have h5 := KA.out; have h6 := KB.out; have h7 := KM.out
                  clear wz
                  omega)
                go_wp2
                go_ret2
                exact ⟨⟨_, by rw [← HEND.out]; rfl⟩, Q.refl _⟩
              · have wb1 : IntKind.u64.wrap (qv - 1) = qv - 1 := wr64 (by have := HBIG.out; omega) (by omega)
                have wb2 : IntKind.u64.wrap (rv + 4294967295) = rv + 4294967295 := wr64 (by omega) (by omega)
                go_wp2
                go_round
                case rel => exact ⟨qv - 1, rv + 4294967295, rfl, rfl, by have := HBIG.out; omega, by omega, by omega, by omega, by have := HQRv.out; omega, by have := HBIG.out; omega⟩
                case measure => simp [intOf]; have := HBIG.out; omega
            · have FNv := hid (show qv * 18446744073709551608 ≤ M * 4294967296 + B ∧ M * 4294967296 + B < (qv + 1) * 18446744073709551608 ∧ 0 ≤ qv ∧ qv < 4294967296 from by have := HQRv.out; have := HUPv.out; omega)
              have wt1 : IntKind.u64.wrap (qv * 4294967288) = qv * 4294967288 := wr64 (by omega) (by omega)
              have wt2 : IntKind.u64.wrap (4294967296 * rv) = 4294967296 * rv := wr64 (by omega) (by omega)
              have wt3 : IntKind.u64.wrap (4294967296 * rv + B) = 4294967296 * rv + B := wr64 (by omega) (by omega)
              have wz : IntKind.u64.wrap (IntKind.u64.wrap (IntKind.u64.wrap (M * 4294967296) + B) - IntKind.u64.wrap (qv * 18446744073709551608)) = M * 4294967296 + B - qv * 18446744073709551608 := by
                have := FNv.out
                simp only [IntKind.wrap_u64]; omega
              have HEND := hid (show (M * 4294967296 + B - qv * 18446744073709551608) / 8 = (hi * 18446744073709551616 + lo) % 2305843009213693951 from by
                have h1 := FNu.out; have h2 := FNv.out; have h3 := KU.out; have h4 := KV.out; have h5 := KA.out; have h6 := KB.out; have h7 := KM.out
                clear wz
                omega)
              go_wp2
              go_ret2
              exact ⟨⟨_, by rw [← HEND.out]; rfl⟩, Q.refl _⟩
      · have wb1 : IntKind.u64.wrap (qu - 1) = qu - 1 := wr64 (by have := HBIG.out; omega) (by omega)
        have wb2 : IntKind.u64.wrap (ru + 4294967295) = ru + 4294967295 := wr64 (by omega) (by omega)
        go_wp2
        go_round
        case rel => exact ⟨qu - 1, ru + 4294967295, rfl, rfl, by have := HBIG.out; omega, by omega, by omega, by omega, by have := HQRu.out; omega, by have := HBIG.out; omega⟩
        case measure => simp [intOf]; have := HBIG.out; omega
    · by_cases htu : 4294967296 * ru + A < qu * 4294967288
      · have HBIG := hid (show U * 4294967296 + A < qu * 18446744073709551608 ∧ 1 ≤ qu from by have := HQRu.out; omega)
        have wt1 : IntKind.u64.wrap (qu * 4294967288) = qu * 4294967288 := wr64 (by omega) (by omega)
        have wt2 : IntKind.u64.wrap (4294967296 * ru) = 4294967296 * ru := wr64 (by omega) (by omega)
        have wt3 : IntKind.u64.wrap (4294967296 * ru + A) = 4294967296 * ru + A := wr64 (by omega) (by omega)
        by_cases hbu : 4294967296 ≤ ru + 4294967295
        · obtain ⟨Qu, hQu, KQu⟩ : ∃ x, qu - 1 = x ∧ Hid (x = qu - 1) := ⟨_, rfl, hid rfl⟩
          have FNu := hid (show Qu * 18446744073709551608 ≤ U * 4294967296 + A ∧ U * 4294967296 + A < (Qu + 1) * 18446744073709551608 ∧ 0 ≤ Qu ∧ Qu < 4294967296 from by have := KQu.out; have := HQRu.out; have := HBIG.out; omega)
          have wb1 : IntKind.u64.wrap Qu = Qu := wr64 FNu.out.2.2.1 (by have := FNu.out; omega)
          have wb2 : IntKind.u64.wrap (ru + 4294967295) = ru + 4294967295 := wr64 (by omega) (by omega)
          obtain ⟨M, hM, KM⟩ : ∃ x, IntKind.u64.wrap (IntKind.u64.wrap (IntKind.u64.wrap (U * 4294967296) + A) - IntKind.u64.wrap (Qu * 18446744073709551608)) = x ∧ Hid (x = U * 4294967296 + A - Qu * 18446744073709551608) := ⟨_, rfl, hid (by
            have := FNu.out
            simp only [IntKind.wrap_u64]; omega)⟩
          have M0 : 0 ≤ M := by have := KM.out; have := FNu.out; omega
          have M1 : M < 18446744073709551608 := by have := KM.out; have := FNu.out; omega
          obtain ⟨ev, hev, KEv⟩ : ∃ x, M / 4294967295 = x ∧ Hid (x = M / 4294967295) := ⟨_, rfl, hid rfl⟩
          have hev' : M.tdiv 4294967295 = ev := by rw [Int.tdiv_eq_ediv_of_nonneg M0]; exact hev
          have wev : IntKind.u64.wrap ev = ev := wr64 (by have := KEv.out; omega) (by have := KEv.out; omega)
          have wev2 : IntKind.u64.wrap (ev * 4294967295) = ev * 4294967295 := wr64 (by have := KEv.out; omega) (by have := KEv.out; omega)
          have wev3 : IntKind.u64.wrap (M - ev * 4294967295) = M - ev * 4294967295 := wr64 (by have := KEv.out; omega) (by have := KEv.out; omega)
          go_wp2_with fail
          go_loop [18, 16] (fun qs rs => ∃ q r : Int, qs = .int .u64 q ∧ rs = .int .u64 r ∧ 0 ≤ q ∧ q ≤ 4294967296 ∧ 0 ≤ r ∧ r < 4294967296 ∧ q * 4294967295 + r = M ∧ M * 4294967296 + B < (q + 1) * 18446744073709551608) (fun qs _ => (intOf qs).toNat)
          case atStart => exact ⟨ev, M - ev * 4294967295, rfl, rfl, by have := KEv.out; omega, by have := KEv.out; omega, by have := KEv.out; omega, by have := KEv.out; omega, by omega, by have := KEv.out; omega⟩
          case round =>
            obtain ⟨qv, rv, rfl, rfl, av, bv, cv, dv, hqrv, hupv⟩ := hrel
            have HQRv := hid hqrv
            have HUPv := hid hupv
            clear hqrv hupv
            by_cases hgv : 4294967296 ≤ qv
            · have HBIG := hid (show M * 4294967296 + B < qv * 18446744073709551608 ∧ 1 ≤ qv from by omega)
              by_cases hbv : 4294967296 ≤ rv + 4294967295
              · obtain ⟨Qv, hQv, KQv⟩ : ∃ x, qv - 1 = x ∧ Hid (x = qv - 1) := ⟨_, rfl, hid rfl⟩
                have FNv := hid (show Qv * 18446744073709551608 ≤ M * 4294967296 + B ∧ M * 4294967296 + B < (Qv + 1) * 18446744073709551608 ∧ 0 ≤ Qv ∧ Qv < 4294967296 from by have := KQv.out; have := HQRv.out; have := HBIG.out; omega)
                have wb1 : IntKind.u64.wrap Qv = Qv := wr64 FNv.out.2.2.1 (by have := FNv.out; omega)
                have wb2 : IntKind.u64.wrap (rv + 4294967295) = rv + 4294967295 := wr64 (by omega) (by omega)
                have wz : IntKind.u64.wrap (IntKind.u64.wrap (IntKind.u64.wrap (M * 4294967296) + B) - IntKind.u64.wrap (Qv * 18446744073709551608)) = M * 4294967296 + B - Qv * 18446744073709551608 := by
                  have := FNv.out
                  simp only [IntKind.wrap_u64]; omega
                have HEND := hid (show (M * 4294967296 + B - Qv * 18446744073709551608) / 8 = (hi * 18446744073709551616 + lo) % 2305843009213693951 from by
                  have h1 := FNu.out; have h2 := FNv.out; have h3 := KU.out; have h4 := KV.out; have h5 := KA.out; have h6 := KB.out; have h7 := KM.out
                  clear wz
                  omega)
                go_wp2
                go_ret2
                exact ⟨⟨_, by rw [← HEND.out]; rfl⟩, Q.refl _⟩
              · have wb1 : IntKind.u64.wrap (qv - 1) = qv - 1 := wr64 (by have := HBIG.out; omega) (by omega)
                have wb2 : IntKind.u64.wrap (rv + 4294967295) = rv + 4294967295 := wr64 (by omega) (by omega)
                go_wp2
                go_round
                case rel => exact ⟨qv - 1, rv + 4294967295, rfl, rfl, by have := HBIG.out; omega, by omega, by omega, by omega, by have := HQRv.out; omega, by have := HBIG.out; omega⟩
                case measure => simp [intOf]; have := HBIG.out; omega
            · by_cases htv : 4294967296 * rv + B < qv * 4294967288
              · have HBIG := hid (show M * 4294967296 + B < qv * 18446744073709551608 ∧ 1 ≤ qv from by have := HQRv.out; omega)
                have wt1 : IntKind.u64.wrap (qv * 4294967288) = qv * 4294967288 := wr64 (by omega) (by omega)
                have wt2 : IntKind.u64.wrap (4294967296 * rv) = 4294967296 * rv := wr64 (by omega) (by omega)
                have wt3 : IntKind.u64.wrap (4294967296 * rv + B) = 4294967296 * rv + B := wr64 (by omega) (by omega)
                by_cases hbv : 4294967296 ≤ rv + 4294967295
                · obtain ⟨Qv, hQv, KQv⟩ : ∃ x, qv - 1 = x ∧ Hid (x = qv - 1) := ⟨_, rfl, hid rfl⟩
                  have FNv := hid (show Qv * 18446744073709551608 ≤ M * 4294967296 + B ∧ M * 4294967296 + B < (Qv + 1) * 18446744073709551608 ∧ 0 ≤ Qv ∧ Qv < 4294967296 from by have := KQv.out; have := HQRv.out; have := HBIG.out; omega)
                  have wb1 : IntKind.u64.wrap Qv = Qv := wr64 FNv.out.2.2.1 (by have := FNv.out; omega)
                  have wb2 : IntKind.u64.wrap (rv + 4294967295) = rv + 4294967295 := wr64 (by omega) (by omega)
                  have wz : IntKind.u64.wrap (IntKind.u64.wrap (IntKind.u64.wrap (M * 4294967296) + B) - IntKind.u64.wrap (Qv * 18446744073709551608)) = M * 4294967296 + B - Qv * 18446744073709551608 := by
                    have := FNv.out
                    simp only [IntKind.wrap_u64]; omega
                  have HEND := hid (show (M * 4294967296 + B - Qv * 18446744073709551608) / 8 = (hi * 18446744073709551616 + lo) % 2305843009213693951 from by
                    have h1 := FNu.out; have h2 := FNv.out; have h3 := KU.out; have h4 := KV.out; have h5 := KA.out; have h6 := KB.out; have h7 := KM.out
                    clear wz
                    omega)
                  go_wp2
                  go_ret2
                  exact ⟨⟨_, by rw [← HEND.out]; rfl⟩, Q.refl _⟩
                · have wb1 : IntKind.u64.wrap (qv - 1) = qv - 1 := wr64 (by have := HBIG.out; omega) (by omega)
                  have wb2 : IntKind.u64.wrap (rv + 4294967295) = rv + 4294967295 := wr64 (by omega) (by omega)
                  go_wp2
                  go_round
                  case rel => exact ⟨qv - 1, rv + 4294967295, rfl, rfl, by have := HBIG.out; omega, by omega, by omega, by omega, by have := HQRv.out; omega, by have := HBIG.out; omega⟩
                  case measure => simp [intOf]; have := HBIG.out; omega
              · have FNv := hid (show qv * 18446744073709551608 ≤ M * 4294967296 + B ∧ M * 4294967296 + B < (qv + 1) * 18446744073709551608 ∧ 0 ≤ qv ∧ qv < 4294967296 from by have := HQRv.out; have := HUPv.out; omega)
                have wt1 : IntKind.u64.wrap (qv * 4294967288) = qv * 4294967288 := wr64 (by omega) (by omega)
                have wt2 : IntKind.u64.wrap (4294967296 * rv) = 4294967296 * rv := wr64 (by omega) (by omega)
                have wt3 : IntKind.u64.wrap (4294967296 * rv + B) = 4294967296 * rv + B := wr64 (by omega) (by omega)
                have wz : IntKind.u64.wrap (IntKind.u64.wrap (IntKind.u64.wrap (M * 4294967296) + B) - IntKind.u64.wrap (qv * 18446744073709551608)) = M * 4294967296 + B - qv * 18446744073709551608 := by
                  have := FNv.out
                  simp only [IntKind.wrap_u64]; omega
                have HEND := hid (show (M * 4294967296 + B - qv * 18446744073709551608) / 8 = (hi * 18446744073709551616 + lo) % 2305843009213693951 from by
                  have h1 := FNu.out; have h2 := FNv.out; have h3 := KU.out; have h4 := KV.out; have h5 := KA.out; have h6 := KB.out; have h7 := KM.out
                  clear wz
                  omega)
                go_wp2
                go_ret2
                exact ⟨⟨_, by rw [← HEND.out]; rfl⟩, Q.refl _⟩
        · have wb1 : IntKind.u64.wrap (qu - 1) = qu - 1 := wr64 (by have := HBIG.out; omega) (by omega)
          have wb2 : IntKind.u64.wrap (ru + 4294967295) = ru + 4294967295 := wr64 (by omega) (by omega)
          go_wp2
          go_round
          case rel => exact ⟨qu - 1, ru + 4294967295, rfl, rfl, by have := HBIG.out; omega, by omega, by omega, by omega, by have := HQRu.out; omega, by have := HBIG.out; omega⟩
          case measure => simp [intOf]; have := HBIG.out; omega
      · have FNu := hid (show qu * 18446744073709551608 ≤ U * 4294967296 + A ∧ U * 4294967296 + A < (qu + 1) * 18446744073709551608 ∧ 0 ≤ qu ∧ qu < 4294967296 from by have := HQRu.out; have := HUPu.out; omega)
        have wt1 : IntKind.u64.wrap (qu * 4294967288) = qu * 4294967288 := wr64 (by omega) (by omega)
        have wt2 : IntKind.u64.wrap (4294967296 * ru) = 4294967296 * ru := wr64 (by omega) (by omega)
        have wt3 : IntKind.u64.wrap (4294967296 * ru + A) = 4294967296 * ru + A := wr64 (by omega) (by omega)
        obtain ⟨M, hM, KM⟩ : ∃ x, IntKind.u64.wrap (IntKind.u64.wrap (IntKind.u64.wrap (U * 4294967296) + A) - IntKind.u64.wrap (qu * 18446744073709551608)) = x ∧ Hid (x = U * 4294967296 + A - qu * 18446744073709551608) := ⟨_, rfl, hid (by
          have := FNu.out
          simp only [IntKind.wrap_u64]; omega)⟩
        have M0 : 0 ≤ M := by have := KM.out; have := FNu.out; omega
        have M1 : M < 18446744073709551608 := by have := KM.out; have := FNu.out; omega
        obtain ⟨ev, hev, KEv⟩ : ∃ x, M / 4294967295 = x ∧ Hid (x = M / 4294967295) := ⟨_, rfl, hid rfl⟩
        have hev' : M.tdiv 4294967295 = ev := by rw [Int.tdiv_eq_ediv_of_nonneg M0]; exact hev
        have wev : IntKind.u64.wrap ev = ev := wr64 (by have := KEv.out; omega) (by have := KEv.out; omega)
        have wev2 : IntKind.u64.wrap (ev * 4294967295) = ev * 4294967295 := wr64 (by have := KEv.out; omega) (by have := KEv.out; omega)
        have wev3 : IntKind.u64.wrap (M - ev * 4294967295) = M - ev * 4294967295 := wr64 (by have := KEv.out; omega) (by have := KEv.out; omega)
        go_wp2_with fail
        go_loop [18, 16] (fun qs rs => ∃ q r : Int, qs = .int .u64 q ∧ rs = .int .u64 r ∧ 0 ≤ q ∧ q ≤ 4294967296 ∧ 0 ≤ r ∧ r < 4294967296 ∧ q * 4294967295 + r = M ∧ M * 4294967296 + B < (q + 1) * 18446744073709551608) (fun qs _ => (intOf qs).toNat)
        case atStart => exact ⟨ev, M - ev * 4294967295, rfl, rfl, by have := KEv.out; omega, by have := KEv.out; omega, by have := KEv.out; omega, by have := KEv.out; omega, by omega, by have := KEv.out; omega⟩
        case round =>
          obtain ⟨qv, rv, rfl, rfl, av, bv, cv, dv, hqrv, hupv⟩ := hrel
          have HQRv := hid hqrv
          have HUPv := hid hupv
          clear hqrv hupv
          by_cases hgv : 4294967296 ≤ qv
          · have HBIG := hid (show M * 4294967296 + B < qv * 18446744073709551608 ∧ 1 ≤ qv from by omega)
            by_cases hbv : 4294967296 ≤ rv + 4294967295
            · obtain ⟨Qv, hQv, KQv⟩ : ∃ x, qv - 1 = x ∧ Hid (x = qv - 1) := ⟨_, rfl, hid rfl⟩
              have FNv := hid (show Qv * 18446744073709551608 ≤ M * 4294967296 + B ∧ M * 4294967296 + B < (Qv + 1) * 18446744073709551608 ∧ 0 ≤ Qv ∧ Qv < 4294967296 from by have := KQv.out; have := HQRv.out; have := HBIG.out; omega)
              have wb1 : IntKind.u64.wrap Qv = Qv := wr64 FNv.out.2.2.1 (by have := FNv.out; omega)
              have wb2 : IntKind.u64.wrap (rv + 4294967295) = rv + 4294967295 := wr64 (by omega) (by omega)
              have wz : IntKind.u64.wrap (IntKind.u64.wrap (IntKind.u64.wrap (M * 4294967296) + B) - IntKind.u64.wrap (Qv * 18446744073709551608)) = M * 4294967296 + B - Qv * 18446744073709551608 := by
                have := FNv.out
                simp only [IntKind.wrap_u64]; omega
              have HEND := hid (show (M * 4294967296 + B - Qv * 18446744073709551608) / 8 = (hi * 18446744073709551616 + lo) % 2305843009213693951 from by
                have h1 := FNu.out; have h2 := FNv.out; have h3 := KU.out; have h4 := KV.out; have h5 := KA.out; have h6 := KB.out; have h7 := KM.out
                clear wz
                omega)
              go_wp2
              go_ret2
              exact ⟨⟨_, by rw [← HEND.out]; rfl⟩, Q.refl _⟩
            · have wb1 : IntKind.u64.wrap (qv - 1) = qv - 1 := wr64 (by have := HBIG.out; omega) (by omega)
              have wb2 : IntKind.u64.wrap (rv + 4294967295) = rv + 4294967295 := wr64 (by omega) (by omega)
              go_wp2
              go_round
              case rel => exact ⟨qv - 1, rv + 4294967295, rfl, rfl, by have := HBIG.out; omega, by omega, by omega, by omega, by have := HQRv.out; omega, by have := HBIG.out; omega⟩
              case measure => simp [intOf]; have := HBIG.out; omega
          · by_cases htv : 4294967296 * rv + B < qv * 4294967288
            · have HBIG := hid (show M * 4294967296 + B < qv * 18446744073709551608 ∧ 1 ≤ qv from by have := HQRv.out; omega)
              have wt1 : IntKind.u64.wrap (qv * 4294967288) = qv * 4294967288 := wr64 (by omega) (by omega)
              have wt2 : IntKind.u64.wrap (4294967296 * rv) = 4294967296 * rv := wr64 (by omega) (by omega)
              have wt3 : IntKind.u64.wrap (4294967296 * rv + B) = 4294967296 * rv + B := wr64 (by omega) (by omega)
              by_cases hbv : 4294967296 ≤ rv + 4294967295
              · obtain ⟨Qv, hQv, KQv⟩ : ∃ x, qv - 1 = x ∧ Hid (x = qv - 1) := ⟨_, rfl, hid rfl⟩
                have FNv := hid (show Qv * 18446744073709551608 ≤ M * 4294967296 + B ∧ M * 4294967296 + B < (Qv + 1) * 18446744073709551608 ∧ 0 ≤ Qv ∧ Qv < 4294967296 from by have := KQv.out; have := HQRv.out; have := HBIG.out; omega)
                have wb1 : IntKind.u64.wrap Qv = Qv := wr64 FNv.out.2.2.1 (by have := FNv.out; omega)
                have wb2 : IntKind.u64.wrap (rv + 4294967295) = rv + 4294967295 := wr64 (by omega) (by omega)
                have wz : IntKind.u64.wrap (IntKind.u64.wrap (IntKind.u64.wrap (M * 4294967296) + B) - IntKind.u64.wrap (Qv * 18446744073709551608)) = M * 4294967296 + B - Qv * 18446744073709551608 := by
                  have := FNv.out
                  simp only [IntKind.wrap_u64]; omega
                have HEND := hid (show (M * 4294967296 + B - Qv * 18446744073709551608) / 8 = (hi * 18446744073709551616 + lo) % 2305843009213693951 from by
                  have h1 := FNu.out; have h2 := FNv.out; have h3 := KU.out; have h4 := KV.out; have h5 := KA.out; have h6 := KB.out; have h7 := KM.out
                  clear wz
                  omega)
                go_wp2
                go_ret2
                exact ⟨⟨_, by rw [← HEND.out]; rfl⟩, Q.refl _⟩
              · have wb1 : IntKind.u64.wrap (qv - 1) = qv - 1 := wr64 (by have := HBIG.out; omega) (by omega)
                have wb2 : IntKind.u64.wrap (rv + 4294967295) = rv + 4294967295 := wr64 (by omega) (by omega)
                go_wp2
                go_round
                case rel => exact ⟨qv - 1, rv + 4294967295, rfl, rfl, by have := HBIG.out; omega, by omega, by omega, by omega, by have := HQRv.out; omega, by have := HBIG.out; omega⟩
                case measure => simp [intOf]; have := HBIG.out; omega
            · have FNv := hid (show qv * 18446744073709551608 ≤ M * 4294967296 + B ∧ M * 4294967296 + B < (qv + 1) * 18446744073709551608 ∧ 0 ≤ qv ∧ qv < 4294967296 from by have := HQRv.out; have := HUPv.out; omega)
              have wt1 : IntKind.u64.wrap (qv * 4294967288) = qv * 4294967288 := wr64 (by omega) (by omega)
              have wt2 : IntKind.u64.wrap (4294967296 * rv) = 4294967296 * rv := wr64 (by omega) (by omega)
              have wt3 : IntKind.u64.wrap (4294967296 * rv + B) = 4294967296 * rv + B := wr64 (by omega) (by omega)
              have wz : IntKind.u64.wrap (IntKind.u64.wrap (IntKind.u64.wrap (M * 4294967296) + B) - IntKind.u64.wrap (qv * 18446744073709551608)) = M * 4294967296 + B - qv * 18446744073709551608 := by
                have := FNv.out
                simp only [IntKind.wrap_u64]; omega
              have HEND := hid (show (M * 4294967296 + B - qv * 18446744073709551608) / 8 = (hi * 18446744073709551616 + lo) % 2305843009213693951 from by
                have h1 := FNu.out; have h2 := FNv.out; have h3 := KU.out; have h4 := KV.out; have h5 := KA.out; have h6 := KB.out; have h7 := KM.out
                clear wz
                omega)
              go_wp2
              go_ret2
              exact ⟨⟨_, by rw [← HEND.out]; rfl⟩, Q.refl _⟩
end Go.Proofs.Ytekpepnonhbkcaa
