/-
  A packet number told in Width bytes is understood by whoever has got every number up to the one that was told, and none that is greater.
-/
import Derived.Test.YtbhhajmfdffdbabRows
import Derived.Test.YtbhhajmfdffdbabAwake
import Derived.Test.YtbhhajmfdffdbabOpen
import Derived.WalkKit
import Derived.ProofKit
import Derived.OpenShut
import Derived.ShutString
import Derived.ChangeOld
import Derived.Below
import Derived.SizedLaws
namespace Go.Proofs.Ytbhhajmfdffdbab.headerTold
open Go.ChangeShapes Go.WideShapes Go.ChangeAt Go.RowKit
open Go.ChangeMaps (open_string shut_string)
set_option linter.unusedVariables false

theorem and_low (k : Nat) (S n : Int) (hS : S = ((2 ^ k : Nat) : Int)) (hk : k ≤ 32) (h0 : 0 ≤ n) (h1 : n ≤ 4611686018427387903) : bits .and .i64 n (S - 1) = n % S := by
  obtain ⟨a, rfl⟩ := Int.eq_ofNat_of_zero_le h0
  subst hS
  have hp : 0 < 2 ^ k := Nat.two_pow_pos k
  have hle : 2 ^ k ≤ 2 ^ 32 := Nat.pow_le_pow_right (by omega) hk
  have e : ((2 ^ k : Nat) : Int) - 1 = ((2 ^ k - 1 : Nat) : Int) := by omega
  rw [e, i64_and_nat a (2 ^ k - 1) (by omega) (by omega), Nat.and_two_pow_sub_one_eq_mod]
  simp
theorem exp_n {n told high S : Int} (k : Int) (hk : 1 ≤ k ∧ k ≤ 4) (hs : stp k = S) (hS : S = 256 ∨ S = 65536 ∨ S = 16777216 ∨ S = 4294967296) (h0 : 0 ≤ n) (h1 : n ≤ 4611686018427387903) (h2 : -1 ≤ told) (h3 : told ≤ high) (h4 : high < n) (h5 : 2 * (n - told) < S) : expM high (n % S) k = n := by
  have hm : 0 ≤ n % S ∧ n % S < S := by rcases hS with rfl | rfl | rfl | rfl <;> omega
  unfold expM
  rw [hs, if_neg (by omega)]
  exact exp_told hS (by omega) h4 (by omega) h1
set_option maxRecDepth 20000 in
set_option maxHeartbeats 4000000 in
theorem walk_bad (n told high : Int) (w : World) (h : n < 0 ∨ 4611686018427387903 < n ∨ told < -1 ∨ n ≤ told) : Calls Try.prog 3 #[.int .i64 n, .int .i64 told, .int .i64 high] w fun e w' => e = .returned (.bool true) ∧ Below w.heap.size w w' := by
  have HW := hid (wid_bad h)
  by_cases h1 : n < 0
  · have d1 : decide (n < 0) = true := by simp; omega
    clear h
    go_enter Try.func3, Try.ntmps3
    go_wp2_with fail
    refine (width_any n told w).mono ?_
    rintro e w1 ⟨rfl, rfl⟩
    rw [HW.out]
    go_wp2_with (go_at_call 5; refine (awake_any w).mono ?_; rintro e w2 ⟨rfl, hq⟩; have HQ := hid hq; clear hq)
    go_ret
    exact ⟨by first | rfl | simp, HQ.out⟩
  have d1 : decide (n < 0) = false := by simp; omega
  by_cases h2 : 4611686018427387903 < n
  · have d2 : decide (4611686018427387903 < n) = true := by simp; omega
    clear h
    go_enter Try.func3, Try.ntmps3
    go_wp2_with fail
    refine (width_any n told w).mono ?_
    rintro e w1 ⟨rfl, rfl⟩
    rw [HW.out]
    go_wp2_with (go_at_call 5; refine (awake_any w).mono ?_; rintro e w2 ⟨rfl, hq⟩; have HQ := hid hq; clear hq)
    go_ret
    exact ⟨by first | rfl | simp, HQ.out⟩
  have d2 : decide (4611686018427387903 < n) = false := by simp; omega
  by_cases h3 : told < -1
  · have d3 : decide (told < -1) = true := by simp; omega
    clear h
    go_enter Try.func3, Try.ntmps3
    go_wp2_with fail
    refine (width_any n told w).mono ?_
    rintro e w1 ⟨rfl, rfl⟩
    rw [HW.out]
    go_wp2_with (go_at_call 5; refine (awake_any w).mono ?_; rintro e w2 ⟨rfl, hq⟩; have HQ := hid hq; clear hq)
    go_ret
    exact ⟨by first | rfl | simp, HQ.out⟩
  have d3 : decide (told < -1) = false := by simp; omega
  have h4 : n ≤ told := by omega
  have d4 : decide (n ≤ told) = true := by simp; omega
  clear h
  · skip
    go_enter Try.func3, Try.ntmps3
    go_wp2_with fail
    refine (width_any n told w).mono ?_
    rintro e w1 ⟨rfl, rfl⟩
    rw [HW.out]
    go_wp2_with (go_at_call 5; refine (awake_any w).mono ?_; rintro e w2 ⟨rfl, hq⟩; have HQ := hid hq; clear hq)
    go_ret
    exact ⟨by first | rfl | simp, HQ.out⟩
set_option maxRecDepth 20000 in
set_option maxHeartbeats 4000000 in
theorem walk_far (n told high : Int) (w : World) (h1 : 0 ≤ n) (h2 : n ≤ 4611686018427387903) (h3 : -1 ≤ told) (h4 : told < n) (hd : 2147483648 ≤ n - told) : Calls Try.prog 3 #[.int .i64 n, .int .i64 told, .int .i64 high] w fun e w' => e = .returned (.bool true) ∧ Below w.heap.size w w' := by
  have HW := hid (show widM n told = 0 from by unfold widM; rw [if_neg (by omega), if_neg (by omega), if_neg (by omega), if_neg (by omega), if_neg (by omega)])
  have d1 : decide (n < 0) = false := by simp; omega
  have d2 : decide (4611686018427387903 < n) = false := by simp; omega
  have d3 : decide (told < -1) = false := by simp; omega
  have d4 : decide (n ≤ told) = false := by simp; omega
  have d5 : decide (2147483648 ≤ n - told) = true := by simp; omega
  · skip
    go_enter Try.func3, Try.ntmps3
    go_wp2_with fail
    refine (width_any n told w).mono ?_
    rintro e w1 ⟨rfl, rfl⟩
    rw [HW.out]
    go_wp2_with (go_at_call 5; refine (awake_any w).mono ?_; rintro e w2 ⟨rfl, hq⟩; have HQ := hid hq; clear hq)
    go_ret
    exact ⟨by first | rfl | simp, HQ.out⟩
set_option maxRecDepth 20000 in
set_option maxHeartbeats 4000000 in
theorem walk_1 (n told high : Int) (w : World) (h1 : 0 ≤ n) (h2 : n ≤ 4611686018427387903) (h3 : -1 ≤ told) (h4 : told < n) (hd : n - told < 128) : Calls Try.prog 3 #[.int .i64 n, .int .i64 told, .int .i64 high] w fun e w' => e = .returned (.bool true) ∧ Below w.heap.size w w' := by
  have HW := hid (show widM n told = 1 from by unfold widM; rw [if_neg (by omega), if_pos (by omega)])
  have d5 : decide (128 ≤ n - told) = false := by simp; omega
  have hand := and_low 8 256 n (by decide) (by omega) h1 h2
  have hand' : bits .and .i64 n 255 = n % 256 := hand
  by_cases g1 : high < told
  · have e1 : decide (high < told) = true := by simp; omega
    clear hand hand'
    go_enter Try.func3, Try.ntmps3
    go_wp2_with fail
    refine (width_any n told w).mono ?_
    rintro e w1 ⟨rfl, rfl⟩
    rw [HW.out]
    go_wp2_with (go_at_call 5; refine (awake_any w).mono ?_; rintro e w2 ⟨rfl, hq⟩; have HQ := hid hq; clear hq)
    go_ret
    exact ⟨by first | rfl | simp, HQ.out⟩
  have e1 : decide (high < told) = false := by simp; omega
  by_cases g2 : n ≤ high
  · have e2 : decide (n ≤ high) = true := by simp; omega
    clear hand hand'
    go_enter Try.func3, Try.ntmps3
    go_wp2_with fail
    refine (width_any n told w).mono ?_
    rintro e w1 ⟨rfl, rfl⟩
    rw [HW.out]
    go_wp2_with (go_at_call 5; refine (awake_any w).mono ?_; rintro e w2 ⟨rfl, hq⟩; have HQ := hid hq; clear hq)
    go_ret
    exact ⟨by first | rfl | simp, HQ.out⟩
  have e2 : decide (n ≤ high) = false := by simp; omega
  have HE := hid (exp_n (n := n) (told := told) (high := high) (S := 256) 1 (by omega) rfl (by omega) h1 h2 h3 (by omega) (by omega) (by omega))
  generalize n % 256 = lowb at *
  clear hand
  go_enter Try.func3, Try.ntmps3
  go_wp2_with fail
  refine (width_any n told w).mono ?_
  rintro e w1 ⟨rfl, rfl⟩
  rw [HW.out]
  go_wp2_with (first
    | (go_at_call 6; refine (expand_any _ _ _ _).mono ?_; rintro e w2 ⟨rfl, rfl⟩; rw [HE.out])
    | (go_at_call 5; refine (awake_any w).mono ?_; rintro e w2 ⟨rfl, hq⟩; have HQ := hid hq; clear hq))
  go_ret
  exact ⟨by first | rfl | simp, HQ.out⟩
set_option maxRecDepth 20000 in
set_option maxHeartbeats 4000000 in
theorem walk_2 (n told high : Int) (w : World) (h1 : 0 ≤ n) (h2 : n ≤ 4611686018427387903) (h3 : -1 ≤ told) (h4 : told < n) (hl : 128 ≤ n - told) (hd : n - told < 32768) : Calls Try.prog 3 #[.int .i64 n, .int .i64 told, .int .i64 high] w fun e w' => e = .returned (.bool true) ∧ Below w.heap.size w w' := by
  have HW := hid (show widM n told = 2 from by unfold widM; rw [if_neg (by omega), if_neg (by omega), if_pos (by omega)])
  have d5 : decide (32768 ≤ n - told) = false := by simp; omega
  have hand := and_low 16 65536 n (by decide) (by omega) h1 h2
  have hand' : bits .and .i64 n 65535 = n % 65536 := hand
  by_cases g1 : high < told
  · have e1 : decide (high < told) = true := by simp; omega
    clear hand hand'
    go_enter Try.func3, Try.ntmps3
    go_wp2_with fail
    refine (width_any n told w).mono ?_
    rintro e w1 ⟨rfl, rfl⟩
    rw [HW.out]
    go_wp2_with (go_at_call 5; refine (awake_any w).mono ?_; rintro e w2 ⟨rfl, hq⟩; have HQ := hid hq; clear hq)
    go_ret
    exact ⟨by first | rfl | simp, HQ.out⟩
  have e1 : decide (high < told) = false := by simp; omega
  by_cases g2 : n ≤ high
  · have e2 : decide (n ≤ high) = true := by simp; omega
    clear hand hand'
    go_enter Try.func3, Try.ntmps3
    go_wp2_with fail
    refine (width_any n told w).mono ?_
    rintro e w1 ⟨rfl, rfl⟩
    rw [HW.out]
    go_wp2_with (go_at_call 5; refine (awake_any w).mono ?_; rintro e w2 ⟨rfl, hq⟩; have HQ := hid hq; clear hq)
    go_ret
    exact ⟨by first | rfl | simp, HQ.out⟩
  have e2 : decide (n ≤ high) = false := by simp; omega
  have HE := hid (exp_n (n := n) (told := told) (high := high) (S := 65536) 2 (by omega) rfl (by omega) h1 h2 h3 (by omega) (by omega) (by omega))
  generalize n % 65536 = lowb at *
  clear hand
  go_enter Try.func3, Try.ntmps3
  go_wp2_with fail
  refine (width_any n told w).mono ?_
  rintro e w1 ⟨rfl, rfl⟩
  rw [HW.out]
  go_wp2_with (first
    | (go_at_call 6; refine (expand_any _ _ _ _).mono ?_; rintro e w2 ⟨rfl, rfl⟩; rw [HE.out])
    | (go_at_call 5; refine (awake_any w).mono ?_; rintro e w2 ⟨rfl, hq⟩; have HQ := hid hq; clear hq))
  go_ret
  exact ⟨by first | rfl | simp, HQ.out⟩
set_option maxRecDepth 20000 in
set_option maxHeartbeats 4000000 in
theorem walk_3 (n told high : Int) (w : World) (h1 : 0 ≤ n) (h2 : n ≤ 4611686018427387903) (h3 : -1 ≤ told) (h4 : told < n) (hl : 32768 ≤ n - told) (hd : n - told < 8388608) : Calls Try.prog 3 #[.int .i64 n, .int .i64 told, .int .i64 high] w fun e w' => e = .returned (.bool true) ∧ Below w.heap.size w w' := by
  have HW := hid (show widM n told = 3 from by unfold widM; rw [if_neg (by omega), if_neg (by omega), if_neg (by omega), if_pos (by omega)])
  have d5 : decide (8388608 ≤ n - told) = false := by simp; omega
  have hand := and_low 24 16777216 n (by decide) (by omega) h1 h2
  have hand' : bits .and .i64 n 16777215 = n % 16777216 := hand
  by_cases g1 : high < told
  · have e1 : decide (high < told) = true := by simp; omega
    clear hand hand'
    go_enter Try.func3, Try.ntmps3
    go_wp2_with fail
    refine (width_any n told w).mono ?_
    rintro e w1 ⟨rfl, rfl⟩
    rw [HW.out]
    go_wp2_with (go_at_call 5; refine (awake_any w).mono ?_; rintro e w2 ⟨rfl, hq⟩; have HQ := hid hq; clear hq)
    go_ret
    exact ⟨by first | rfl | simp, HQ.out⟩
  have e1 : decide (high < told) = false := by simp; omega
  by_cases g2 : n ≤ high
  · have e2 : decide (n ≤ high) = true := by simp; omega
    clear hand hand'
    go_enter Try.func3, Try.ntmps3
    go_wp2_with fail
    refine (width_any n told w).mono ?_
    rintro e w1 ⟨rfl, rfl⟩
    rw [HW.out]
    go_wp2_with (go_at_call 5; refine (awake_any w).mono ?_; rintro e w2 ⟨rfl, hq⟩; have HQ := hid hq; clear hq)
    go_ret
    exact ⟨by first | rfl | simp, HQ.out⟩
  have e2 : decide (n ≤ high) = false := by simp; omega
  have HE := hid (exp_n (n := n) (told := told) (high := high) (S := 16777216) 3 (by omega) rfl (by omega) h1 h2 h3 (by omega) (by omega) (by omega))
  generalize n % 16777216 = lowb at *
  clear hand
  go_enter Try.func3, Try.ntmps3
  go_wp2_with fail
  refine (width_any n told w).mono ?_
  rintro e w1 ⟨rfl, rfl⟩
  rw [HW.out]
  go_wp2_with (first
    | (go_at_call 6; refine (expand_any _ _ _ _).mono ?_; rintro e w2 ⟨rfl, rfl⟩; rw [HE.out])
    | (go_at_call 5; refine (awake_any w).mono ?_; rintro e w2 ⟨rfl, hq⟩; have HQ := hid hq; clear hq))
  go_ret
  exact ⟨by first | rfl | simp, HQ.out⟩
set_option maxRecDepth 20000 in
set_option maxHeartbeats 4000000 in
theorem walk_4 (n told high : Int) (w : World) (h1 : 0 ≤ n) (h2 : n ≤ 4611686018427387903) (h3 : -1 ≤ told) (h4 : told < n) (hl : 8388608 ≤ n - told) (hd : n - told < 2147483648) : Calls Try.prog 3 #[.int .i64 n, .int .i64 told, .int .i64 high] w fun e w' => e = .returned (.bool true) ∧ Below w.heap.size w w' := by
  have HW := hid (show widM n told = 4 from by unfold widM; rw [if_neg (by omega), if_neg (by omega), if_neg (by omega), if_neg (by omega), if_pos (by omega)])
  have d5 : decide (2147483648 ≤ n - told) = false := by simp; omega
  have hand := and_low 32 4294967296 n (by decide) (by omega) h1 h2
  have hand' : bits .and .i64 n 4294967295 = n % 4294967296 := hand
  by_cases g1 : high < told
  · have e1 : decide (high < told) = true := by simp; omega
    clear hand hand'
    go_enter Try.func3, Try.ntmps3
    go_wp2_with fail
    refine (width_any n told w).mono ?_
    rintro e w1 ⟨rfl, rfl⟩
    rw [HW.out]
    go_wp2_with (go_at_call 5; refine (awake_any w).mono ?_; rintro e w2 ⟨rfl, hq⟩; have HQ := hid hq; clear hq)
    go_ret
    exact ⟨by first | rfl | simp, HQ.out⟩
  have e1 : decide (high < told) = false := by simp; omega
  by_cases g2 : n ≤ high
  · have e2 : decide (n ≤ high) = true := by simp; omega
    clear hand hand'
    go_enter Try.func3, Try.ntmps3
    go_wp2_with fail
    refine (width_any n told w).mono ?_
    rintro e w1 ⟨rfl, rfl⟩
    rw [HW.out]
    go_wp2_with (go_at_call 5; refine (awake_any w).mono ?_; rintro e w2 ⟨rfl, hq⟩; have HQ := hid hq; clear hq)
    go_ret
    exact ⟨by first | rfl | simp, HQ.out⟩
  have e2 : decide (n ≤ high) = false := by simp; omega
  have HE := hid (exp_n (n := n) (told := told) (high := high) (S := 4294967296) 4 (by omega) rfl (by omega) h1 h2 h3 (by omega) (by omega) (by omega))
  generalize n % 4294967296 = lowb at *
  clear hand
  go_enter Try.func3, Try.ntmps3
  go_wp2_with fail
  refine (width_any n told w).mono ?_
  rintro e w1 ⟨rfl, rfl⟩
  rw [HW.out]
  go_wp2_with (first
    | (go_at_call 6; refine (expand_any _ _ _ _).mono ?_; rintro e w2 ⟨rfl, rfl⟩; rw [HE.out])
    | (go_at_call 5; refine (awake_any w).mono ?_; rintro e w2 ⟨rfl, hq⟩; have HQ := hid hq; clear hq))
  go_ret
  exact ⟨by first | rfl | simp, HQ.out⟩
theorem walk (n told high : Int) (w : World) : Calls Try.prog 3 #[.int .i64 n, .int .i64 told, .int .i64 high] w fun e w' => e = .returned (.bool true) ∧ Below w.heap.size w w' := by
  by_cases h : n < 0 ∨ 4611686018427387903 < n ∨ told < -1 ∨ n ≤ told
  · exact walk_bad n told high w h
  by_cases h1 : n - told < 128
  · exact walk_1 n told high w (by omega) (by omega) (by omega) (by omega) h1
  by_cases h2 : n - told < 32768
  · exact walk_2 n told high w (by omega) (by omega) (by omega) (by omega) (by omega) h2
  by_cases h3 : n - told < 8388608
  · exact walk_3 n told high w (by omega) (by omega) (by omega) (by omega) (by omega) h3
  by_cases h4 : n - told < 2147483648
  · exact walk_4 n told high w (by omega) (by omega) (by omega) (by omega) (by omega) h4
  · exact walk_far n told high w (by omega) (by omega) (by omega) (by omega) (by omega)

set_option maxRecDepth 100000 in
theorem lifted (os : Os) (started : os.Started) (H : Type) (enc : TypeId × Value → H) :
    ReturnsInHanded {} Try.checked os 3 .any (Rows.headerToldSpec.pre6 enc Try.prog Try.f3 Rows.headerToldRow.domain false) (Rows.headerToldSpec.post enc Try.prog Try.f3 false true false false) := by
  refine returnsInHanded_of_change_sized (C := Try.checked) own_knob started (by kernel_rfl) Try.func3
    (ChangeSpec.witness6 (enc := enc) (C := Try.checked) false ⟨#[], #[.int .i64 0, .int .i64 0, .int .i64 0], []⟩ 8 (by kernel_rfl) (by kernel_rfl) (by kernel_rfl) (by kernel_rfl)) ?_
  intro W base args ds gs before hval0 hW hcnd hsz0 _
  have hval : ∀ (j : Nat) t v, Try.f3.params[j]? = some t → args[j]? = some v → Value.okWide Try.prog W .any base t v := hval0
  have hsz : (DataW.weightsEach Try.prog (Try.f3.params.toList ++ Rows.headerToldSpec.plain.varTypes Try.prog) (ds ++ gs)).all (· ≤ reachBytes) = true := hsz0
  have hW' := hW
  obtain ⟨p, q, hA0, hV, rfl, hfz, hnd⟩ := hW
  have hA : DataW.TrodAll enc Try.prog W 0 (fun _ => true) true Try.f3.params.toList args.toList ds p := hA0
  rw [Try.params3] at hA hval hsz
  obtain ⟨v0, vs0, d0, ds0, p0, q0, hargs, rfl, rfl, h0, r0⟩ := trodAll_cons hA
  obtain ⟨v1, vs1, d1, ds1, p1, q1, rfl, rfl, rfl, h1, r1⟩ := trodAll_cons r0
  obtain ⟨v2, vs2, d2, ds2, p2, q2, rfl, rfl, rfl, h2, r2⟩ := trodAll_cons r1
  obtain ⟨rfl, rfl, rfl⟩ := trodAll_nil r2
  obtain rfl : args = #[v0, v1, v2] := by cases args; simp_all
  obtain ⟨rfl, rfl⟩ := trodVars_none hV
  obtain ⟨a0, rfl, rfl, rfl, w0⟩ := open_int Try.underlying3 (hval 0 3 v0 rfl rfl) h0
  obtain ⟨a1, rfl, rfl, rfl, w1⟩ := open_int Try.underlying3 (hval 1 3 v1 rfl rfl) h1
  obtain ⟨a2, rfl, rfl, rfl, w2⟩ := open_int Try.underlying3 (hval 2 3 v2 rfl rfl) h2
  clear hA0 hval0
  refine (walk a0 a1 a2 W).mono fun e W' ⟨he, bel⟩ => ?_
  subst he
  exact ⟨_, rfl, _, _, _, [], _, [], hW', trodAll_mk1 (shut_bool Try.underlying4 _), (trodAll_cons_mk (shut_int Try.underlying3 w0) (trodAll_cons_mk (shut_int Try.underlying3 w1) (trodAll_cons_mk (shut_int Try.underlying3 w2) trodAll_mk0))), rfl, bel.frame _, fun h => by cases h⟩

theorem over : Rows.headerToldRow.holds Try.pinned (OpenSpec.ofChange Rows.headerToldSpec) :=
  OpenClaim.holds_of_wide 3 Try.f3 rfl rfl rfl rfl rfl rfl rfl ⟨rfl, rfl, rfl, rfl, rfl⟩ rfl rfl rfl rfl rfl (by kernel_rfl) Try.func3 (by kernel_rfl)
    (of_decide_eq_true (by kernel_rfl)) (by unfold Func.isWrapper; first | (rw [if_pos (by decide +kernel)]; kernel_rfl) | (rw [if_neg (by decide +kernel)]; exact ⟨rfl, rfl⟩))
    (fun os started H enc _ => lifted os started H enc)

end Go.Proofs.Ytbhhajmfdffdbab.headerTold
namespace Go.Proofs.Ytbhhajmfdffdbab

/-- The statement. -/
theorem headerTold_holds : Rows.HeaderToldSaid := headerTold.over
#print axioms headerTold_holds
end Go.Proofs.Ytbhhajmfdffdbab
