/-
  LossProbes: as long as a packet that elicits is out there is a timer; when its time comes a probe is due, each after twice the time of the last one, up to the twentieth. No condition.
-/
import Derived.Test.YtjhihcmemnhbbaaRows
import Derived.Test.YtjhihcmemnhbbaaFir
import Derived.Test.YtjhihcmemnhbbaaRim
import Derived.WalkKit
import Derived.ProofKit
import Derived.OpenShut
import Derived.ShutString
import Derived.ChangeOld
import Derived.Below
import Derived.SizedLaws
namespace Go.Proofs.Ytjhihcmemnhbbaa.lossProbes
open Go.ChangeShapes Go.WideShapes Go.ChangeAt Go.RowKit
open Go.ChangeMaps (open_string shut_string)
set_option linter.unusedVariables false

set_option maxRecDepth 20000
def pS (most size now prb : Int) : Lo := ({ newLo most with now := now, prb := prb } : Lo).put 2 ⟨[⟨1, size, 0, true⟩], [(1, 1)], -1, 0, -1⟩
theorem ps_sent {most size : Int} (h0 : 0 ≤ size) (h1 : size ≤ 65535) : sntE (newLo most) 2 1 size 0 = 0 ∧ sntS (newLo most) 2 1 size true 0 = pS most size 0 0 := by
  have e1 : chE (newLo most) 2 0 = 0 := rfl
  have e2 : ¬ badP (newLo most) 2 1 size := by
    have : gs ((newLo most).sp 2).sent = -1 := rfl
    simp only [badP, this]; omega
  have e3 : sntE (newLo most) 2 1 size 0 = 0 := by
    unfold sntE
    rw [if_neg (by simp [e1])]
    rw [if_neg (show ¬ badP (newLo most) (2 : Int).toNat 1 size from e2)]
    rfl
  refine ⟨e3, ?_⟩
  unfold sntS
  rw [if_pos e3]
  rfl
theorem ps_bad {most size : Int} (h : ¬ (0 ≤ size ∧ size ≤ 65535)) : sntE (newLo most) 2 1 size 0 = 111 := by
  have e1 : chE (newLo most) 2 0 = 0 := rfl
  have e2 : badP (newLo most) 2 1 size := by simp only [badP]; omega
  unfold sntE
  rw [if_neg (by simp [e1])]
  rw [if_pos (show badP (newLo most) (2 : Int).toNat 1 size from e2)]
def pw (most : Int) (j : Nat) : Int := (997 + most) * 2 ^ j
theorem pw_succ (most : Int) (j : Nat) : pw most (j + 1) = 2 * pw most j := by
  unfold pw; rw [Int.pow_succ, ← Int.mul_assoc, Int.mul_comm]
theorem pw_range {most : Int} (h0 : 0 ≤ most) (h1 : most ≤ 16383) {j : Nat} (hj : j ≤ 20) : 997 ≤ pw most j ∧ pw most j ≤ 18224250880 := by
  have a : (1 : Int) ≤ 2 ^ j := by
    have : 2 ^ 0 ≤ 2 ^ j := Nat.pow_le_pow_right (by omega) (by omega)
    have h3 : ((2 ^ 0 : Nat) : Int) ≤ ((2 ^ j : Nat) : Int) := by omega
    simpa using h3
  have b : (2 : Int) ^ j ≤ 1048576 := by
    have : 2 ^ j ≤ 2 ^ 20 := Nat.pow_le_pow_right (by omega) hj
    have h3 : ((2 ^ j : Nat) : Int) ≤ ((2 ^ 20 : Nat) : Int) := by omega
    simpa using h3
  unfold pw
  have c1 := Int.mul_le_mul_of_nonneg_left a (show 0 ≤ 997 + most by omega)
  have c2 := Int.mul_le_mul_of_nonneg_left b (show 0 ≤ 997 + most by omega)
  generalize (997 + most) * 2 ^ j = Y at *
  omega
theorem ps_nx (most size now : Int) (j : Nat) (h0 : 0 ≤ most) (h1 : most ≤ 16383) (hj : j ≤ 20) : nxP (pS most size now j) = 2 ∧ nxA (pS most size now j) = pw most j ∧ nxB (pS most size now j) = true := by
  have t0 : prbT (pS most size now j) 0 = -1 := rfl
  have t1 : prbT (pS most size now j) 1 = -1 := rfl
  have t2 : prbT (pS most size now j) 2 = pw most j := by
    show 0 + (333 + max 1 (4 * 166) + most) * 2 ^ (j : Int).toNat = _
    unfold pw
    rw [Int.toNat_natCast, Int.zero_add]
    rfl
  have hp := pw_range h0 h1 hj
  have l : ∀ k, k < 3 → ltA (pS most size now j) k = -1 := by
    intro k hk
    rcases (show k = 0 ∨ k = 1 ∨ k = 2 by omega) with rfl | rfl | rfl <;> rfl
  have e1 : soon (ltA (pS most size now j) 0) (ltA (pS most size now j) 1) (ltA (pS most size now j) 2) = -1 := by
    rw [l 0 (by omega), l 1 (by omega), l 2 (by omega)]; decide
  have e2 : soon (prbT (pS most size now j) 0) (prbT (pS most size now j) 1) (prbT (pS most size now j) 2) = 2 := by
    rw [t0, t1, t2]
    exact soon_of (sI_none _ _ _) (sI_none _ _ _) (sI_first _ _ _ (by omega))
  have p : nxP (pS most size now j) = 2 := by unfold nxP; rw [if_neg (by rw [e1]; simp), e2]
  refine ⟨p, ?_, ?_⟩
  · unfold nxA; rw [if_neg (by rw [e1]; simp), p, if_pos (by omega)]; exact t2
  · unfold nxB; rw [if_neg (by rw [e1]; simp), e2]; rfl
theorem ps_ok {most size now : Int} {j : Nat} (h0 : 0 ≤ most) (h1 : most ≤ 16383) (s0 : 0 ≤ size) (s1 : size ≤ 65535) (n0 : 0 ≤ now) (n1 : now ≤ 1099511627776) (hj : j ≤ 20) : Ok 1 (pS most size now j) := by
  have hb := (ok_new most h0 h1).more (N' := 1) (by omega)
  have h2 := ok_now hb (now := now) n0 n1
  have h3 : Ok 1 { newLo most with now := now, prb := (j : Int) } :=
    ⟨h2.most0, h2.most1, h2.now0, h2.now1, h2.win0, h2.win1, h2.thr0, h2.thr1, h2.rcv0, h2.rcv1, (by simp only; omega), (by simp only; omega), h2.lat0, h2.lat1, h2.lea0, h2.lea1, h2.smo0, h2.smo1, h2.var0, h2.var1, h2.sp⟩
  refine ok_put' h3 (Nat.le_refl 1) ⟨?_, ?_, ?_, ?_, ?_, ?_, ?_, ?_, ?_, ?_⟩ (by show (12000 : Int) + 65536 * ((0 + 0 + 1 : Nat) : Int) ≤ 12000 + 65536 * ((1 : Nat) : Int); omega)
  · intro p hp
    rw [List.mem_singleton.1 hp]
    exact ⟨by simp only; omega, by simp only; omega, s0, s1, by simp only; omega, n0⟩
  · simp
  · exact ⟨by omega, by omega, by omega, (fun y hy => by cases hy), trivial⟩
  · simp
  all_goals simp
theorem ps_ck {most size now now' : Int} {j : Nat} (h : now ≤ now') (h2 : now' ≤ 1099511627776) : ckE (pS most size now j) now' = 0 := by
  unfold ckE; rw [if_pos ⟨h, h2⟩]
def nowOf (most : Int) (j : Nat) : Int := if j = 0 then 0 else pw most (j - 1)
def PInv (w : World) (most size : Int) (j : Nat) (wr : World) : Prop := ∃ r, La wr w.heap.size r (pS most size (nowOf most j) ((min j 20 : Nat) : Int)) ∧ Q w wr ∧ ∀ b, Fp w.heap.size r b → w.heap.size ≤ b

set_option maxHeartbeats 4000000 in
theorem walk (n s cnt : Int) (w : World) : Calls Try.prog 6 #[.int .i64 n, .int .i64 s, .int .i64 cnt] w fun e w' => e = .returned (.bool true) ∧ Below w.heap.size w w' := by
  have AW := hid (fun w1 => awake_any w1)
  by_cases hn : 0 ≤ n ∧ n ≤ 16383
  · obtain ⟨hn0, hn1⟩ := hn
    have A := hid (new_ok n w ⟨hn0, hn1⟩)
    have HON := hid (ok_new n hn0 hn1)
    have hw0 : IntKind.i64.wrap (997 + n) = 997 + n := by rw [IntKind.wrap_i64]; omega
    by_cases hs : 0 ≤ s ∧ s ≤ 65535
    · obtain ⟨hs0, hs1⟩ := hs
      have PS := hid (ps_sent (most := n) hs0 hs1)
      go_enter Try.func6, Try.ntmps6
      go_wp2_with fail
      refine A.out.mono ?_
      rintro e w1 ⟨rfl, hL, q1⟩
      have Q1 := hid q1
      have B := hid (sent_any hL HON.out (by omega) 2 1 s true 0)
      rw [PS.out.1, PS.out.2] at B
      clear hL q1
      go_wp2_with fail
      refine B.out.mono ?_
      rintro e w2 ⟨rfl, r2, W2⟩
      have F2 := hid (Wr.fresh Q1.out fp_new W2)
      have L2 := hid W2.la
      clear W2
      have P0 := hid (show PInv w n s 0 w2 from ⟨r2, L2.out, F2.out.1, F2.out.2⟩)
      have N0 := hid hn0
      have N1 := hid hn1
      have S0 := hid hs0
      have S1 := hid hs1
      clear hn0 hn1 hs0 hs1 L2 F2 A B PS HON Q1
      go_wp2
      go_loopw [9, 10] (fun x i wr => ∃ j : Nat, j ≤ 21 ∧ i = .int .i64 j ∧ x = .int .i64 (pw n (min j 20)) ∧ PInv w n s j wr) (fun _ i _ => 21 - (intOf i).toNat)
      case atStart => exact ⟨0, by omega, rfl, by show Value.int _ (997 + n) = Value.int _ ((997 + n) * 2 ^ 0); simp, P0.out⟩
      case round =>
        obtain ⟨j, hj, rfl, rfl, hinv⟩ := hrel
        have HI := hid hinv
        clear hinv
        by_cases hgo : (j : Int) < cnt ∧ j < 21
        · have g1 : decide ((j : Int) < cnt) = true := by simp [hgo.1]
          have g2 : decide ((j : Int) < 21) = true := by simp; omega
          have hj20 : j ≤ 20 := by omega
          have hm : min j 20 = j := by omega
          obtain ⟨r3, l3, q3, f3⟩ := HI.out
          rw [hm] at l3 ⊢
          have hp := pw_range N0.out N1.out hj20
          have hnow : 0 ≤ nowOf n j ∧ nowOf n j ≤ pw n j - 1 := by
            unfold nowOf
            by_cases e : j = 0
            · rw [if_pos e]; omega
            · rw [if_neg e]
              have h1 := pw_succ n (j - 1)
              rw [show j - 1 + 1 = j by omega] at h1
              have h2 := pw_range N0.out N1.out (j := j - 1) (by omega)
              omega
          have ok3 := ps_ok (j := j) N0.out N1.out S0.out S1.out hnow.1 (show nowOf n j ≤ 1099511627776 by omega) hj20
          have nx3 := ps_nx n s (nowOf n j) j N0.out N1.out hj20
          have TM := hid (timer_any l3 ok3)
          rw [nx3.1, nx3.2.1, show (((2 : Int) != -1)) = true from rfl] at TM
          have hw1 : IntKind.i64.wrap (pw n j - 1) = pw n j - 1 := by rw [IntKind.wrap_i64]; omega
          have hw2 : IntKind.i64.wrap ((j : Int) + 1) = ((j + 1 : Nat) : Int) := by rw [IntKind.wrap_i64]; omega
          have hw3 : IntKind.i64.wrap (pw n j * 2) = pw n j * 2 := by rw [IntKind.wrap_i64]; omega
          have F1 := hid (fun (w4 : World) (l4 : La w4 w.heap.size r3 (pS n s (nowOf n j) j)) => fire_none l4 ok3 (pw n j - 1) (ps_ck (by omega) (by omega)) (.inr (by rw [nx3.2.1]; omega)))
          have ok4 := ps_ok (now := pw n j - 1) (j := j) N0.out N1.out S0.out S1.out (by omega) (by omega) hj20
          have nx4 := ps_nx n s (pw n j - 1) j N0.out N1.out hj20
          have F2 := hid (fun (w5 : World) (l5 : La w5 w.heap.size r3 (pS n s (pw n j - 1) j)) => fire_probe l5 ok4 (pw n j) (ps_ck (by omega) (by omega)) (by rw [nx4.1]; omega) (by rw [nx4.2.1]; omega) nx4.2.2)
          rw [nx4.1] at F2
          have NS := hid (show (pS n s (pw n j) ((min (j + 1) 20 : Nat) : Int)) = { pS n s (pw n j - 1) j with now := pw n j, prb := min ((j : Int) + 1) 20 } by
            have : ((min (j + 1) 20 : Nat) : Int) = min ((j : Int) + 1) 20 := by omega
            rw [this]; rfl)
          have NO := hid (show nowOf n (j + 1) = pw n j by unfold nowOf; rw [if_neg (by omega)]; rfl)
          have L3 := hid l3
          have Q3 := hid q3
          have FF := hid f3
          have d40 : decide ((1099511627776 : Int) < pw n j) = false := by simp; omega
          have hbr : (pw n j != pw n j) = false := by simp
          have PW := hid (pw_succ n j)
          clear l3 q3 f3 ok3 ok4 nx3 nx4 hnow hgo hm HI
          have HP := hid hp
          clear hp
          by_cases h20 : j < 20
          · have d20 : decide ((j : Int) < 20) = true := by simp; omega
            have hmj : min (j + 1) 20 = j + 1 := by omega
            have HM := hid hmj
            clear hmj
            go_wp2_with fail
            refine TM.out.mono ?_
            rintro e w4 ⟨rfl, q4⟩
            have L4 := hid (L3.out.q q4)
            have Q4 := hid (Q3.out.trans q4)
            clear q4
            go_wp2_with fail
            refine (F1.out w4 L4.out).mono ?_
            rintro e w5 ⟨rfl, W5⟩
            have G5 := hid (Wr.fresh Q4.out FF.out W5)
            have L5 := hid W5.la
            clear W5
            go_wp2_with fail
            refine (F2.out w5 L5.out).mono ?_
            rintro e w6 ⟨rfl, W6⟩
            have G6 := hid (Wr.fresh G5.out.1 FF.out W6)
            have PN := hid (show PInv w n s (j + 1) w6 from ⟨r3, by rw [NO.out, NS.out]; exact W6.la, G6.out.1, G6.out.2⟩)
            clear W6
            go_wp2
            go_roundw
            case rel => exact ⟨j + 1, by omega, by go_num, by rw [HM.out, PW.out]; show Value.int _ _ = Value.int _ _; congr 1; omega, PN.out⟩
            case measure => simp [intOf]; omega
          · have d20 : decide ((j : Int) < 20) = false := by simp; omega
            have HM := hid (show min (j + 1) 20 = j by omega)
            have HJ := hid h20
            clear h20
            go_wp2_with fail
            refine TM.out.mono ?_
            rintro e w4 ⟨rfl, q4⟩
            have L4 := hid (L3.out.q q4)
            have Q4 := hid (Q3.out.trans q4)
            clear q4
            go_wp2_with fail
            refine (F1.out w4 L4.out).mono ?_
            rintro e w5 ⟨rfl, W5⟩
            have G5 := hid (Wr.fresh Q4.out FF.out W5)
            have L5 := hid W5.la
            clear W5
            go_wp2_with fail
            refine (F2.out w5 L5.out).mono ?_
            rintro e w6 ⟨rfl, W6⟩
            have G6 := hid (Wr.fresh G5.out.1 FF.out W6)
            have PN := hid (show PInv w n s (j + 1) w6 from ⟨r3, by rw [NO.out, NS.out]; exact W6.la, G6.out.1, G6.out.2⟩)
            clear W6
            go_wp2
            go_roundw
            case rel => exact ⟨j + 1, by omega, by go_num, by rw [HM.out], PN.out⟩
            case measure => simp [intOf]; omega
        · have UN := hid (show ∀ w4, PInv w n s j w4 → Calls Try.prog 11 #[.pointer (some ⟨w.heap.size, 0, none⟩)] w4 fun e w' => e = .returned (.int .i64 s) ∧ Q w4 w' from by
            intro w4 hi
            obtain ⟨r4, l4, q4, f4⟩ := hi
            have hp : 0 ≤ nowOf n j ∧ nowOf n j ≤ 1099511627776 := by
              unfold nowOf
              by_cases e : j = 0
              · rw [if_pos e]; omega
              · rw [if_neg e]; have := pw_range N0.out N1.out (j := j - 1) (by omega); omega
            have := under_any l4 (ps_ok N0.out N1.out S0.out S1.out hp.1 hp.2 (by omega))
            rw [show undA (pS n s (nowOf n j) ((min j 20 : Nat) : Int)) = s from by show 0 + 0 + under [⟨1, s, 0, true⟩] = s; simp [under]] at this
            exact this)
          have QQ := hid (show Q w wr from by obtain ⟨_, _, q, _⟩ := HI.out; exact q)
          have hss : (s == s) = true := by simp
          by_cases hc : (j : Int) < cnt
          · have g1 : decide ((j : Int) < cnt) = true := by simp [hc]
            have g2 : decide ((j : Int) < 21) = false := by simp; omega
            clear hgo hc
            go_wp2_with fail
            refine (UN.out wr HI.out).mono ?_
            rintro e w5 ⟨rfl, q5⟩
            have Q5 := hid (QQ.out.trans q5)
            clear q5
            go_wp2_with fail
            refine (AW.out w5).mono ?_
            rintro e w6 ⟨rfl, q6⟩
            have Q6 := hid (Q5.out.trans q6)
            clear q6
            go_wp2
            go_ret
            exact ⟨rfl, Q6.out⟩
          · have g1 : decide ((j : Int) < cnt) = false := by simp [hc]
            clear hgo hc
            go_wp2_with fail
            refine (UN.out wr HI.out).mono ?_
            rintro e w5 ⟨rfl, q5⟩
            have Q5 := hid (QQ.out.trans q5)
            clear q5
            go_wp2_with fail
            refine (AW.out w5).mono ?_
            rintro e w6 ⟨rfl, q6⟩
            have Q6 := hid (Q5.out.trans q6)
            clear q6
            go_wp2
            go_ret
            exact ⟨rfl, Q6.out⟩
    · have E := hid (ps_bad (most := n) hs)
      go_enter Try.func6, Try.ntmps6
      go_wp2_with fail
      refine A.out.mono ?_
      rintro e w1 ⟨rfl, hL, q1⟩
      have Q1 := hid q1
      have B := hid (sent_any hL HON.out (by omega) 2 1 s true 0)
      rw [E.out] at B
      clear hL q1
      go_wp2_with fail
      refine B.out.mono ?_
      rintro e w2 ⟨rfl, r2, W2⟩
      have F2 := hid (Wr.fresh Q1.out fp_new W2)
      clear W2
      by_cases h1 : s < 0
      · have b1 : decide (s < 0) = true := by simp [h1]
        clear hs hn0 hn1
        go_wp2_with fail
        refine (AW.out w2).mono ?_
        rintro e w4 ⟨rfl, hq4⟩
        have HQ4 := hid (F2.out.1.trans hq4)
        clear hq4
        go_wp2
        go_ret
        exact ⟨rfl, HQ4.out⟩
      · have b1 : decide (s < 0) = false := by simp [h1]
        have b2 : decide ((65535 : Int) < s) = true := by simp; omega
        clear hs hn0 hn1
        go_wp2_with fail
        refine (AW.out w2).mono ?_
        rintro e w4 ⟨rfl, hq4⟩
        have HQ4 := hid (F2.out.1.trans hq4)
        clear hq4
        go_wp2
        go_ret
        exact ⟨rfl, HQ4.out⟩
  · have A := hid (new_bad n w hn)
    by_cases h1 : n < 0
    · have b1 : decide (n < 0) = true := by simp [h1]
      clear hn
      go_enter Try.func6, Try.ntmps6
      go_wp2_with fail
      refine A.out.mono ?_
      rintro e w1 ⟨rfl, rfl⟩
      go_wp2_with fail
      refine (AW.out w).mono ?_
      rintro e w4 ⟨rfl, hq4⟩
      have HQ4 := hid hq4
      clear hq4
      go_wp2
      go_ret
      exact ⟨rfl, HQ4.out⟩
    · have b1 : decide (n < 0) = false := by simp [h1]
      have b2 : decide ((16383 : Int) < n) = true := by simp; omega
      clear hn
      go_enter Try.func6, Try.ntmps6
      go_wp2_with fail
      refine A.out.mono ?_
      rintro e w1 ⟨rfl, rfl⟩
      go_wp2_with fail
      refine (AW.out w).mono ?_
      rintro e w4 ⟨rfl, hq4⟩
      have HQ4 := hid hq4
      clear hq4
      go_wp2
      go_ret
      exact ⟨rfl, HQ4.out⟩
set_option maxRecDepth 100000 in
theorem lifted (os : Os) (started : os.Started) (H : Type) (enc : TypeId × Value → H) :
    ReturnsInHanded {} Try.checked os 6 .any (Rows.lossProbesSpec.pre6 enc Try.prog Try.f6 Rows.lossProbesRow.domain false) (Rows.lossProbesSpec.post enc Try.prog Try.f6 false true false false) := by
  refine returnsInHanded_of_change_sized (C := Try.checked) own_knob started (by kernel_rfl) Try.func6
    (ChangeSpec.witness6 (enc := enc) (C := Try.checked) false ⟨#[], #[.int .i64 0, .int .i64 0, .int .i64 0], []⟩ 8 (by kernel_rfl) (by kernel_rfl) (by kernel_rfl) (by kernel_rfl)) ?_
  intro W base args ds gs before hval0 hW hcnd hsz0 _
  have hval : ∀ (j : Nat) t v, Try.f6.params[j]? = some t → args[j]? = some v → Value.okWide Try.prog W .any base t v := hval0
  have hsz : (DataW.weightsEach Try.prog (Try.f6.params.toList ++ Rows.lossProbesSpec.plain.varTypes Try.prog) (ds ++ gs)).all (· ≤ reachBytes) = true := hsz0
  have hW' := hW
  obtain ⟨p, q, hA0, hV, rfl, hfz, hnd⟩ := hW
  have hA : DataW.TrodAll enc Try.prog W 0 (fun _ => true) true Try.f6.params.toList args.toList ds p := hA0
  rw [Try.params6] at hA hval hsz
  obtain ⟨v0, vs0, d0, ds0, p0, q0, hargs, rfl, rfl, h0, r0⟩ := trodAll_cons hA
  obtain ⟨v1, vs1, d1, ds1, p1, q1, rfl, rfl, rfl, h1, r1⟩ := trodAll_cons r0
  obtain ⟨v2, vs2, d2, ds2, p2, q2, rfl, rfl, rfl, h2, r2⟩ := trodAll_cons r1
  obtain ⟨rfl, rfl, rfl⟩ := trodAll_nil r2
  obtain rfl : args = #[v0, v1, v2] := by cases args; simp_all
  obtain ⟨rfl, rfl⟩ := trodVars_none hV
  obtain ⟨a0, rfl, rfl, rfl, w0⟩ := open_int Try.underlying3 (hval 0 3 v0 rfl rfl) h0
  obtain ⟨a1, rfl, rfl, rfl, w1⟩ := open_int Try.underlying3 (hval 1 3 v1 rfl rfl) h1
  obtain ⟨a2, rfl, rfl, rfl, w2⟩ := open_int Try.underlying3 (hval 2 3 v2 rfl rfl) h2
  clear hA0 hval0
  refine (walk a0 a1 a2 W).mono fun e W' ⟨he, bel⟩ => ?_
  subst he
  exact ⟨_, rfl, _, _, _, [], _, [], hW', trodAll_mk1 (shut_bool Try.underlying4 _), (trodAll_cons_mk (shut_int Try.underlying3 w0) (trodAll_cons_mk (shut_int Try.underlying3 w1) (trodAll_cons_mk (shut_int Try.underlying3 w2) trodAll_mk0))), rfl, bel.frame _, fun h => by cases h⟩

theorem over : Rows.lossProbesRow.holds Try.pinned (OpenSpec.ofChange Rows.lossProbesSpec) :=
  OpenClaim.holds_of_wide 6 Try.f6 rfl rfl rfl rfl rfl rfl rfl ⟨rfl, rfl, rfl, rfl, rfl⟩ rfl rfl rfl rfl rfl (by kernel_rfl) Try.func6 (by kernel_rfl)
    (of_decide_eq_true (by kernel_rfl)) (by unfold Func.isWrapper; first | (rw [if_pos (by decide +kernel)]; kernel_rfl) | (rw [if_neg (by decide +kernel)]; exact ⟨rfl, rfl⟩))
    (fun os started H enc _ => lifted os started H enc)

end Go.Proofs.Ytjhihcmemnhbbaa.lossProbes
namespace Go.Proofs.Ytjhihcmemnhbbaa

/-- The statement. -/
theorem lossProbes_holds : Rows.LossProbesSaid := lossProbes.over
#print axioms lossProbes_holds
end Go.Proofs.Ytjhihcmemnhbbaa
