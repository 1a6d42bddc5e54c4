/-
  What Fire answers and does where nothing is lost: contracts that the statements' walks use.
-/
import Derived.Test.YtjhihcmemnhbbaaAwk
namespace Go.Proofs.Ytjhihcmemnhbbaa
open Go.RowKit
set_option linter.unusedVariables false
set_option maxRecDepth 20000

section
variable {N : Nat} {w : World} {rb : Nat} {r : Nat → Sv} {S : Lo}
theorem setNow {w : World} (h : La w rb r S) (now : Int) : Wr w (w.setCell ⟨rb, 1, none⟩ (.int .i64 now)) rb r r { S with now := now } := h.setHd 1 (.int .i64 now) (h.hd.now_ now) (fun i hi => ⟨rfl, rfl⟩)
theorem setPrb {w : World} (h : La w rb r S) (q : Int) : Wr w (w.setCell ⟨rb, 20, none⟩ (.int .i64 q)) rb r r { S with prb := q } := h.setHd 20 (.int .i64 q) (h.hd.prb_ q) (fun i hi => ⟨rfl, rfl⟩)
theorem fire_bad (h : La w rb r S) (now : Int) (hc : ckE S now ≠ 0) : Calls Try.prog 18 #[.pointer (some ⟨rb, 0, none⟩), .int .i64 now] w fun e w' => e = .returned (.tuple #[.int .i64 0, .slice none 0 0, .bool false, .int .i64 (ckE S now)]) ∧ w = w' := by
  have A := hid (checkTime_any h now)
  have hb : (ckE S now != 0) = true := by simpa using hc
  have hb2 : (ckE S now == 0) = false := by simpa using hc
  clear h hc
  go_enter Try.func18, Try.ntmps18
  go_wp2_with fail
  refine A.out.mono ?_
  rintro e w1 ⟨rfl, rfl⟩
  go_wp2
  (try simp only [Exit.inBlock, Exit.then]); refine bodyPost_ret (results_tmp4 rfl _ _ _) rfl ?_
  exact ⟨rfl, rfl⟩
theorem fire_none (h : La w rb r S) (hO : Ok N S) (now : Int) (hc : ckE S now = 0) (hn : nxP S = -1 ∨ now < nxA S) : Calls Try.prog 18 #[.pointer (some ⟨rb, 0, none⟩), .int .i64 now] w fun e w' => e = .returned (.tuple #[.int .i64 (-1), .slice none 0 0, .bool false, .int .i64 0]) ∧ Wr w w' rb r r { S with now := now } := by
  have A := hid (checkTime_any h now)
  rw [hc] at A
  have c1 := h.hd.c1
  have f1 := h.hd.free 1
  have W1 := hid (setNow h now)
  have hO1 : Ok N { S with now := now } := by
    unfold ckE at hc
    by_cases e : S.now ≤ now ∧ now ≤ 1099511627776
    · exact ok_now hO e.1 e.2
    · rw [if_neg e] at hc; omega
  have B := hid (next_any W1.out.la hO1)
  rw [show nxP { S with now := now } = nxP S from rfl, show nxA { S with now := now } = nxA S from rfl, show nxB { S with now := now } = nxB S from rfl] at B
  clear h hO hc hO1
  by_cases h1 : nxP S = -1
  · rw [h1] at B
    clear hn h1
    generalize nxA S = at_ at *
    generalize nxB S = pb at *
    go_enter Try.func18, Try.ntmps18
    go_wp2_with fail
    refine A.out.mono ?_
    rintro e w1 ⟨rfl, rfl⟩
    go_wp2_with fail
    refine B.out.mono ?_
    rintro e w2 ⟨rfl, q2⟩
    have Q2 := hid q2; clear q2
    go_wp2
    (try simp only [Exit.inBlock, Exit.then]); refine bodyPost_ret (results_tmp4 rfl _ _ _) rfl ?_
    exact ⟨rfl, W1.out.qr Q2.out⟩
  · have b1 : (nxP S == -1) = false := by simpa using h1
    have b2 : decide (now < nxA S) = true := by simp; omega
    clear hn h1
    generalize nxA S = at_ at *
    generalize nxB S = pb at *
    generalize nxP S = pp at *
    go_enter Try.func18, Try.ntmps18
    go_wp2_with fail
    refine A.out.mono ?_
    rintro e w1 ⟨rfl, rfl⟩
    go_wp2_with fail
    refine B.out.mono ?_
    rintro e w2 ⟨rfl, q2⟩
    have Q2 := hid q2; clear q2
    go_wp2
    (try simp only [Exit.inBlock, Exit.then]); refine bodyPost_ret (results_tmp4 rfl _ _ _) rfl ?_
    exact ⟨rfl, W1.out.qr Q2.out⟩
theorem fire_probe (h : La w rb r S) (hO : Ok N S) (now : Int) (hc : ckE S now = 0) (h1 : nxP S ≠ -1) (h2 : ¬ now < nxA S) (h3 : nxB S = true) : Calls Try.prog 18 #[.pointer (some ⟨rb, 0, none⟩), .int .i64 now] w fun e w' => e = .returned (.tuple #[.int .i64 (nxP S), .slice none 0 0, .bool true, .int .i64 0]) ∧ Wr w w' rb r r { S with now := now, prb := min (S.prb + 1) 20 } := by
  have A := hid (checkTime_any h now)
  rw [hc] at A
  have c1 := h.hd.c1
  have f1 := h.hd.free 1
  have W1 := hid (setNow h now)
  have hO1 : Ok N { S with now := now } := by
    unfold ckE at hc
    by_cases e : S.now ≤ now ∧ now ≤ 1099511627776
    · exact ok_now hO e.1 e.2
    · rw [if_neg e] at hc; omega
  have B := hid (next_any W1.out.la hO1)
  rw [show nxP { S with now := now } = nxP S from rfl, show nxA { S with now := now } = nxA S from rfl, show nxB { S with now := now } = nxB S from rfl, h3] at B
  have b1 : (nxP S == -1) = false := by simpa using h1
  have b2 : decide (now < nxA S) = false := by simp; omega
  have o1 := hO.prb0
  have o2 := hO.prb1
  have hw : IntKind.i64.wrap (S.prb + 1) = S.prb + 1 := by rw [IntKind.wrap_i64]; omega
  clear h hO hc hO1 h1 h2 h3
  go_enter Try.func18, Try.ntmps18
  go_wp2_with fail
  refine A.out.mono ?_
  rintro e w1 ⟨rfl, rfl⟩
  go_wp2_with fail
  refine B.out.mono ?_
  rintro e w2 ⟨rfl, q2⟩
  have W2 := hid (W1.out.qr q2)
  have c20 := W2.out.la.hd.prb
  have f20 := W2.out.la.hd.free 20
  have W3 := hid (W2.out.trans (setPrb W2.out.la (min (S.prb + 1) 20)))
  clear q2
  go_wp2
  (try simp only [Exit.inBlock, Exit.then]); refine bodyPost_ret (results_tmp4 rfl _ _ _) rfl ?_
  exact ⟨rfl, W3.out⟩
end
end Go.Proofs.Ytjhihcmemnhbbaa
