/-
  What New, Window, Rtt, checkSpace, checkTime, check answer: contracts that the statements' walks use.
-/
import Derived.Test.YtjhihcmemnhbbaaLs
namespace Go.Proofs.Ytjhihcmemnhbbaa
open Go.RowKit
set_option linter.unusedVariables false
set_option maxRecDepth 20000

theorem new_bad (most : Int) (w : World) (h : ¬ (0 ≤ most ∧ most ≤ 16383)) :
    Calls Try.prog 7 #[.int .i64 most] w fun e w' => e = .returned (.tuple #[.pointer none, .int .i64 30]) ∧ w = w' := by
  by_cases h1 : most < 0
  · have hb : decide (most < 0) = true := by simp [h1]
    go_enter Try.func7, Try.ntmps7
    go_wp2
    go_ret2
    exact ⟨rfl, rfl⟩
  · have hb : decide (most < 0) = false := by simp [h1]
    have hb2 : decide (16383 < most) = true := by simp; omega
    go_enter Try.func7, Try.ntmps7
    go_wp2
    go_ret2
    exact ⟨rfl, rfl⟩

def nilR : Nat → Sv := fun _ => nilS
theorem la_new {w : World} {rb : Nat} {most : Int} (h : Hd w rb (newLo most) nilR) : La w rb nilR (newLo most) :=
  ⟨h, ⟨fun k _ => sub_nil w 73 4, fun k _ => sub_nil w 57 2, fun i j _ _ _ b e => by simp [nilR, nilS, blk] at e, fun i _ e => by simp [nilR, nilS, blk] at e⟩⟩

theorem new_ok (most : Int) (w : World) (h : 0 ≤ most ∧ most ≤ 16383) :
    Calls Try.prog 7 #[.int .i64 most] w fun e w' => e = .returned (.tuple #[.pointer (some ⟨w.heap.size, 0, none⟩), .int .i64 0]) ∧ La w' w.heap.size nilR (newLo most) ∧ Q w w' := by
  have hb : decide (most < 0) = false := by simp; omega
  have hb2 : decide (16383 < most) = false := by simp; omega
  go_enter Try.func7, Try.ntmps7
  go_wp2
  refine wp_loop_rounds 4 ?_
  iterate 4 (rw [rounds_succ]; go_wp2)
  go_ret2
  exact ⟨rfl, la_new (heap_alloc_new w _), (Q.refl w).alloc _⟩

theorem results_tmp4 {fn : Func} {t u v x : Tmp} (h : fn.results = #[.tmp t, .tmp u, .tmp v, .tmp x]) (tmps : Array Value) (P : Program) (w : World) :
    (results fn tmps).run P w = .ok (.tuple #[tmps.getD t undef, tmps.getD u undef, tmps.getD v undef, tmps.getD x undef]) w := by
  simp [results, h]

section
variable {w : World} {rb : Nat} {r : Nat → Sv} {S : Lo}
theorem window_any (h : La w rb r S) : Calls Try.prog 12 #[.pointer (some ⟨rb, 0, none⟩)] w fun e w' => e = .returned (.int .i64 S.win) ∧ w = w' := by
  have c := h.hd.win
  clear h
  go_enter Try.func12, Try.ntmps12
  go_wp2
  go_ret
  exact ⟨rfl, rfl⟩
theorem rtt_any (h : La w rb r S) : Calls Try.prog 9 #[.pointer (some ⟨rb, 0, none⟩)] w fun e w' => e = .returned (.tuple #[.int .i64 S.lat, .int .i64 S.lea, .int .i64 S.smo, .int .i64 S.var]) ∧ ∃ k, w' = w.drewN k := by
  have c1 := h.hd.lat
  have c2 := h.hd.lea
  have c3 := h.hd.smo
  have c4 := h.hd.var
  clear h
  go_enter Try.func9, Try.ntmps9
  go_wp2
  go_quiet (fail)
  go_wp2
  (try simp only [Exit.inBlock, Exit.then]); refine bodyPost_ret (results_tmp4 rfl _ _ _) rfl ?_
  exact ⟨rfl, _, rfl⟩
def spE (k : Int) : Int := if 0 ≤ k ∧ k < 3 then 0 else 110
theorem checkSpace_any (k : Int) : Calls Try.prog 36 #[.int .i64 k] w fun e w' => e = .returned (.int .i64 (spE k)) ∧ w = w' := by
  by_cases h1 : k < 0
  · have hb : decide (k < 0) = true := by simp [h1]
    have HE := hid (show spE k = 110 by unfold spE; rw [if_neg (by omega)])
    go_enter Try.func36, Try.ntmps36
    go_wp2
    go_ret
    exact ⟨ret_int HE.out.symm, rfl⟩
  · have hb : decide (k < 0) = false := by simp [h1]
    by_cases h2 : 3 ≤ k
    · have hb2 : decide (3 ≤ k) = true := by simp [h2]
      have HE := hid (show spE k = 110 by unfold spE; rw [if_neg (by omega)])
      go_enter Try.func36, Try.ntmps36
      go_wp2
      go_ret
      exact ⟨ret_int HE.out.symm, rfl⟩
    · have hb2 : decide (3 ≤ k) = false := by simp [h2]
      have HE := hid (show spE k = 0 by unfold spE; rw [if_pos (by omega)])
      go_enter Try.func36, Try.ntmps36
      go_wp2
      go_ret
      exact ⟨ret_int HE.out.symm, rfl⟩
def ckE (S : Lo) (now : Int) : Int := if S.now ≤ now ∧ now ≤ 1099511627776 then 0 else 112
theorem checkTime_any (h : La w rb r S) (now : Int) : Calls Try.prog 35 #[.pointer (some ⟨rb, 0, none⟩), .int .i64 now] w fun e w' => e = .returned (.int .i64 (ckE S now)) ∧ w = w' := by
  have c := h.hd.c1
  clear h
  by_cases h1 : now < S.now
  · have hb : decide (now < S.now) = true := by simp [h1]
    have HE := hid (show ckE S now = 112 by unfold ckE; rw [if_neg (by omega)])
    go_enter Try.func35, Try.ntmps35
    go_wp2
    go_ret
    exact ⟨ret_int HE.out.symm, rfl⟩
  · have hb : decide (now < S.now) = false := by simp [h1]
    by_cases h2 : 1099511627776 < now
    · have hb2 : decide (1099511627776 < now) = true := by simp [h2]
      have HE := hid (show ckE S now = 112 by unfold ckE; rw [if_neg (by omega)])
      go_enter Try.func35, Try.ntmps35
      go_wp2
      go_ret
      exact ⟨ret_int HE.out.symm, rfl⟩
    · have hb2 : decide (1099511627776 < now) = false := by simp [h2]
      have HE := hid (show ckE S now = 0 by unfold ckE; rw [if_pos (by omega)])
      go_enter Try.func35, Try.ntmps35
      go_wp2
      go_ret
      exact ⟨ret_int HE.out.symm, rfl⟩
def chE (S : Lo) (k now : Int) : Int := if spE k = 0 then ckE S now else spE k
theorem check_any (h : La w rb r S) (k now : Int) : Calls Try.prog 22 #[.pointer (some ⟨rb, 0, none⟩), .int .i64 k, .int .i64 now] w fun e w' => e = .returned (.int .i64 (chE S k now)) ∧ w = w' := by
  have A := hid (checkSpace_any (w := w) k)
  have B := hid (checkTime_any h now)
  clear h
  by_cases h1 : spE k = 0
  · have HE := hid (show chE S k now = ckE S now by unfold chE; rw [if_pos h1])
    rw [h1] at A
    go_enter Try.func22, Try.ntmps22
    go_wp2_with fail
    refine A.out.mono ?_
    rintro e w1 ⟨rfl, rfl⟩
    go_wp2_with fail
    refine B.out.mono ?_
    rintro e w1 ⟨rfl, rfl⟩
    go_wp2
    go_ret
    exact ⟨ret_int HE.out.symm, rfl⟩
  · have HE := hid (show chE S k now = spE k by unfold chE; rw [if_neg h1])
    have hb : (spE k != 0) = true := by simpa using h1
    have hb2 : (spE k == 0) = false := by simpa using h1
    have H1 := hid h1
    clear h1
    go_enter Try.func22, Try.ntmps22
    go_wp2_with fail
    refine A.out.mono ?_
    rintro e w1 ⟨rfl, rfl⟩
    generalize spE k = q at *
    go_wp2
    go_ret
    exact ⟨ret_int HE.out.symm, rfl⟩
end
end Go.Proofs.Ytjhihcmemnhbbaa
