/-
  What the document's own Digest does: a contract that the statements' walks use.
-/
import Derived.Test.YtnnjogfpapndaaaSlM
namespace Go.Proofs.Ytnnjogfpapndaaa
open Go.RowKit
set_option linter.unusedVariables false
set_option maxRecDepth 20000

theorem tail4_cut (n : Int) : tail4 (n % 4294967296) = tail4 n := by
  unfold tail4
  simp only [List.cons.injEq, and_true]
  refine ⟨?_, ?_, ?_, ?_⟩ <;> omega
theorem dg_eq (zs : List Int) : dg zs = by8 (mixs st0 (zs ++ tail4 zs.length)).a ++ by8 (mixs st0 (zs ++ tail4 zs.length)).b := by
  have e : (mix st0 zs).c = (zs.length : Int) % 4294967296 := by show (0 + (zs.length : Int)) % 4294967296 = _; rw [Int.zero_add]
  have m : mix (mix st0 zs) (tail4 zs.length) = { mixs st0 (zs ++ tail4 zs.length) with c := (mix (mix st0 zs) (tail4 zs.length)).c } := by
    unfold mix; rw [mixs_set, mixs_append]
  unfold dg sumL
  rw [e, tail4_cut, m]
/-- A word's bytes, divided off one by one. -/
def by8d (a : Int) : List Int := [a / 256 / 256 / 256 / 256 / 256 / 256 / 256, a / 256 / 256 / 256 / 256 / 256 / 256 % 256, a / 256 / 256 / 256 / 256 / 256 % 256, a / 256 / 256 / 256 / 256 % 256, a / 256 / 256 / 256 % 256, a / 256 / 256 % 256, a / 256 % 256, a % 256]
theorem by8d_eq (a : Int) (h0 : 0 ≤ a) (h1 : a < 18446744073709551616) : by8d a = by8 a := by
  unfold by8d by8
  simp only [List.cons.injEq, and_true]
  repeat' apply And.intro
  all_goals omega
theorem wrap64_nn (n : Int) : 0 ≤ IntKind.u64.wrap n ∧ IntKind.u64.wrap n < 18446744073709551616 := by rw [IntKind.wrap_u64]; omega
theorem mixs_nn (zs : List Int) : (0 ≤ (mixs st0 zs).a ∧ (mixs st0 zs).a < 18446744073709551616) ∧ (0 ≤ (mixs st0 zs).b ∧ (mixs st0 zs).b < 18446744073709551616) := by
  rcases List.eq_nil_or_concat zs with rfl | ⟨ys, y, rfl⟩
  · decide
  · rw [List.concat_eq_append, mixs_append]
    exact ⟨wrap64_nn _, wrap64_nn _⟩
theorem getD_append_l {l r : List Int} {i : Nat} (h : i < l.length) : (l ++ r).getD i 0 = l.getD i 0 := by
  rw [List.getD_eq_getElem?_getD, List.getD_eq_getElem?_getD, List.getElem?_append_left h]
theorem getD_append_r {l r : List Int} {i : Nat} (h : l.length ≤ i) : (l ++ r).getD i 0 = r.getD (i - l.length) 0 := by
  rw [List.getD_eq_getElem?_getD, List.getD_eq_getElem?_getD, List.getElem?_append_right h]
theorem rem_pos {n : Nat} (k : Int) (hk : 0 ≤ k) : (n : Int).tmod k = (n : Int) % k := Int.tmod_eq_emod_of_nonneg (by omega)

theorem mk16 (w : World) : (Instr.makeSlice 22 (.int .i64 16) (.int .i64 16)).run Try.prog w = .ok (.slice (some ⟨w.heap.size, 0, none⟩) 16 16) (w.alloc (.cells z16 5)) := by kernel_rfl
set_option maxHeartbeats 8000000 in
theorem rdigest_any (a : Option Addr) (n c : Nat) (zs : List Int) (w : World) (hl : zs.length = n) (hn : n ≤ 140737488355328) (hz : ∀ y ∈ zs, 0 ≤ y ∧ y < 256) (hseg : Seg w a zs) :
    Calls Try.prog 50 #[.slice a n c] w fun e w' => ∃ g, e = .returned (.slice (some ⟨g, 0, none⟩) 16 16) ∧ Q w w' ∧ Row w' ⟨some ⟨g, 0, none⟩, 16, 16⟩ (dg zs) ∧ w.heap.size ≤ g := by
  have HL := hid hl
  have HS := hid hseg
  have HZ := hid hz
  have HD := hid (dg_eq zs)
  clear hl hseg hz
  go_enter Try.func50, Try.ntmps50
  go_wp2_with fail
  generalize hw1 : World.alloc w _ = w1
  have q1 : Q w w1 := by rw [← hw1]; exact (Q.refl w).alloc _
  have ht1 : Seg w1 (some ⟨w.heap.size, 0, none⟩) (tail4 n) := by rw [← hw1]; exact seg_lit w (tail4 n)
  have HT := hid ht1
  have Q1 := hid q1
  clear hw1 ht1 q1
  generalize w.heap.size = tg at *
  go_loop [3, 4, 7] (fun sa sb si => ∃ k : Nat, k ≤ n + 4 ∧ si = .int .i64 k ∧ sa = .int .u64 (mixs st0 ((zs ++ tail4 n).take k)).a ∧ sb = .int .u64 (mixs st0 ((zs ++ tail4 n).take k)).b) (fun _ _ si => ((n : Int) + 4 - intOf si).toNat)
  case atStart => exact ⟨0, Nat.zero_le _, rfl, rfl, rfl⟩
  case round =>
    obtain ⟨k, hk, rfl, rfl, rfl⟩ := hrel
    by_cases hkn : k < n + 4
    · have hki : (k : Int) < (n : Int) + 4 := by omega
      by_cases hkm : k < n
      · have hkm' : (k : Int) < (n : Int) := by omega
        obtain ⟨p, o, rfl, hc⟩ := HS.out (by intro e; have := HL.out; simp [e] at this; omega)
        have hlk : k < zs.length := by rw [HL.out]; exact hkm
        have hck := hc k hlk
        rw [← Q1.out.cell (lt_of_cell hck)] at hck
        have hzk := HZ.out (zs.getD k 0) (by rw [List.getD_eq_getElem?_getD, List.getElem?_eq_getElem hlk]; exact List.getElem_mem hlk)
        obtain ⟨xx, hxx, KX⟩ : ∃ xx, zs.getD k 0 = xx ∧ Hid ((zs ++ tail4 n).getD k 0 = xx) := ⟨_, rfl, hid (getD_append_l hlk)⟩
        rw [hxx] at hck hzk
        have HXB := hid hzk
        clear hc hlk hzk hxx
        have HM := hid (mixs_snoc st0 (zs ++ tail4 n) k (by rw [List.length_append, HL.out]; show k < n + 4; omega))
        rw [show (zs ++ tail4 n).getD k 0 = xx from KX.out] at HM
        have hwx : IntKind.u64.wrap xx = xx := by have := HXB.out; rw [IntKind.wrap_u64]; omega
        have HXX := HXB
        clear HXB
        generalize mixs st0 ((zs ++ tail4 n).take k) = m1 at *
        go_wp2_with fail
        refine (rrot_23 _ _).mono ?_
        rintro e w' ⟨rfl, rfl⟩
        go_wp2_with fail
        refine (rrot_41 _ _).mono ?_
        rintro e w' ⟨rfl, rfl⟩
        go_wp2
        go_round
        case rel => exact ⟨k + 1, by omega, by go_num, by rw [HM.out]; rfl, by rw [HM.out]; rfl⟩
        case measure => simp [intOf]; omega
      · have hkm' : ¬ (k : Int) < (n : Int) := by omega
        obtain ⟨p, o, e, hc⟩ := HT.out (by intro e; cases e)
        cases e
        obtain ⟨j, hj, hj2, KJ⟩ : ∃ j : Nat, (k : Int) - (n : Int) = (j : Int) ∧ j < 4 ∧ Hid (j = k - n) := ⟨k - n, by omega, by omega, hid rfl⟩
        have hck := hc j hj2
        rw [Nat.zero_add] at hck
        have hzk := tail4_lt n ((tail4 n).getD j 0) (by rw [List.getD_eq_getElem?_getD, List.getElem?_eq_getElem (show j < (tail4 n).length from hj2)]; exact List.getElem_mem _)
        obtain ⟨xx, hxx, KX⟩ : ∃ xx, (tail4 n).getD j 0 = xx ∧ Hid ((zs ++ tail4 n).getD k 0 = xx) := ⟨_, rfl, hid (by rw [KJ.out, ← HL.out]; exact getD_append_r (by rw [HL.out]; omega))⟩
        rw [hxx] at hck hzk
        have HXB := hid hzk
        clear hc hzk hxx
        have hj0 : (j : Int) < 4 := by omega
        have HM := hid (mixs_snoc st0 (zs ++ tail4 n) k (by rw [List.length_append, HL.out]; show k < n + 4; omega))
        rw [show (zs ++ tail4 n).getD k 0 = xx from KX.out] at HM
        have hwx : IntKind.u64.wrap xx = xx := by have := HXB.out; rw [IntKind.wrap_u64]; omega
        have HXX := HXB
        clear HXB
        generalize mixs st0 ((zs ++ tail4 n).take k) = m1 at *
        go_wp2_with fail
        refine (rrot_23 _ _).mono ?_
        rintro e w' ⟨rfl, rfl⟩
        go_wp2_with fail
        refine (rrot_41 _ _).mono ?_
        rintro e w' ⟨rfl, rfl⟩
        go_wp2
        go_round
        case rel => exact ⟨k + 1, by omega, by go_num, by rw [HM.out]; rfl, by rw [HM.out]; rfl⟩
        case measure => simp [intOf]; omega
    · obtain rfl : k = n + 4 := by omega
      have hki : ¬ ((n + 4 : Nat) : Int) < (n : Int) + 4 := by omega
      rw [List.take_of_length_le (by rw [List.length_append, HL.out]; exact Nat.le_refl _)]
      have HNN := mixs_nn (zs ++ tail4 n)
      rw [HL.out] at HD
      generalize mixs st0 (zs ++ tail4 n) = M at *
      obtain ⟨⟨a0, a1⟩, b0, b1⟩ := HNN
      have mk := mk16 w1
      go_wp2_with fail
      clear mk
      refine wp_loop_rounds 9 ?_
      iterate 8
        rw [rounds_succ]
        go_wp2
      rw [rounds_succ]
      go_wp2
      go_ret
      have hrow : Row (w1.alloc (.cells (u8s (by8d M.a ++ by8d M.b)).toArray 5)) ⟨some ⟨w1.heap.size, 0, none⟩, 16, 16⟩ (by8d M.a ++ by8d M.b) :=
        (own_of_block (base := w1.heap.size) rfl (by decide) (heap_alloc_new w1 _) : Own _ w1.heap.size (some ⟨w1.heap.size, 0, none⟩) 16 16 (by8d M.a ++ by8d M.b)).row (by intro e; cases e)
      refine ⟨w1.heap.size, rfl, Q1.out.trans ((Q.refl w1).alloc _), ?_, Q1.out.size⟩
      rw [HD.out, ← by8d_eq M.a a0 a1, ← by8d_eq M.b b0 b1]
      exact hrow
end Go.Proofs.Ytnnjogfpapndaaa
