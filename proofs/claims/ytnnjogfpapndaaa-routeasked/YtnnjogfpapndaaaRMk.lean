/-
  What the document's number, value, mask, Make and Read of layer 13 do: contracts that the statements' walks use.
-/
import Derived.Test.YtnnjogfpapndaaaMke
namespace Go.Proofs.Ytnnjogfpapndaaa
open Go.RowKit
set_option linter.unusedVariables false
set_option maxRecDepth 20000

theorem mk1 (u : World) : (Instr.makeSlice 22 (.int .i64 1) (.int .i64 1)).run Try.prog u = .ok (.slice (some ⟨u.heap.size, 0, none⟩) 1 1) (u.alloc (.cells (u8s (List.replicate 1 0)).toArray 5)) := by kernel_rfl
theorem mk7 (u : World) : (Instr.makeSlice 22 (.int .i64 7) (.int .i64 7)).run Try.prog u = .ok (.slice (some ⟨u.heap.size, 0, none⟩) 7 7) (u.alloc (.cells (u8s (List.replicate 7 0)).toArray 5)) := by kernel_rfl
theorem row_made (w : World) (s : Nat) (hs : s ≤ 100) : Row (w.alloc (.cells (u8s (List.replicate s 0)).toArray 5)) ⟨some ⟨w.heap.size, 0, none⟩, s, s⟩ (List.replicate s 0) :=
  ⟨by simp, .inr ⟨w.heap.size, 0, _, rfl, heap_alloc_new w _, Nat.le_refl _, by show s ≤ _; unfold maxLen; omega, by simp, fun j hj => by rw [Nat.zero_add, List.getElem?_toArray]⟩⟩
/-- Bytes of a number as far as written, from the end. -/
def lyT (s : Nat) (n : Int) (k : Nat) : List Int := List.replicate (s - k) 0 ++ (be s n).drop (s - k)
theorem lyT_len (s : Nat) (n : Int) (k : Nat) (h : k ≤ s) : (lyT s n k).length = s := by
  unfold lyT; rw [List.length_append, List.length_replicate, List.length_drop, be_length]; omega
theorem lyT_set (s : Nat) (n : Int) (k : Nat) (h : k < s) : (lyT s n k).set (s - 1 - k) (n / 256 ^ k % 256) = lyT s n (k + 1) := by
  unfold lyT
  have e1 : s - k = (s - (k + 1)) + 1 := by omega
  have hb := be_get n s (s - (k + 1)) (by omega)
  rw [show s - 1 - (s - (k + 1)) = k by omega] at hb
  rw [e1, List.replicate_succ', List.append_assoc, show s - 1 - k = s - (k + 1) by omega, List.set_append, List.length_replicate, if_neg (by omega), Nat.sub_self, List.singleton_append, List.set_cons_zero]
  congr 1
  rw [List.drop_eq_getElem?_toList_append (i := s - (k + 1)), hb]
  rfl
set_option maxHeartbeats 4000000 in
theorem rnumber_any (s : Nat) (hs : s = 1 ∨ s = 4 ∨ s = 7 ∨ s = 8) (N : Int) (h0 : 0 ≤ N) (h1 : N < 9223372036854775808) (w : World) :
    Calls Try.prog 30 #[.int .i64 N, .int .i64 s] w fun e w' => ∃ x : Sv, e = .returned (.slice x.a x.n x.c) ∧ Q w w' ∧ Row w' x (be s N) ∧ New w.heap.size x := by
  have mk : ∀ u : World, (Instr.makeSlice 22 (.int .i64 s) (.int .i64 s)).run Try.prog u = .ok (.slice (some ⟨u.heap.size, 0, none⟩) s s) (u.alloc (.cells (u8s (List.replicate s 0)).toArray 5)) := by
    rcases hs with rfl | rfl | rfl | rfl
    · exact mk1
    · exact mk4
    · exact mk7
    · exact mk8
  have hs1 : s ≤ 8 := by omega
  have hs0 : 0 < s := by omega
  clear hs
  have HR0 := hid (row_made w s (by omega))
  go_enter Try.func30, Try.ntmps30
  go_wp2
  generalize hw1 : World.alloc w _ = w1
  have HQ1 := hid (show Q w w1 from by rw [← hw1]; exact (Q.refl w).alloc _)
  have HR1 := hid (show Row w1 ⟨some ⟨w.heap.size, 0, none⟩, s, s⟩ (lyT s N 0) from by
    have e : lyT s N 0 = List.replicate s 0 := by unfold lyT; rw [Nat.sub_zero, List.drop_of_length_le (by rw [be_length]; exact Nat.le_refl _), List.append_nil]
    have e2 : w1 = w.alloc (.cells (u8s (List.replicate s 0)).toArray 5) := by rw [← hw1]; simp [u8s]
    rw [e, e2]; exact HR0.out)
  clear hw1 HR0
  go_loopw [0, 6] (fun v i wr => Q w wr ∧ ∃ k : Nat, k ≤ s ∧ v = .int .i64 (N / 256 ^ k) ∧ i = .int .i64 ((s : Int) - 1 - k) ∧ Row wr ⟨some ⟨w.heap.size, 0, none⟩, s, s⟩ (lyT s N k)) (fun _ i _ => (intOf i + 1).toNat)
  case atStart => exact ⟨HQ1.out, 0, Nat.zero_le _, by simp, by simp, HR1.out⟩
  case round =>
    obtain ⟨hq, k, hk, rfl, rfl, hr⟩ := hrel
    have HQ := hid hq
    have HR := hid hr
    clear hq hr
    by_cases hks : k < s
    · have hb : 0 ≤ N / 256 ^ k ∧ N / 256 ^ k < 9223372036854775808 := ⟨Int.ediv_nonneg h0 (Int.pow_nonneg (by decide)), Int.lt_of_le_of_lt (Int.ediv_le_self _ h0) h1⟩
      have HE := hid (show N / 256 ^ (k + 1) = N / 256 ^ k / 256 from by rw [Int.pow_succ, ← Int.ediv_ediv_of_nonneg (Int.pow_nonneg (by decide))])
      obtain ⟨p, hp1, hp2⟩ : ∃ p : Nat, (s : Int) - 1 - k = p ∧ p = s - 1 - k := ⟨s - 1 - k, by omega, rfl⟩
      have HL := hid (lyT_set s N k hks)
      rw [← hp2] at HL
      have hlen := lyT_len s N k (by omega)
      have hps : p < s := by omega
      obtain ⟨yv, hy⟩ : ∃ yv, (lyT s N k)[p]? = some yv := ⟨_, List.getElem?_eq_getElem (by rw [hlen]; exact hps)⟩
      have hc := row_cellc HR.out (g := w.heap.size) (off := 0) (j := p) rfl hy
      rw [Nat.zero_add] at hc
      have hc1 := hc.1
      have hc2 := hc.2
      have HS := hid (show Row (wr.setCell ⟨w.heap.size, p, none⟩ (.int .u8 (N / 256 ^ k % 256))) ⟨some ⟨w.heap.size, 0, none⟩, s, s⟩ (lyT s N (k + 1)) from by
        have h := row_setc HR.out (g := w.heap.size) (off := 0) (j := p) rfl hps (N / 256 ^ k % 256)
        rw [Nat.zero_add, HL.out] at h
        exact h)
      have HK := hid (show Q w (wr.setCell ⟨w.heap.size, p, none⟩ (.int .u8 (N / 256 ^ k % 256))) from
        ((Keep.refl (fun i => i = w.heap.size) wr).setCell w.heap.size _ _ (.inl rfl)).below HQ.out HQ.out.size (fun i e => by omega))
      have HP := hid hp2
      have HP1 := hid hp1
      rw [hp1]
      clear hp2 hp1 hlen hy hc
      generalize hM : N / 256 ^ k = M at *
      have HM := hid hM
      have hb0 := hb.1
      have hb1 := hb.2
      clear hM hb
      have hp0 : (0 : Int) ≤ (p : Int) := by omega
      have hpi : (p : Int) < (s : Int) := by omega
      go_wp2
      go_roundw
      case rel => exact ⟨HK.out, k + 1, by omega, by rw [HE.out], by rw [← HP1.out]; go_num, HS.out⟩
      case measure => have := HP1.out; simp [intOf]
    · obtain rfl : k = s := by omega
      have hi0 : ¬ (0 : Int) ≤ (k : Int) - 1 - k := by omega
      have hi1 : ¬ (k : Int) ≤ (k : Int) - 1 := by omega
      go_wp2
      go_ret
      refine ⟨⟨some ⟨w.heap.size, 0, none⟩, k, k⟩, rfl, HQ.out, ?_, fun b e => by cases e; exact Nat.le_refl _⟩
      have := HR.out
      unfold lyT at this
      rw [Nat.sub_self, List.replicate_zero, List.nil_append, List.drop_zero] at this
      exact this
end Go.Proofs.Ytnnjogfpapndaaa
