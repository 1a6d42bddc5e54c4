/-
  Atoi at a few digits, lengthOf: contracts that the statements' walks use.
-/
import Derived.Test.YthefijjdffafkaaDoorRnM
import Derived.Laws.IdiomStrings
namespace Go.Proofs.YthefijjdffafkaaDoor
open Go.RowKit
set_option linter.unusedVariables false
set_option maxRecDepth 20000

theorem conv_any (s : ByteArray) (w : World) : ∃ (c : Nat) (w' : World), (convert 9 84 (.string s)).run Tryd.prog w = .ok (.slice (some ⟨w.heap.size, 0, none⟩) s.size c) w' ∧ Q w w' ∧ ∀ i (hi : i < s.size), w'.cell? ⟨w.heap.size, i, none⟩ = some (.int .u8 (s[i]'hi).toNat) := by
  have h := run_bytes_of_string (P := Tryd.prog) w 9 84 5 s Tryd.underlying9 Tryd.underlying84 Tryd.underlying5
  refine ⟨_, _, h, ((Q.refl w).drew).alloc _, fun i hi => ?_⟩
  have hi' : i < s.data.size := hi
  have hc := World.cell?_alloc_mark w.drew (bytesRow s (grownCap w s.size 0 5)) 5 ((bytesRow s (grownCap w s.size 0 5)).size, (bytesRow s (grownCap w s.size 0 5)).size + 1) i
  rw [show w.drew.heap.size = w.heap.size from rfl] at hc
  rw [hc, bytesRow_at s _ i hi']
  rfl
theorem numL_snoc (l : List UInt8) (b : UInt8) : numL (l ++ [b]) = numL l * 10 + (b.toNat - 48) := by simp [numL, List.foldl_append]
theorem numL_lt (l : List UInt8) (h : ∀ b ∈ l, b.toNat ≤ 57) : numL l < 10 ^ l.length := by
  have : ∀ (m : List UInt8) (n k : Nat), (∀ b ∈ m, b.toNat ≤ 57) → n < 10 ^ k → m.foldl (fun n b => n * 10 + (b.toNat - 48)) n < 10 ^ (k + m.length) := by
    intro m
    induction m with
    | nil => intro n k _ hn; simpa using hn
    | cons b r ih =>
      intro n k hm hn
      rw [List.foldl_cons, List.length_cons, show k + (r.length + 1) = (k + 1) + r.length by omega]
      refine ih _ _ (fun c hc => hm c (by simp [hc])) ?_
      have := hm b (by simp)
      rw [Nat.pow_succ]
      omega
  simpa [numL] using this l 0 0 h (by simp)
set_option maxHeartbeats 8000000 in
theorem atoiI_any (s : ByteArray) (w : World) (h1 : 1 ≤ s.size) (h15 : s.size ≤ 15) (hd : allB dgB s = true) : Calls Tryd.prog 57 #[.string s] w fun e w' => e = .returned (.tuple #[.int .i64 (numL s.data.toList), .nilIface]) ∧ Q w w' := by
  have hall := (allB_iff dgB s).1 hd
  have hdg : ∀ j (hj : j < s.size), 48 ≤ (s[j]'hj).toNat ∧ (s[j]'hj).toNat ≤ 57 := fun j hj => by simpa [dgB] using hall j hj
  have hbm : ∀ b ∈ s.data.toList, b.toNat ≤ 57 := by
    intro b hb
    obtain ⟨j, hj, rfl⟩ := List.mem_iff_getElem.1 hb
    exact (hdg j (by simpa using hj)).2
  have hnl : ∀ k, k ≤ s.size → numL (s.data.toList.take k) < 10 ^ k := by
    intro k hk
    have h := numL_lt (s.data.toList.take k) (fun b hb => hbm b (List.mem_of_mem_take hb))
    have hl : (s.data.toList.take k).length = k := by
      have : s.data.toList.length = s.size := rfl
      rw [List.length_take]; omega
    rwa [hl] at h
  have hn14 : ∀ k, k < s.size → numL (s.data.toList.take k) < 100000000000000 := by
    intro k hk
    have h := hnl k (by omega)
    have : 10 ^ k ≤ 10 ^ 14 := Nat.pow_le_pow_right (by omega) (by omega)
    omega
  have hsn : ∀ k (hk : k < s.size), numL (s.data.toList.take (k + 1)) = numL (s.data.toList.take k) * 10 + ((s[k]'hk).toNat - 48) := by
    intro k hk
    have hk' : k < s.data.toList.length := hk
    rw [List.take_succ_eq_append_getElem hk', numL_snoc]; rfl
  obtain ⟨cc, w1, hcv, q1, hcell⟩ := conv_any s w
  have i0 := fun W => str_ix s 0 h1 W
  have hz : ((0 : Nat) : Int) = 0 := rfl
  rw [hz] at i0
  have d0 := hdg 0 h1
  have e45 : (((s[0]'h1).toNat : Int) == 45) = false := by simp; omega
  have e43 : (((s[0]'h1).toNat : Int) == 43) = false := by simp; omega
  have hsz1 : (0 : Int) < (s.size : Int) := by omega
  have hsz19 : (s.size : Int) < 19 := by omega
  have hsz15 : (s.size : Int) ≤ 15 := by omega
  have HQ := hid q1
  have HC := hid hcell
  have HD := hid hdg
  have HN := hid hn14
  have HS := hid hsn
  have H15 := hid h15
  have HL := hid (show s.data.toList.take s.size = s.data.toList from List.take_of_length_le (Nat.le_refl _))
  clear hall hd hdg hbm hnl hn14 hsn q1 hcell h15 d0
  generalize (s[0]'h1).toNat = y0 at *
  go_enter Tryd.func57, Tryd.ntmps57
  go_wp2
  go_loop [6, 8, 49] (fun n c i => ∃ k : Nat, k ≤ s.size ∧ i = .int .i64 (k : Int) ∧ n = .int .i64 (numL (s.data.toList.take k) : Nat)) (fun _ _ i => s.size - (intOf i).toNat)
  case atStart => exact ⟨0, by omega, rfl, rfl⟩
  case round =>
    obtain ⟨k, hk, rfl, rfl⟩ := hrel
    by_cases hlt : k < s.size
    · have hn := HN.out k hlt
      have hs := HS.out k hlt
      have hd := HD.out k hlt
      have hc := HC.out k hlt
      have h15 := H15.out
      generalize (s[k]'hlt).toNat = c at *
      generalize numL (s.data.toList.take k) = n at *
      obtain ⟨d, rfl⟩ : ∃ d, c = d + 48 := ⟨c - 48, by omega⟩
      have hs' : numL (s.data.toList.take (k + 1)) = n * 10 + d := by omega
      have HS2 := hid hs'
      have hd9 : d ≤ 9 := by omega
      have hcI : ((d + 48 : Nat) : Int) = (d : Int) + 48 := by omega
      rw [hcI] at hc
      have hw : IntKind.u8.wrap ((d : Int) + 48 - 48) = d := by rw [IntKind.wrap_u8]; omega
      have hd9I : (d : Int) ≤ 9 := by omega
      have hd9n : ¬ (9 : Int) < (d : Int) := by omega
      have hd0 : (0 : Int) ≤ (d : Int) := by omega
      have hn0 : (0 : Int) ≤ (n : Int) := by omega
      have hnI : (n : Int) < 100000000000000 := by omega
      have hki : (k : Int) < (s.size : Int) := by omega
      have hk0 : (0 : Int) ≤ (k : Int) := by omega
      have hk15 : (k : Int) < 15 := by omega
      clear hs hs' hd hn hcI h15
      go_wp2
      go_round
      case rel => exact ⟨k + 1, by omega, by go_num, by rw [HS2.out]; go_num⟩
      case measure => simp [intOf]; omega
    · obtain rfl : k = s.size := by omega
      have hki : ¬ (s.size : Int) < (s.size : Int) := by omega
      go_wp2
      go_ret2
      exact ⟨by rw [HL.out]; rfl, HQ.out⟩
theorem atoi_any (s : ByteArray) (w : World) (h1 : 1 ≤ s.size) (h15 : s.size ≤ 15) (hd : allB dgB s = true) : Calls Tryd.prog 47 #[.string s] w fun e w' => e = .returned (.tuple #[.int .i64 (numL s.data.toList), .nilIface]) ∧ Q w w' := by
  have H := hid (atoiI_any s w h1 h15 hd)
  clear h1 h15 hd
  go_enter Tryd.func47, Tryd.ntmps47
  go_wp2_with (go_at_call 57; refine H.out.mono ?_; rintro e w1 ⟨rfl, q1⟩)
  go_ret2
  exact ⟨rfl, q1⟩
theorem neS_size (s : ByteArray) : neS s = decide (1 ≤ s.size) := by
  unfold neS
  rw [Bool.eq_iff_iff]
  have : s.data.toList.length = s.size := rfl
  cases hl : s.data.toList with
  | nil =>
    rw [hl] at this
    have h0 : 0 = s.size := this
    rw [← h0]; decide
  | cons b r =>
    rw [hl] at this
    have h0 : r.length + 1 = s.size := this
    rw [← h0]; simp
theorem len_ok (s : ByteArray) (w : World) (h : 0 ≤ lenO s) : Calls Tryd.prog 38 #[.string s] w fun e w' => e = .returned (.int .i64 (lenO s)) ∧ Q w w' := by
  have hc : (neS s && decide (s.size ≤ 15) && allB dgB s) = true := by
    cases hc : (neS s && decide (s.size ≤ 15) && allB dgB s) with
    | true => rfl
    | false => unfold lenO at h; rw [hc, if_neg (by decide)] at h; omega
  have hv : lenO s = (numL s.data.toList : Int) := by unfold lenO; rw [if_pos hc]
  rw [hv]
  simp only [Bool.and_eq_true, decide_eq_true_eq] at hc
  obtain ⟨⟨h1, h15⟩, hd⟩ := hc
  have h1' := h1
  rw [neS_size, decide_eq_true_eq] at h1'
  have HA := hid (fun W => atoi_any s W h1' h15 hd)
  have HD := hid (fun W => digits_any s W)
  have hdd : dgS s = true := by unfold dgS; rw [h1, hd]; rfl
  rw [hdd] at HD
  have HR := hid (fun x W => refuse_no x W)
  have hs : ¬ (15 : Int) < (s.size : Int) := by omega
  generalize (numL s.data.toList : Int) = v at *
  clear h hv h1 h15 hd h1' hdd
  go_enter Tryd.func38, Tryd.ntmps38
  go_wp2_with (first
    | (go_at_call 46; refine (HD.out _).mono ?_; rintro e w1 ⟨rfl, q1⟩; have Q1 := hid q1; clear q1)
    | (go_at_call_of 33 (Value.bool false); refine (HR.out _ _).mono ?_; rintro e w4 ⟨rfl, rfl⟩)
    | (go_at_call 47; refine (HA.out _).mono ?_; rintro e w2 ⟨rfl, q2⟩; have Q2 := hid q2; clear q2))
  go_ret
  exact ⟨rfl, Q1.out.trans Q2.out⟩
theorem len_bad (s : ByteArray) (w : World) (h : lenO s < 0) : Calls Tryd.prog 38 #[.string s] w fun e w' => e = .panicked [refP 186] ∧ Q w w' := by
  have hc : (neS s && decide (s.size ≤ 15) && allB dgB s) = false := by
    cases hc : (neS s && decide (s.size ≤ 15) && allB dgB s) with
    | false => rfl
    | true => unfold lenO at h; rw [hc, if_pos rfl] at h; omega
  have HY := hid (fun x W => refuse_yes x W)
  by_cases h15 : s.size ≤ 15
  · have HD := hid (fun W => digits_any s W)
    have hdd : dgS s = false := by
      unfold dgS
      rw [decide_eq_true h15, Bool.and_true] at hc
      exact hc
    rw [hdd] at HD
    have hs : ¬ (15 : Int) < (s.size : Int) := by omega
    clear h hc hdd h15
    go_enter Tryd.func38, Tryd.ntmps38
    go_wp2_with (first
      | (go_at_call 46; refine (HD.out _).mono ?_; rintro e w1 ⟨rfl, q1⟩; have Q1 := hid q1; clear q1)
      | (go_at_call_of 33 (Value.bool true); refine (HY.out _ _).mono ?_; rintro e w4 ⟨rfl, rfl⟩))
    exact ⟨rfl, rfl, Q1.out⟩
  · have hs : (15 : Int) < (s.size : Int) := by omega
    clear h hc h15
    go_enter Tryd.func38, Tryd.ntmps38
    go_wp2_with (go_at_call_of 33 (Value.bool true); refine (HY.out _ _).mono ?_; rintro e w4 ⟨rfl, rfl⟩)
    exact ⟨rfl, rfl, Q.refl _⟩
end Go.Proofs.YthefijjdffafkaaDoor
