/-
  trimRightASCII, Trim at the blanks, isValue: contracts that the statements' walks use.
-/
import Derived.Test.YtclapheglgiokaaDoorRnI
namespace Go.Proofs.YtclapheglgiokaaDoor
open Go.RowKit
set_option linter.unusedVariables false
set_option maxRecDepth 100000

theorem lsS_at (t : ByteArray) (m : Nat) (h : t.size = m + 1) : lsS t = !blk1 (t[m]'(by omega)).toNat := by
  unfold lsS
  have hl : t.data.toList.length = m + 1 := by simpa using h
  have : t.data.toList.getLast? = some (t[m]'(by omega)) := by
    rw [List.getLast?_eq_getElem?, hl, Nat.add_sub_cancel, List.getElem?_eq_getElem (by omega)]; rfl
  rw [this]
theorem lsS_nil (t : ByteArray) (h : t.size = 0) : lsS t = true := by
  have : t.data.toList = [] := List.eq_nil_of_length_eq_zero (by simpa using h)
  unfold lsS
  rw [this]; rfl
theorem fsS_nil (t : ByteArray) (h : t.size = 0) : fsS t = true := by
  have : t.data.toList = [] := List.eq_nil_of_length_eq_zero (by simpa using h)
  unfold fsS
  rw [this]
set_option maxHeartbeats 4000000 in
theorem trr_any (g : Nat) (s : ByteArray) (w : World) (h : Blk w g 157 asB) (hs : s.size ≤ 140737488355328) : Calls Tryd.prog 108 #[.string s, .pointer (some ⟨g, 0, none⟩)] w fun e w' => ∃ t : ByteArray, e = .returned (.string t) ∧ Q w w' ∧ (lsS s = true → t = s) ∧ t.size ≤ s.size ∧ (lsS s = false → t.size < s.size) := by
  have HC := hid (fun (c : Nat) (hc : c < 256) W (q : Q w W) => con_any g c W (h.q q) hc)
  have HS := hid hs
  clear h
  go_enter Tryd.func108, Tryd.ntmps108
  go_wp2
  go_loopw [0] (fun x wr => ∃ t : ByteArray, x = .string t ∧ Q w wr ∧ (t = s ∨ (t.size < s.size ∧ lsS s = false))) (fun x _ => match x with | .string b => b.size | _ => 0)
  case atStart => exact ⟨s, rfl, Q.refl w, .inl rfl⟩
  case round =>
    obtain ⟨t, rfl, hq, ht⟩ := hrel
    have hts : t.size ≤ 140737488355328 := by rcases ht with rfl | ⟨a, b⟩ <;> omega
    have HQ := hid hq
    have HT := hid ht
    clear hq ht
    by_cases h0 : t.size = 0
    · have h0I : ¬ (0 : Int) < (t.size : Int) := by omega
      have HN := hid (lsS_nil t h0)
      clear h0
      go_wp2
      go_ret
      refine ⟨t, rfl, HQ.out, ?_⟩
      rcases HT.out with rfl | ⟨a, b⟩
      · exact ⟨fun _ => rfl, Nat.le_refl _, fun e => by rw [HN.out] at e; cases e⟩
      · exact ⟨fun e => by (rw [b] at e; cases e), by omega, fun _ => a⟩
    · have h0I : (0 : Int) < (t.size : Int) := by omega
      obtain ⟨m, hm⟩ : ∃ m, t.size = m + 1 := ⟨t.size - 1, by omega⟩
      have hmI : (t.size : Int) - 1 = (m : Int) := by omega
      have htI : (t.size : Int) ≤ 140737488355328 := by omega
      have hml : m < t.size := by omega
      have i0 := fun W => str_ix t m hml W
      have HF := hid (show lsS t = !blk1 (t[m]'hml).toNat from lsS_at t m hm)
      have HM := hid hm
      clear hm h0
      have hb : (t[m]'hml).toNat < 256 := UInt8.toNat_lt _
      have HCC := hid (HC.out _ hb wr HQ.out)
      have hm0 : (0 : Int) ≤ (m : Int) := by omega
      have hmL : (m : Int) ≤ (t.size : Int) := by omega
      have hsl : ∀ W, (Instr.slice 9 (.string t) none (some (.int .i64 (m : Int))) none).run Tryd.prog W = .ok (.string (t.extract 0 m)) W := by
        intro W
        rw [run_slice_string_to_if W 9 t .i64 _ Tryd.underlying9, if_pos ⟨hm0, hmL⟩]
        rfl
      have HZ := hid (show (t.extract 0 m).size = m from by rw [ByteArray.size_extract]; omega)
      generalize (t[m]'hml).toNat = c at *
      generalize t.extract 0 m = T at *
      cases hbk : blk1 c with
      | true =>
        rw [hbk] at HCC HF
        go_wp2_with (go_at_call 116; refine HCC.out.mono ?_; rintro e w1 ⟨rfl, rfl⟩)
        go_roundw
        case rel =>
          refine ⟨_, rfl, HQ.out, .inr ⟨?_, ?_⟩⟩
          · have h1 := HZ.out
            have h2 := HM.out
            rcases HT.out with rfl | ⟨a, b⟩ <;> omega
          · rcases HT.out with rfl | ⟨a, b⟩
            · exact HF.out
            · exact b
        case measure =>
          have h1 := HZ.out
          have h2 := HM.out
          show T.size < t.size
          omega
      | false =>
        rw [hbk] at HCC HF
        go_wp2_with (go_at_call 116; refine HCC.out.mono ?_; rintro e w1 ⟨rfl, rfl⟩)
        go_ret
        refine ⟨t, rfl, HQ.out, ?_⟩
        rcases HT.out with rfl | ⟨a, b⟩
        · exact ⟨fun _ => rfl, Nat.le_refl _, fun e => by rw [HF.out] at e; cases e⟩
        · exact ⟨fun e => by (rw [b] at e; cases e), by omega, fun _ => a⟩
set_option maxHeartbeats 4000000 in
theorem trim_any (s : ByteArray) (w : World) (hs : s.size ≤ 140737488355328) : Calls Tryd.prog 95 #[.string s, .string ⟨#[32, 9]⟩] w fun e w' => ∃ t : ByteArray, e = .returned (.string t) ∧ Q w w' ∧ ((fsS s && lsS s) = true → t = s) ∧ ((fsS s && lsS s) = false → t.size < s.size) := by
  obtain ⟨hz, _⟩ := zero_of_info info79'
  have HMK := hid (fun W => mk_any W)
  have HL := hid (fun g s W h => trl_any g s W h)
  have HR := hid (fun g W h => trr_any g s W h hs)
  have he := emp_neS s
  have he2 := emp_eqS s
  have hsz : ((⟨#[32, 9]⟩ : ByteArray).size : Int) = 2 := rfl
  have HI := hid (show (Tryd.prog.info? 157).map (·.size) = some asB.size from by kernel_rfl)
  have HO := hid (show asB.all (·.oneCell') = true from aset_one _)
  have HS : Hid ((aset []).toArray.size = asB.size) := by refine hid ?_; simp [asB, aset]
  have hne : ((⟨#[32, 9]⟩ : ByteArray).toList.isEmpty) = false := by kernel_rfl
  have hne2 : ((⟨#[32, 9]⟩ : ByteArray).toList == (⟨#[]⟩ : ByteArray).toList) = false := by kernel_rfl
  generalize hZ : (aset []).toArray = Z at *
  generalize (⟨#[32, 9]⟩ : ByteArray) = cut at *
  cases hn : neS s with
  | false =>
    have hs0 : s.size = 0 := by
      unfold neS at hn
      have : s.data.toList = [] := by simpa using hn
      have := congrArg List.length this
      simpa using this
    have HFL := hid (show (fsS s && lsS s) = true from by rw [fsS_nil s hs0, lsS_nil s hs0]; rfl)
    rw [hn] at he he2
    clear hs0 hn
    go_enter Tryd.func95, Tryd.ntmps95
    go_wp2
    go_ret
    exact ⟨s, rfl, Q.refl _, fun _ => rfl, fun e => by rw [HFL.out] at e; cases e⟩
  | true =>
    rw [hn] at he he2
    clear hn
    go_enter Tryd.func95, Tryd.ntmps95
    go_wp2_with (first
      | (go_at_call 106; refine (HMK.out _).mono ?_; rintro e w1 ⟨rfl, q1⟩; have Q1 := hid q1; clear q1)
      | (refine wpList_store_row rfl 157 _ _ rfl w1.heap.size _ rfl rfl 157 _ (blk_new w1 Z 157) HI.out HS.out HO.out ?_; refine Hid.out ?_))
    refine hid ?_
    have HB := hid (show Blk ((w1.alloc (.cells Z 157)).setRow w1.heap.size asB) w1.heap.size 157 asB from setRow_heap _ _ _ _ 157 _ (blk_new w1 Z 157))
    have HQ := hid (show Q w ((w1.alloc (.cells Z 157)).setRow w1.heap.size asB) from ((Keep.ofQ (F := fun b => b = w1.heap.size) (Q1.out.alloc _)).setRow _ _ (.inl rfl)).toQ (fun i hi e => by have := Q1.out.size; omega))
    generalize World.setRow _ _ _ = W at *
    generalize w1.heap.size = g at *
    go_wp2_with (first
      | (go_at_call 108; refine (HR.out _ _ HB.out).mono ?_; rintro e w2 ⟨t, rfl, q2, t1, t2, t3⟩; have Q2 := hid q2; have T1 := hid t1; have T2 := hid t2; have T3 := hid t3; clear q2 t1 t2 t3)
      | (go_at_call 107; refine (HL.out _ _ _ (HB.out.q Q2.out)).mono ?_; rintro e w3 ⟨u, rfl, q3, u1, u2, u3⟩; have Q3 := hid q3; have U1 := hid u1; have U2 := hid u2; have U3 := hid u3; clear q3 u1 u2 u3))
    generalize asB = Z2 at *
    go_ret
    have HX := hid (show ((fsS s && lsS s) = true → u = s) ∧ ((fsS s && lsS s) = false → u.size < s.size) from by
      refine ⟨fun h => ?_, fun h => ?_⟩
      · rw [Bool.and_eq_true] at h
        have e := T1.out h.2
        have e2 := U1.out (by rw [e]; exact h.1)
        rw [e2, e]
      · have h2 := U2.out
        have h3 := T2.out
        cases hl : lsS s with
        | false => have := T3.out hl; omega
        | true =>
          have e := T1.out hl
          rw [hl, Bool.and_true] at h
          have e2 := U3.out (by rw [e]; exact h)
          omega)
    refine ⟨u, ?_, ?_, HX.out⟩
    · rfl
    · exact (HQ.out.trans Q2.out).trans Q3.out
end Go.Proofs.YtclapheglgiokaaDoor
