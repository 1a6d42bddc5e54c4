/-
  What the document's own Raise does: a contract that the walks of the laws use.
-/
import Derived.Test.YtmcemfjnenfcaaaRef
namespace Go.Proofs.Ytmcemfjnenfcaaa
open Go.RowKit
set_option linter.unusedVariables false

set_option maxHeartbeats 1000000 in
theorem rraise_bad (rd : Nat) (fl : Int) (w : World) (h : fl < 0 ∨ 4611686018427387903 < fl) :
    Calls Try.prog 18 #[.pointer (some ⟨rd, 0, none⟩), .int .i64 fl] w fun e w' => e = .returned (.int .i64 21) ∧ w = w' := by
  by_cases h1 : fl < 0
  · have hb : decide (fl < 0) = true := by simp [h1]
    go_enter Try.func18, Try.ntmps18
    go_wp2
    go_ret
    exact ⟨rfl, rfl⟩
  · have hb : decide (fl < 0) = false := by simp [h1]
    have hc : (4611686018427387903 : Int) < fl := by omega
    go_enter Try.func18, Try.ntmps18
    go_wp2
    go_ret
    exact ⟨rfl, rfl⟩

set_option maxHeartbeats 1000000 in
theorem rraise_low (rd : Nat) (most floor : Int) (a : Option Addr) (n c : Nat) (fl : Int) (w : World) (hr : Hd w 36 rd most floor a n c) (h0 : 0 ≤ fl) (h1 : fl ≤ 4611686018427387903) (h2 : fl ≤ floor) :
    Calls Try.prog 18 #[.pointer (some ⟨rd, 0, none⟩), .int .i64 fl] w fun e w' => e = .returned (.int .i64 0) ∧ w = w' := by
  have c1 := hr.c1
  have hb : decide (fl < 0) = false := by simp; omega
  have hc : ¬ (4611686018427387903 : Int) < fl := by omega
  clear hr
  go_enter Try.func18, Try.ntmps18
  go_wp2
  go_ret
  exact ⟨rfl, rfl⟩

theorem rz_len (fl : Int) : ∀ xs : List Sp, (rz fl xs).length ≤ xs.length
  | [] => Nat.le_refl _
  | x :: r => by
    have := rz_len fl r
    simp only [rz]
    split
    · simp only [List.length_cons]; omega
    · simp only [List.length_cons]; omega

theorem Hd.list36 {w : World} {rd : Nat} {most floor : Int} {a : Option Addr} {n c : Nat} (h : Hd w 36 rd most floor a n c) (a' : Option Addr) (n' c' : Nat) : Hd (w.setCell ⟨rd, 2, none⟩ (.slice a' n' c')) 36 rd most floor a' n' c' := h.list_ a' n' c'

/-- append of a span that was laid in a block of its own, behind another new block. -/
theorem append_new {wr : World} {base : Nat} {ad : Option Addr} {m cc : Nat} {ys : List Sp} (ho : Own wr base ad m cc ys) (x p : Sp) (hm : m ≤ 100) (hb : base ≤ wr.heap.size) :
    ∃ a' cap' w', (Builtin.append_ #[30, 30] 30 #[.slice ad m cc, .slice (some ⟨wr.heap.size + 1, 0, none⟩) 1 1]).run Try.prog ((wr.alloc (.cells #[.int .i64 x.1, .int .i64 x.2] 49)).alloc (.cells #[.int .i64 p.1, .int .i64 p.2] 49)) = .ok (.slice a' (m + 1) cap') w' ∧ Own w' base a' (m + 1) cap' (ys ++ [p]) ∧ True ∧ Keep (fun b => blk ad = some b) wr w' := by
  have hq : Q wr ((wr.alloc (.cells #[.int .i64 x.1, .int .i64 x.2] 49)).alloc (.cells #[.int .i64 p.1, .int .i64 p.2] 49)) := ((Q.refl wr).alloc _).alloc _
  have hv : One ((wr.alloc (.cells #[.int .i64 x.1, .int .i64 x.2] 49)).alloc (.cells #[.int .i64 p.1, .int .i64 p.2] 49)) (wr.heap.size + 1) p := by
    have : One ((wr.alloc (.cells #[.int .i64 x.1, .int .i64 x.2] 49)).alloc (.cells #[.int .i64 p.1, .int .i64 p.2] 49)) (wr.alloc (.cells #[.int .i64 x.1, .int .i64 x.2] 49)).heap.size p := heap_alloc_new _ _
    simpa using this
  obtain ⟨a', cap', w', hr, h1, h2, h3⟩ := append_one (ho.q hq) hv hm (by have := hq.size; omega)
  exact ⟨a', cap', w', hr, h1, trivial, (Keep.ofQ hq).trans h3⟩

theorem Q.over {w wr w' : World} {ad : Option Addr} {m cc : Nat} {ys : List Sp} (h : Q w wr) (ho : Own wr w.heap.size ad m cc ys) (k : Keep (fun b => blk ad = some b) wr w') : Q w w' := by
  have k1 : Keep (fun b => w.heap.size ≤ b) w w' := (Keep.ofQ h).trans (k.mono (fun i _ e => (ho.lt i e).1))
  exact k1.toQ (fun i hi e => by omega)

set_option maxHeartbeats 4000000 in
theorem rraise_up (rd : Nat) (a : Option Addr) (n c : Nat) (most floor : Int) (xs : List Sp) (fl : Int) (w : World) (hs : Rt w rd a n c most floor xs) (hn : n ≤ 64) (h0 : 0 ≤ fl) (h1 : fl ≤ 4611686018427387903) (h2 : floor < fl) :
    Calls Try.prog 18 #[.pointer (some ⟨rd, 0, none⟩), .int .i64 fl] w fun e w' => e = .returned (.int .i64 0) ∧ (∃ a' n' c', Rt w' rd a' n' c' most fl (rz fl xs) ∧ ∀ b, blk a' = some b → w.heap.size ≤ b) ∧ Keep (fun k => k = rd) w w' := by
  have c1 := hs.hd.c1
  have f1 := hs.hd.free 1
  have hb : decide (fl < 0) = false := by simp; omega
  have hc : ¬ (4611686018427387903 : Int) < fl := by omega
  have h2' : ¬ fl ≤ floor := by omega
  have hrd := hs.hd.lt
  have HL := hid hs.len
  have K1 := hid ((Keep.refl (fun k => k = rd) w).setCell rd 1 (.int .i64 fl) (.inl rfl))
  have HD := hid (hs.hd.floor_ fl)
  have SG := hid (hs.seg.keep K1.out (fun b hb e => hs.ne (by rw [hb, e])))
  have hsz : (w.setCell ⟨rd, 1, none⟩ (.int .i64 fl)).heap.size = w.heap.size := by simp [World.setCell]
  have HZ := hid hsz
  clear hs hsz
  go_enter Try.func18, Try.ntmps18
  go_wp2
  generalize w.setCell ⟨rd, 1, none⟩ (.int .i64 fl) = w1 at *
  go_loopw [5, 6] (fun v5 v6 wr => ∃ k : Nat, ∃ ad : Option Addr, ∃ m cc : Nat, ∃ ys : List Sp, k ≤ n ∧ v6 = .int .i64 k ∧ v5 = .slice ad m cc ∧ Own wr w1.heap.size ad m cc ys ∧ m ≤ k ∧ ys ++ rz fl (xs.drop k) = rz fl xs ∧ Q w1 wr) (fun _ i _ => n - (intOf i).toNat)
  case atStart => exact ⟨0, none, 0, 0, [], Nat.zero_le _, rfl, rfl, own_nil _ _, Nat.le_refl _, rfl, Q.refl _⟩
  case round =>
    obtain ⟨k, ad, m, cc, ys, hk, rfl, rfl, how, hm, hrz, hq⟩ := hrel
    have OW := hid how
    have RZ := hid hrz
    have HQ := hid hq
    have c2 := (HD.out.q hq).c2
    have hsz := hq.size
    have hrw := (HD.out.q hq).lt
    clear how hrz hq
    by_cases hlt : k < n
    · obtain ⟨b, off, rfl, d0, d1, d2⟩ := seg_last (SG.out.q HQ.out) HL.out hlt
      have hlt' : (k : Int) < (n : Int) := by omega
      have DR := hid (drop_cons (xs := xs) (k := k) (by rw [HL.out]; exact hlt))
      generalize xs.getD k (0, 0) = y at *
      by_cases h3 : y.2 < fl
      · go_wp2
        go_roundw
        case rel =>
          refine ⟨k + 1, ad, m, cc, ys, by omega, by go_num, rfl, OW.out.q ((Q.refl _).alloc _), by omega, ?_, HQ.out.trans ((Q.refl _).alloc _)⟩
          rw [← RZ.out, DR.out]; simp [rz, h3]
        case measure => simp [intOf]; omega
      · by_cases h4 : y.1 < fl
        · obtain ⟨a', cap', w', hr, ho', _, hk'⟩ := append_new OW.out (fl, y.2) (fl, y.2) (by omega) hsz
          have O' := hid ho'
          have K' := hid hk'
          clear ho' hk'
          go_wp2_with (at_builtin; refine Lib.wpList_append_run _ rfl _ _ _ _ rfl _ _ rfl rfl _ _ hr ?_)
          go_roundw
          case rel =>
            refine ⟨k + 1, a', m + 1, cap', _, by omega, by go_num, rfl, O'.out, by omega, ?_, HQ.out.over OW.out K'.out⟩
            rw [← RZ.out, DR.out]
            have e : max y.1 fl = fl := by omega
            simp [rz, h3, e]
          case measure => simp [intOf]; omega
        · obtain ⟨a', cap', w', hr, ho', _, hk'⟩ := append_new OW.out y y (by omega) hsz
          have O' := hid ho'
          have K' := hid hk'
          clear ho' hk'
          go_wp2_with (at_builtin; refine Lib.wpList_append_run _ rfl _ _ _ _ rfl _ _ rfl rfl _ _ hr ?_)
          go_roundw
          case rel =>
            refine ⟨k + 1, a', m + 1, cap', _, by omega, by go_num, rfl, O'.out, by omega, ?_, HQ.out.over OW.out K'.out⟩
            rw [← RZ.out, DR.out]
            have e : max y.1 fl = y.1 := by omega
            simp [rz, h3, e]
          case measure => simp [intOf]; omega
    · obtain rfl : k = n := by omega
      have hys : ys = rz fl xs := by
        rw [← RZ.out, List.drop_of_length_le (by rw [HL.out]; exact Nat.le_refl _)]; simp [rz]
      have HY := hid hys
      have fr2 := (HD.out.q HQ.out).free 2
      clear hys
      go_wp2
      go_ret
      have hd' := (HD.out.q HQ.out).list36 ad m cc
      have hk' : Keep (fun b => b = rd) wr (wr.setCell ⟨rd, 2, none⟩ (.slice ad m cc)) := (Keep.refl _ wr).setCell rd 2 _ (.inl rfl)
      have hlt' := OW.out.lt
      have hz := HZ.out
      refine ⟨rfl, ⟨ad, m, cc, ⟨hd', ?_, ?_, ?_, ?_⟩, ?_⟩, ?_⟩
      · rw [← HY.out]
        exact OW.out.seg.keep hk' (fun b hb e => by have := (hlt' b hb).1; omega)
      · rw [← HY.out]; exact OW.out.len
      · intro e; have := (hlt' rd e).1; omega
      · intro b hb; have := (hlt' b hb).2; have := hk'.size; omega
      · intro b hb; have := (hlt' b hb).1; omega
      · exact (K1.out.trans (Keep.ofQ HQ.out)).trans hk'

/-- .. in one. -/
theorem rraise_any (rd : Nat) (a : Option Addr) (n c : Nat) (most floor : Int) (xs : List Sp) (fl : Int) (w : World) (hs : Rt w rd a n c most floor xs) (hap : Ap floor xs) (hn : n ≤ 64) :
    Calls Try.prog 18 #[.pointer (some ⟨rd, 0, none⟩), .int .i64 fl] w fun e w' => e = .returned (.int .i64 (rzE fl)) ∧ (∃ a' n' c', Rt w' rd a' n' c' most (rzF floor fl) (rzL floor fl xs) ∧ (blk a' = blk a ∨ ∀ b, blk a' = some b → w.heap.size ≤ b)) ∧ Keep (fun k => k = rd) w w' := by
  unfold rzE rzF rzL
  by_cases hb : fl < 0 ∨ 4611686018427387903 < fl
  · have hu : ¬ rzUp floor fl := by unfold rzUp; omega
    rw [if_pos hb, if_neg hu, if_neg hu]
    refine (rraise_bad rd fl w hb).mono ?_
    rintro e w' ⟨rfl, rfl⟩
    exact ⟨rfl, ⟨_, _, _, hs, .inl rfl⟩, Keep.refl _ _⟩
  · rw [if_neg hb]
    by_cases hu : rzUp floor fl
    · rw [if_pos hu, if_pos hu]
      refine (rraise_up rd a n c most floor xs fl w hs hn (by omega) (by omega) hu.2).mono ?_
      rintro e w' ⟨rfl, ⟨a', n', c', h1, h2⟩, h3⟩
      rw [rz_eq fl xs floor hap] at h1
      exact ⟨rfl, ⟨a', n', c', h1, .inr h2⟩, h3⟩
    · rw [if_neg hu, if_neg hu]
      refine (rraise_low rd most floor a n c fl w hs.hd (by omega) (by omega) (by unfold rzUp at hu; omega)).mono ?_
      rintro e w' ⟨rfl, rfl⟩
      exact ⟨rfl, ⟨_, _, _, hs, .inl rfl⟩, Keep.refl _ _⟩

end Go.Proofs.Ytmcemfjnenfcaaa
