/-
  What holds of all packets holds behind every call. No Go in it.
-/
import Derived.Test.YtjhihcmemnhbbaaAck
namespace Go.Proofs.Ytjhihcmemnhbbaa
open Go.RowKit
set_option linter.unusedVariables false
set_option maxRecDepth 20000

theorem ok_smp {N : Nat} {S : Lo} (h : Ok N S) {lat cut : Int} (l0 : 0 ≤ lat) (l1 : lat ≤ 1099511627776) (c0 : 0 ≤ cut) : Ok N (smpS S lat cut) := by
  have o1 := h.lea0
  have o2 := h.lea1
  have o3 := h.smo0
  have o4 := h.smo1
  have o5 := h.var0
  have o6 := h.var1
  have hx : 0 ≤ smpX S lat cut ∧ smpX S lat cut ≤ 1099511627776 := by unfold smpX; split <;> omega
  unfold smpS
  split
  · refine ⟨h.most0, h.most1, h.now0, h.now1, h.win0, h.win1, h.thr0, h.thr1, h.rcv0, h.rcv1, h.prb0, h.prb1, l0, l1, ?_, ?_, ?_, ?_, ?_, ?_, h.sp⟩ <;> simp only <;> omega
  · refine ⟨h.most0, h.most1, h.now0, h.now1, h.win0, h.win1, h.thr0, h.thr1, h.rcv0, h.rcv1, h.prb0, h.prb1, l0, l1, l0, Int.le_refl _, l0, l1, ?_, ?_, h.sp⟩ <;> simp only <;> omega
theorem smp_same {S : Lo} {lat cut : Int} : (smpS S lat cut).win = S.win ∧ (smpS S lat cut).sp = S.sp ∧ (smpS S lat cut).now = S.now := by
  unfold smpS; split <;> exact ⟨rfl, rfl, rfl⟩
section
variable {N : Nat} {S : Lo} {k : Nat} {l : List Spn} {delay now : Int}
theorem ok_ack1 (h : Ok N S) (hk : k < 3) (e1 : S.now ≤ now) (e2 : now ≤ 1099511627776) : Ok N (ack1 S k l now) :=
  ok_put (ok_now h e1 e2) hk (cok_out ((ok_now h e1 e2).sp k hk)) (List.length_filter_le _ _)
theorem part_len (f : Pk → Bool) (x : List Pk) : (x.filter f).length + (x.filter (fun p => !f p)).length = x.length := by
  induction x with
  | nil => rfl
  | cons p r ih => cases h : f p <;> simp [h] <;> omega
theorem tot_ack1 (hk : k < 3) : tot (ack1 S k l now) + (arrL S k l).length = tot S := by
  have h1 : tot (ack1 S k l now) + (S.sp k).out.length = tot S + (arrR S k l).length := tot_put ({ S with now := now } : Lo) hk { S.sp k with out := arrR S k l }
  have h2 : (arrL S k l).length + (arrR S k l).length = (S.sp k).out.length := part_len (fun p => inS l p.n) (S.sp k).out
  omega
theorem last_mem (h : arrL S k l ≠ []) : lastP (arrL S k l) ∈ (S.sp k).out := by
  have h0 : 0 < (arrL S k l).length := List.length_pos_iff.2 h
  have h1 : lastP (arrL S k l) ∈ arrL S k l := by
    unfold lastP; rw [List.getD_eq_getElem?_getD, List.getElem?_eq_getElem (by omega)]; exact List.getElem_mem _
  exact (List.mem_filter.1 h1).1
theorem ok_ack2 (h : Ok N S) (hk : k < 3) (e1 : S.now ≤ now) (e2 : now ≤ 1099511627776) (d0 : 0 ≤ delay) (hne : arrL S k l ≠ []) : Ok N (ack2 S k l delay now) ∧ (ack2 S k l delay now).win = S.win ∧ (ack2 S k l delay now).sp = (ack1 S k l now).sp ∧ (ack2 S k l delay now).now = now := by
  have h1 := ok_ack1 (l := l) h hk e1 e2
  unfold ack2
  split
  · have hp := (h.sp k hk).out _ (last_mem hne)
    have a0 := hp.a0
    have a1 := hp.a1
    have c0 : 0 ≤ cutM (ack1 S k l now) k delay := by have := h1.most0; unfold cutM; split <;> omega
    have hs := smp_same (S := ack1 S k l now) (lat := now - (lastP (arrL S k l)).a) (cut := cutM (ack1 S k l now) k delay)
    exact ⟨ok_smp h1 (by omega) (by omega) c0, hs.1, hs.2.1, hs.2.2⟩
  · exact ⟨h1, rfl, rfl, rfl⟩
theorem gw_ack (h : Ok N S) (hk : k < 3) (hN : N ≤ 4398046511103) (e1 : S.now ≤ now) (e2 : now ≤ 1099511627776) (d0 : 0 ≤ delay) (hne : arrL S k l ≠ []) : 2400 ≤ (ack2 S k l delay now).win ∧ (ack2 S k l delay now).win ≤ 300000000000000000 := by
  have h2 := ok_ack2 h hk e1 e2 d0 hne
  rw [h2.2.1]
  have := h.win0
  have := h.win1
  omega
theorem ok_ack5 (h : Ok N S) (hk : k < 3) (e1 : S.now ≤ now) (e2 : now ≤ 1099511627776) (d0 : 0 ≤ delay) (hne : arrL S k l ≠ []) : Ok N (ack5 S k l delay now) ∧ (ack5 S k l delay now).now = now ∧ ((ack5 S k l delay now).sp k).out = arrR S k l ∧ (∀ i, i ≠ k → (ack5 S k l delay now).sp i = S.sp i) ∧ ((ack5 S k l delay now).sp k).ack = max (S.sp k).ack (lastP (arrL S k l)).n ∧ ((ack5 S k l delay now).sp k).sent = (S.sp k).sent := by
  obtain ⟨h2, hw2, hs2, hn2⟩ := ok_ack2 h hk e1 e2 d0 hne
  have hG := gok_all h2.win0 (arrL S k l) (fun p hp => ⟨((h.sp k hk).out p (List.mem_filter.1 hp).1).s0, ((h.sp k hk).out p (List.mem_filter.1 hp).1).s1⟩) (arrL S k l).length (Nat.le_refl _)
  rw [List.take_length] at hG
  have hG' : GOk (ack2 S k l delay now) (ack3 S k l delay now) (arrL S k l).length := hG
  have ht := tot_ack1 (S := S) (l := l) (now := now) hk
  have e3 := hG'.eq
  have lo := hG'.lo
  have hi := hG'.hi
  have w0 := h2.win0
  have w1 := h.win1
  have h3 : Ok N (ack3 S k l delay now) := by
    rw [e3]
    refine ⟨h2.most0, h2.most1, h2.now0, h2.now1, by simp only; omega, ?_, h2.thr0, h2.thr1, h2.rcv0, h2.rcv1, h2.prb0, h2.prb1, h2.lat0, h2.lat1, h2.lea0, h2.lea1, h2.smo0, h2.smo1, h2.var0, h2.var1, h2.sp⟩
    have t1 : tot ({ ack2 S k l delay now with win := (ack3 S k l delay now).win } : Lo) = tot (ack1 S k l now) := by show tot _ = _; unfold tot; simp only [hs2]
    rw [t1]
    simp only
    omega
  have sp3 : (ack3 S k l delay now).sp = (ack1 S k l now).sp := by rw [e3]; exact hs2
  have h4 : Ok N (ack4 S k l delay now) := ⟨h3.most0, h3.most1, h3.now0, h3.now1, h3.win0, h3.win1, h3.thr0, h3.thr1, h3.rcv0, h3.rcv1, by show (0:Int) ≤ 0; omega, by show (0:Int) ≤ 20; omega, h3.lat0, h3.lat1, h3.lea0, h3.lea1, h3.smo0, h3.smo1, h3.var0, h3.var1, h3.sp⟩
  have n4 : (ack4 S k l delay now).now = now := by show (ack3 S k l delay now).now = now; rw [e3]; exact hn2
  have sp4 : (ack4 S k l delay now).sp k = { S.sp k with out := arrR S k l } := by show (ack3 S k l delay now).sp k = _; rw [sp3]; unfold ack1; rw [put_sp]
  have hp := (h.sp k hk).out _ (last_mem hne)
  refine ⟨?_, n4, ?_, ?_, ?_, ?_⟩
  · refine ok_put h4 hk ?_ (Nat.le_refl _)
    have hc := h4.sp k hk
    refine ⟨hc.out, hc.few, hc.srt, hc.many, ?_, ?_, hc.last0, hc.last1, hc.lt0, hc.lt1⟩
    · have := hc.ack0; simp only; omega
    · have := hc.ack1; have := hp.n1; simp only; omega
  · unfold ack5; rw [put_sp, sp4]
  · intro i hi
    unfold ack5
    simp only [Lo.put, upd_other _ _ hi]
    show (ack3 S k l delay now).sp i = _
    rw [sp3]; unfold ack1; simp only [Lo.put, upd_other _ _ hi]
  · unfold ack5; rw [put_sp, sp4]
  · unfold ack5; rw [put_sp, sp4]
theorem ok_shr (h : Ok N S) (hN : N ≤ 4398046511103) (x : List Pk) (n0 : 0 ≤ now) (n1 : now ≤ 1099511627776) : Ok N (shr S x now) := by
  unfold shr
  split
  · exact h
  · have w0 := h.win0
    have w1 := h.win1
    have ht : tot ({ S with rcv := now, thr := S.win / 2, win := max (S.win / 2) 2400 } : Lo) = tot S := rfl
    refine ⟨h.most0, h.most1, h.now0, h.now1, by simp only; omega, by rw [ht]; simp only; omega, by simp only; omega, ?_, by simp only; omega, n1, h.prb0, h.prb1, h.lat0, h.lat1, h.lea0, h.lea1, h.smo0, h.smo1, h.var0, h.var1, h.sp⟩
    simp only
    have : S.win / 2 ≤ S.win := by omega
    have := h.thr1
    omega
theorem ok_fnd (h : Ok N S) (hk : k < 3) (n0 : 0 ≤ now) (n1 : now ≤ 1099511627776) (hN : N ≤ 4398046511103) : Ok N (fndS S k now) ∧ (fndS S k now).now = S.now ∧ ((fndS S k now).sp k).out = fndR S k now ∧ (∀ i, i ≠ k → (fndS S k now).sp i = S.sp i) ∧ ((fndS S k now).sp k).ack = (S.sp k).ack ∧ ((fndS S k now).sp k).sent = (S.sp k).sent := by
  have h1 : Ok N (S.put k { S.sp k with out := fndR S k now }) := ok_put h hk (cok_out (h.sp k hk)) (List.length_filter_le _ _)
  have h2 : Ok N (fndM S k now) := ok_shr h1 hN _ n0 n1
  have e := fndM_sp S k now
  have pr := pat_range h
  have hnw : (fndM S k now).now = S.now := by unfold fndM shr; split <;> rfl
  refine ⟨?_, hnw, ?_, ?_, ?_, ?_⟩
  · refine ok_put h2 hk ?_ (Nat.le_refl _)
    have hc := h2.sp k hk
    refine ⟨hc.out, hc.few, hc.srt, hc.many, hc.ack0, hc.ack1, hc.last0, hc.last1, ?_, ?_⟩
    · show -1 ≤ fndT S k now
      unfold fndT
      cases hR : fndR S k now with
      | nil => simp
      | cons p r =>
        have hm : p ∈ (S.sp k).out := by
          have : p ∈ fndR S k now := by rw [hR]; exact List.mem_cons_self
          exact (List.mem_filter.1 this).1
        have := ((h.sp k hk).out p hm).a0
        simp only; split <;> omega
    · show fndT S k now ≤ 4398046511104
      unfold fndT
      cases hR : fndR S k now with
      | nil => simp
      | cons p r =>
        have hm : p ∈ (S.sp k).out := by
          have : p ∈ fndR S k now := by rw [hR]; exact List.mem_cons_self
          exact (List.mem_filter.1 this).1
        have := ((h.sp k hk).out p hm).a1
        have := h.now1
        simp only; split <;> omega
  · unfold fndS; rw [put_sp, e]
  · intro i hi
    unfold fndS
    simp only [Lo.put, upd_other _ _ hi]
    unfold fndM
    rw [shr_sp]; simp only [Lo.put, upd_other _ _ hi]
  · unfold fndS; rw [put_sp, e]
  · unfold fndS; rw [put_sp, e]
end
end Go.Proofs.Ytjhihcmemnhbbaa
