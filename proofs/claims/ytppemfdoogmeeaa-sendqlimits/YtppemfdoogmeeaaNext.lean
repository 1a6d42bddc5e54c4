/-
  What the program's Next answers and does: a contract that the statements' walks use.
-/
import Derived.Test.YtppemfdoogmeeaaSend
namespace Go.Proofs.Ytppemfdoogmeeaa
open Go.RowKit
set_option linter.unusedVariables false

theorem ok_go {room : Int} {s : S} (h : Ok room s) (most limit : Int) : Ok room (goS s (nxA s) (nxN s most limit)) := by
  have k := ok_nx h most limit
  have e1 : (goS s (nxA s) (nxN s most limit)).ms = (nxS s most limit).ms := by rw [nxS_ms]; rfl
  have e2 : (goS s (nxA s) (nxN s most limit)).bs = (nxS s most limit).bs := by rw [nxS_bs]; rfl
  have e3 : (goS s (nxA s) (nxN s most limit)).sent = (nxS s most limit).sent := by rw [nxS_sent h]; rfl
  refine ⟨h.r0, h.r1, by rw [e1, e2]; exact k.len, by rw [e1, e3]; exact k.sent, by rw [e1, e3]; exact k.fr, by rw [e1]; exact k.mr, ?_, h.e0, h.ef⟩
  have := k.room
  unfold bas at this ⊢
  rw [e1]; exact this
theorem eo_go (s : S) (a k p : Nat) : eo (goS s a k) p = eo s p := by
  unfold eo opn goS
  simp [rg_len]
theorem bas_nxA {room : Int} {s : S} (h : Ok room s) : bas s ≤ nxA s := by
  unfold nxA
  split
  · next hf =>
    rcases Nat.lt_or_ge (fs 2 s.ms) (bas s) with hh | hh
    · have h1 := ld_at 3 s.ms _ hh
      have h2 := fs_at 2 s.ms hf
      omega
    · exact hh
  · exact bas_sent h

/-- What Next answers and does. -/
def NxAns (rb : Nat) (d m : Sv) (room : Int) (s : S) (most limit : Int) (w : World) (e : Ending) (w' : World) : Prop :=
  ∃ D : Sv, e = .returned (.tuple #[.int .i64 (nxP s most limit), .slice D.a D.n D.c, .bool (nxF s most limit), .bool (nxO s most limit)]) ∧ Bf w' rb d m room (nxS s most limit) ∧ Row w' D (nxD s most limit) ∧ (∀ b, blk D.a = some b → w.heap.size ≤ b) ∧ Keep (Fp rb d m) w w'

theorem nxAns_zero {rb : Nat} {d m : Sv} {room : Int} {s : S} {most limit : Int} {w w' : World} (hk : nxN s most limit = 0) (hB : Bf w' rb d m room (enS s (eo s s.sent))) (hK : Keep (fun k => k = rb) w w') {e : Ending}
    (he : e = .returned (.tuple #[.int .i64 (if eo s s.sent then (s.sent : Int) else 0), .slice none 0 0, .bool (eo s s.sent), .bool (eo s s.sent)])) : NxAns rb d m room s most limit w e w' := by
  have hT : nxT s most limit = s.sent := by unfold nxT; rw [if_pos hk]
  have hS : nxS s most limit = enS s (eo s s.sent) := by unfold nxS; rw [if_pos hk, hT]
  have hF : nxF s most limit = eo s s.sent := by unfold nxF; rw [hT]
  have hD : nxD s most limit = [] := by unfold nxD; rw [hk]; simp
  refine ⟨nilS, ?_, by rw [hS]; exact hB, by rw [hD]; exact sub_nil _ _ _, (fun b hb => by cases hb), hK.mono (fun i _ e => .inl e)⟩
  rw [he]
  have hO : nxO s most limit = eo s s.sent := by unfold nxO; rw [hk, hF]; simp
  have hP : (nxP s most limit : Int) = if eo s s.sent then (s.sent : Int) else 0 := by
    unfold nxP
    rw [if_pos hk, hF]
    cases hh : eo s s.sent
    · simp
    · unfold eo at hh
      simp at hh
      simp [hh.2]
  rw [hP, hO, hF]
  rfl

theorem results_tmp4 {fn : Func} {t u v x : Tmp} (h : fn.results = #[.tmp t, .tmp u, .tmp v, .tmp x]) (tmps : Array Value) (P : Program) (w : World) :
    (results fn tmps).run P w = .ok (.tuple #[tmps.getD t undef, tmps.getD u undef, tmps.getD v undef, tmps.getD x undef]) w := by
  simp [results, h]

set_option maxHeartbeats 4000000 in
theorem next_any (rb : Nat) (d m : Sv) (room : Int) (s : S) (most limit : Int) (w : World) (hB : Bf w rb d m room s) (hO : Ok room s) (hL : s.ms.length ≤ 4611686018427387904) :
    Calls Try.prog 10 #[.pointer (some ⟨rb, 0, none⟩), .int .i64 most, .int .i64 limit] w fun e w' => NxAns rb d m room s most limit w e w' := by
  have HB := hid hB
  have HO := hid hO
  have HL := hid hL
  by_cases hk : nxN s most limit = 0
  · have HK0 := hid hk
    have hfr : frN s most limit = 0 ∨ ¬ fs 2 s.ms < s.ms.length := by
      by_cases hf : fs 2 s.ms < s.ms.length
      · left
        unfold nxN at hk
        rw [if_pos hf] at hk
        have h1 := fs_at 2 s.ms hf
        have h2 : 0 < ld 2 (s.ms.drop (fs 2 s.ms)) := by
          rcases Nat.eq_zero_or_pos (ld 2 (s.ms.drop (fs 2 s.ms))) with h | h
          · have := ld_end 2 (s.ms.drop (fs 2 s.ms)) (by rw [h, List.length_drop]; omega)
            rw [h, at_drop] at this
            exact absurd h1 this
          · exact h
        unfold frN; omega
      · exact .inr hf
    have hf0 : frN s most limit = 0 := by
      rcases hfr with h | h
      · exact h
      · unfold nxN at hk; rw [if_neg h] at hk; exact hk
    have hlt0 : decide ((s.sent : Int) < (s.sent : Int)) = false := by simp
    have HF0 := hid hf0
    have FR := hid (fun k => (fresh_any rb d m room s most limit (w.drewN k) (hB.q ((Q.refl w).drewN k)) hO hL))
    by_cases hf : fs 2 s.ms < s.ms.length
    · have hl0 : lrN s.ms most = 0 := by unfold nxN at hk; rw [if_pos hf] at hk; exact hk
      have LO := hid (lost_some rb d m room s most w hB hO hL hf)
      rw [hl0] at LO
      clear hB hO hL hf hl0 hfr hf0 hk
      generalize fs 2 s.ms = f at *
      have hq : ((f : Int) == (f : Int)) = true := by simp
      go_enter Try.func10, Try.ntmps10
      go_wp2_with fail
      refine LO.out.mono ?_
      rintro e wa ⟨rfl, k, rfl⟩
      go_wp2_with fail
      refine (FR.out k).mono ?_
      rw [HF0.out]
      rintro e wb ⟨rfl, k2, rfl⟩
      have HB1 := hid ((HB.out.q ((Q.refl w).drewN k)).q ((Q.refl (w.drewN k)).drewN k2))
      have HQ1 := hid (((Keep.refl (fun i => i = rb) w).drewN k).drewN k2)
      generalize (w.drewN k).drewN k2 = w1 at *
      have c2 := HB1.out.hd.c2
      go_wp2_with fail
      refine (sendEnd_any rb d m room s s.sent w1 HB1.out HO.out HL.out).mono ?_
      rintro e w2 ⟨rfl, hb2, hk2⟩
      have HB2 := hid hb2
      have c2' := hb2.hd.c2
      rw [enS_sent] at c2'
      have HK2 := hid (HQ1.out.trans hk2)
      have HZ := hid (fun (e : Ending) he => nxAns_zero (e := e) HK0.out HB2.out HK2.out he)
      clear hb2 hk2
      cases hE : eo s s.sent
      · rw [hE] at HZ
        go_wp2
        (try simp only [Exit.inBlock, Exit.then]); refine bodyPost_ret (results_tmp4 rfl _ _ _) rfl ?_
        exact HZ.out _ (by simp)
      · rw [hE] at HZ
        go_wp2
        (try simp only [Exit.inBlock, Exit.then]); refine bodyPost_ret (results_tmp4 rfl _ _ _) rfl ?_
        exact HZ.out _ (by simp)
    · have LO := hid (lost_none rb d m room s most w hB hO hf)
      clear hB hO hL hf hfr hf0 hk
      go_enter Try.func10, Try.ntmps10
      go_wp2_with fail
      refine LO.out.mono ?_
      rintro e wa ⟨rfl, rfl⟩
      go_wp2_with fail
      refine (FR.out 0).mono ?_
      rw [HF0.out]
      rintro e wb ⟨rfl, k2, rfl⟩
      have HB1 := hid (HB.out.q ((Q.refl w).drewN k2))
      have HQ1 := hid ((Keep.refl (fun i => i = rb) w).drewN k2)
      change Hid (Bf ((w.drewN 0).drewN k2) rb d m room s) at HB1
      change Hid (Keep (fun i => i = rb) w ((w.drewN 0).drewN k2)) at HQ1
      generalize (w.drewN 0).drewN k2 = w1 at *
      have c2 := HB1.out.hd.c2
      go_wp2_with fail
      refine (sendEnd_any rb d m room s s.sent w1 HB1.out HO.out HL.out).mono ?_
      rintro e w2 ⟨rfl, hb2, hk2⟩
      have HB2 := hid hb2
      have c2' := hb2.hd.c2
      rw [enS_sent] at c2'
      have HK2 := hid (HQ1.out.trans hk2)
      have HZ := hid (fun (e : Ending) he => nxAns_zero (e := e) HK0.out HB2.out HK2.out he)
      clear hb2 hk2
      cases hE : eo s s.sent
      · rw [hE] at HZ
        go_wp2
        (try simp only [Exit.inBlock, Exit.then]); refine bodyPost_ret (results_tmp4 rfl _ _ _) rfl ?_
        exact HZ.out _ (by simp)
      · rw [hE] at HZ
        go_wp2
        (try simp only [Exit.inBlock, Exit.then]); refine bodyPost_ret (results_tmp4 rfl _ _ _) rfl ?_
        exact HZ.out _ (by simp)
  · have HIN := hid (nx_in hO most limit)
    have HMK := hid (nx_mark hO most limit)
    have HBA := hid (bas_nxA hO)
    have HOG := hid (ok_go hO most limit)
    have HT0 : nxT s most limit = nxA s + nxN s most limit := by unfold nxT; rw [if_neg hk]
    have HPP := hid (show nxP s most limit = nxA s by unfold nxP; rw [if_neg hk])
    have HFF := hid (show nxF s most limit = eo s (nxA s + nxN s most limit) by unfold nxF; rw [HT0])
    have HOO := hid (show nxO s most limit = true by unfold nxO; simp [hk])
    have HSS := hid (show nxS s most limit = enS (goS s (nxA s) (nxN s most limit)) (eo s (nxA s + nxN s most limit)) by unfold nxS; rw [if_neg hk, HT0])
    have HDD := hid (show nxD s most limit = (s.bs.drop (nxA s)).take (nxN s most limit) from rfl)
    clear HT0
    by_cases hf : fs 2 s.ms < s.ms.length
    · have LO := hid (lost_some rb d m room s most w hB hO hL hf)
      rw [show fs 2 s.ms = nxA s from by unfold nxA; rw [if_pos hf], show lrN s.ms most = nxN s most limit from by unfold nxN lrN; rw [if_pos hf]] at LO
      clear hB hO hL hf
      generalize nxA s = F at *
      generalize nxN s most limit = K at *
      generalize hT : F + K = T at *
      have HT := hid hT.symm
      rw [← hT] at HIN HMK
      have hq : ((F : Int) == (T : Int)) = false := by simp; omega
      have hlt : (F : Int) < (T : Int) := by omega
      have hK0 := hid hk
      clear hT hk
      go_enter Try.func10, Try.ntmps10
      go_wp2_with fail
      refine LO.out.mono ?_
      rintro e wa ⟨rfl, k, rfl⟩
      have HB1 := hid (HB.out.q ((Q.refl w).drewN k))
      have HQ1 := hid ((Keep.refl (Fp rb d m) w).drewN k)
      generalize w.drewN k = w1 at *
      go_wp2_with fail
      refine (send_any rb d m room s F K T w1 HT.out HB1.out HO.out HL.out HBA.out (by have := hK0.out; omega) HIN.out (fun i h1 h2 => by have := HMK.out i h1 h2; omega)).mono ?_
      rintro e w2 ⟨D, rfl, hb2, hr2, hD2, hk2⟩
      have HB2 := hid hb2
      have HR2 := hid hr2
      have HK2 := hid (HQ1.out.trans' hk2 (fun i hi e => e))
      have HD2 := hid (show w.heap.size ≤ D from Nat.le_trans HQ1.out.size hD2)
      clear hb2 hr2 hD2 hk2
      go_wp2_with fail
      refine (sendEnd_any rb d m room (goS s F K) T w2 HB2.out HOG.out (by show (rg _ _ _ _).length ≤ _; rw [rg_len]; exact HL.out)).mono ?_
      rintro e w3 ⟨rfl, hb3, hk3⟩
      have HB3 := hid hb3
      have HK3 := hid (HK2.out.trans' hk3 (fun i hi e => .inl e))
      have HR3 := hid (HR2.out.keep hk3 (fun b hb e => by
        have e' : D = b := by simpa [blk] using hb
        have := HD2.out; have := HB.out.hd.lt; omega))
      clear hb3 hk3
      go_wp2
      (try simp only [Exit.inBlock, Exit.then]); refine bodyPost_ret (results_tmp4 rfl _ _ _) rfl ?_
      refine ⟨⟨some ⟨D, 0, none⟩, K, K⟩, ?_, ?_, by rw [HDD.out]; exact HR3.out, (fun b hb => by
        have e' : D = b := by simpa [blk] using hb
        have := HD2.out; omega), HK3.out⟩
      · rw [HPP.out, HFF.out, HOO.out, eo_go]; rfl
      · rw [HSS.out, ← eo_go s F K T]; exact HB3.out
    · have LO := hid (lost_none rb d m room s most w hB hO hf)
      have FR := hid (fresh_any rb d m room s most limit w hB hO hL)
      rw [show s.sent = nxA s from by unfold nxA; rw [if_neg hf], show frN s most limit = nxN s most limit from by unfold nxN frN; rw [if_neg hf]] at FR
      clear hB hO hL hf
      generalize nxA s = F at *
      generalize nxN s most limit = K at *
      generalize hT : F + K = T at *
      have HT := hid hT.symm
      rw [← hT] at HIN HMK
      have hq : ((F : Int) == (T : Int)) = false := by simp; omega
      have hlt : (F : Int) < (T : Int) := by omega
      have hK0 := hid hk
      clear hT hk
      go_enter Try.func10, Try.ntmps10
      go_wp2_with fail
      refine LO.out.mono ?_
      rintro e wa ⟨rfl, rfl⟩
      go_wp2_with fail
      refine FR.out.mono ?_
      rintro e wb ⟨rfl, k, rfl⟩
      have HB1 := hid (HB.out.q ((Q.refl w).drewN k))
      have HQ1 := hid ((Keep.refl (Fp rb d m) w).drewN k)
      generalize w.drewN k = w1 at *
      go_wp2_with fail
      refine (send_any rb d m room s F K T w1 HT.out HB1.out HO.out HL.out HBA.out (by have := hK0.out; omega) HIN.out (fun i h1 h2 => by have := HMK.out i h1 h2; omega)).mono ?_
      rintro e w2 ⟨D, rfl, hb2, hr2, hD2, hk2⟩
      have HB2 := hid hb2
      have HR2 := hid hr2
      have HK2 := hid (HQ1.out.trans' hk2 (fun i hi e => e))
      have HD2 := hid (show w.heap.size ≤ D from Nat.le_trans HQ1.out.size hD2)
      clear hb2 hr2 hD2 hk2
      go_wp2_with fail
      refine (sendEnd_any rb d m room (goS s F K) T w2 HB2.out HOG.out (by show (rg _ _ _ _).length ≤ _; rw [rg_len]; exact HL.out)).mono ?_
      rintro e w3 ⟨rfl, hb3, hk3⟩
      have HB3 := hid hb3
      have HK3 := hid (HK2.out.trans' hk3 (fun i hi e => .inl e))
      have HR3 := hid (HR2.out.keep hk3 (fun b hb e => by
        have e' : D = b := by simpa [blk] using hb
        have := HD2.out; have := HB.out.hd.lt; omega))
      clear hb3 hk3
      go_wp2
      (try simp only [Exit.inBlock, Exit.then]); refine bodyPost_ret (results_tmp4 rfl _ _ _) rfl ?_
      refine ⟨⟨some ⟨D, 0, none⟩, K, K⟩, ?_, ?_, by rw [HDD.out]; exact HR3.out, (fun b hb => by
        have e' : D = b := by simpa [blk] using hb
        have := HD2.out; omega), HK3.out⟩
      · rw [HPP.out, HFF.out, HOO.out, eo_go]; rfl
      · rw [HSS.out, ← eo_go s F K T]; exact HB3.out
end Go.Proofs.Ytppemfdoogmeeaa
