/-
  What Sent answers and does, and that the set's fixed answer is given: contracts that the statements' walks use.
-/
import Derived.Test.YtjhihcmemnhbbaaSend
namespace Go.Proofs.Ytjhihcmemnhbbaa
open Go.RowKit
set_option linter.unusedVariables false
set_option maxRecDepth 20000

abbrev badP (S : Lo) (k : Nat) (n s : Int) : Prop := n ≤ gs (S.sp k).sent ∨ 4611686018427387903 < n ∨ s < 0 ∨ 65535 < s
def sntE (S : Lo) (k n s now : Int) : Int := if chE S k now ≠ 0 then chE S k now else if badP S k.toNat n s then 111 else if 4096 ≤ (S.sp k.toNat).out.length then 20 else 0
def sntS (S : Lo) (k n s : Int) (e : Bool) (now : Int) : Lo := if sntE S k n s now = 0 then ({ S with now := now } : Lo).put k.toNat (sendS (S.sp k.toNat) ⟨n, s, now, e⟩) else S

theorem chE_zero {S : Lo} {k now : Int} (h : chE S k now = 0) : 0 ≤ k ∧ k < 3 ∧ S.now ≤ now ∧ now ≤ 1099511627776 := by
  unfold chE at h
  by_cases h1 : 0 ≤ k ∧ k < 3
  · have e : spE k = 0 := by unfold spE; rw [if_pos h1]
    rw [if_pos e] at h
    unfold ckE at h
    by_cases h2 : S.now ≤ now ∧ now ≤ 1099511627776
    · omega
    · rw [if_neg h2] at h; omega
  · have e : spE k = 110 := by unfold spE; rw [if_neg h1]
    rw [e, if_neg (by omega)] at h; omega
theorem gs_srt {l : List Spn} (h : Srt l) : -1 ≤ gs l ∧ gs l ≤ 4611686018427387903 := by
  induction l with
  | nil => unfold gs; simp
  | cons x r ih =>
    obtain ⟨h0, h1, h2, _, h4⟩ := h
    cases r with
    | nil => unfold gs; simp; omega
    | cons y r => have := ih h4; unfold gs at *; simpa using this

set_option maxHeartbeats 2000000 in
theorem sent_any {N : Nat} {w : World} {rb : Nat} {r : Nat → Sv} {S : Lo} (h : La w rb r S) (hO : Ok N S) (hN : N ≤ 4398046511103) (k n s : Int) (el : Bool) (now : Int) :
    Calls Try.prog 13 #[.pointer (some ⟨rb, 0, none⟩), .int .i64 k, .int .i64 n, .int .i64 s, .bool el, .int .i64 now] w fun e w' => e = .returned (.int .i64 (sntE S k n s now)) ∧ ∃ r', Wr w w' rb r r' (sntS S k n s el now) := by
  have A := hid (check_any h k now)
  have H := hid h
  have HO := hid hO
  by_cases hc : chE S k now = 0
  · obtain ⟨k0, k1, n0, n1⟩ := chE_zero hc
    obtain ⟨j, rfl⟩ : ∃ j : Nat, k = (j : Int) := ⟨k.toNat, by omega⟩
    have hj : j < 3 := by omega
    have hk3 : (j : Int) < 3 := by omega
    have HE := hid (show sntE S j n s now = if badP S j n s then 111 else if 4096 ≤ (S.sp j).out.length then 20 else 0 by unfold sntE; rw [if_neg (by simp [hc])]; simp)
    have HS := hid (show sntS S j n s el now = if sntE S j n s now = 0 then ({ S with now := now } : Lo).put j (sendS (S.sp j) ⟨n, s, now, el⟩) else S by unfold sntS; simp)
    rw [hc] at A
    have G := hid (great_any h hj)
    clear h hO hc k0 k1 n0 n1
    have hb : ¬ badP S j n s → n ≤ gs (S.sp j).sent → False := by intro h1 h2; exact h1 (.inl h2)
    by_cases hbad : badP S j n s
    · have HEE := hid (show sntE S j n s now = 111 by rw [HE.out, if_pos hbad])
      have HSS := hid (show sntS S j n s el now = S by rw [HS.out, HEE.out, if_neg (by omega)])
      clear hb
      by_cases h1 : n ≤ gs (S.sp j).sent
      · have d1 : decide (n ≤ gs (S.sp j).sent) = true := by simp [h1]
        clear hbad h1
        clear HE HS
        generalize gs (S.sp j).sent = gg at *
        go_enter Try.func13, Try.ntmps13
        go_wp2_with fail
        refine A.out.mono ?_
        rintro e w1 ⟨rfl, rfl⟩
        go_wp2_with fail
        refine G.out.mono ?_
        rintro e w1 ⟨rfl, m, rfl⟩
        go_wp2
        go_ret
        exact ⟨ret_int HEE.out.symm, r, by rw [HSS.out]; exact Wr.ofQ H.out ((Q.refl w).drewN m)⟩
      · have d1 : decide (n ≤ gs (S.sp j).sent) = false := by simp [h1]
        by_cases h2 : 4611686018427387903 < n
        · have d2 : decide (4611686018427387903 < n) = true := by simp [h2]
          clear hbad h1 h2
          clear HE HS
          generalize gs (S.sp j).sent = gg at *
          go_enter Try.func13, Try.ntmps13
          go_wp2_with fail
          refine A.out.mono ?_
          rintro e w1 ⟨rfl, rfl⟩
          go_wp2_with fail
          refine G.out.mono ?_
          rintro e w1 ⟨rfl, m, rfl⟩
          go_wp2
          go_ret
          exact ⟨ret_int HEE.out.symm, r, by rw [HSS.out]; exact Wr.ofQ H.out ((Q.refl w).drewN m)⟩
        · have d2 : decide (4611686018427387903 < n) = false := by simp [h2]
          by_cases h3 : s < 0
          · have d3 : decide (s < 0) = true := by simp [h3]
            clear hbad h1 h2 h3
            clear HE HS
            generalize gs (S.sp j).sent = gg at *
            go_enter Try.func13, Try.ntmps13
            go_wp2_with fail
            refine A.out.mono ?_
            rintro e w1 ⟨rfl, rfl⟩
            go_wp2_with fail
            refine G.out.mono ?_
            rintro e w1 ⟨rfl, m, rfl⟩
            go_wp2
            go_ret
            exact ⟨ret_int HEE.out.symm, r, by rw [HSS.out]; exact Wr.ofQ H.out ((Q.refl w).drewN m)⟩
          · have d3 : decide (s < 0) = false := by simp [h3]
            have d4 : decide (65535 < s) = true := by simp; simp only [badP] at hbad; omega
            clear hbad h1 h2 h3
            clear HE HS
            generalize gs (S.sp j).sent = gg at *
            go_enter Try.func13, Try.ntmps13
            go_wp2_with fail
            refine A.out.mono ?_
            rintro e w1 ⟨rfl, rfl⟩
            go_wp2_with fail
            refine G.out.mono ?_
            rintro e w1 ⟨rfl, m, rfl⟩
            go_wp2
            go_ret
            exact ⟨ret_int HEE.out.symm, r, by rw [HSS.out]; exact Wr.ofQ H.out ((Q.refl w).drewN m)⟩
    · have d1 : decide (n ≤ gs (S.sp j).sent) = false := by simp only [badP] at hbad; simp; omega
      have d2 : decide (4611686018427387903 < n) = false := by simp only [badP] at hbad; simp; omega
      have d3 : decide (s < 0) = false := by simp only [badP] at hbad; simp; omega
      have d4 : decide (65535 < s) = false := by simp only [badP] at hbad; simp; omega
      have hlen := (H.out.rs.o j hj).len
      have hgr := gs_srt (HO.out.sp j hj).srt
      have hfew := (HO.out.sp j hj).few
      have hmany := (HO.out.sp j hj).many
      by_cases h5 : 4096 ≤ (S.sp j).out.length
      · have HEE := hid (show sntE S j n s now = 20 by rw [HE.out, if_neg hbad, if_pos h5])
        have HSS := hid (show sntS S j n s el now = S by rw [HS.out, HEE.out, if_neg (by omega)])
        have d5 : decide ((4096 : Int) ≤ ((r (2 * j)).n : Int)) = true := by simp; omega
        have d5' : 4096 ≤ (r (2 * j)).n := by omega
        clear hb hbad h5 hgr hfew hmany hlen
        clear HE HS
        generalize gs (S.sp j).sent = gg at *
        go_enter Try.func13, Try.ntmps13
        go_wp2_with fail
        refine A.out.mono ?_
        rintro e w1 ⟨rfl, rfl⟩
        go_wp2_with fail
        refine G.out.mono ?_
        rintro e w1 ⟨rfl, m, rfl⟩
        have c0 := (H.out.q ((Q.refl w).drewN m)).hd.out hj
        go_wp2
        go_ret
        exact ⟨ret_int HEE.out.symm, r, by rw [HSS.out]; exact Wr.ofQ H.out ((Q.refl w).drewN m)⟩
      · have HEE := hid (show sntE S j n s now = 0 by rw [HE.out, if_neg hbad, if_neg h5])
        have HSS := hid (show sntS S j n s el now = ({ S with now := now } : Lo).put j (sendS (S.sp j) ⟨n, s, now, el⟩) by rw [HS.out, HEE.out, if_pos rfl])
        have d5 : decide ((4096 : Int) ≤ ((r (2 * j)).n : Int)) = false := by simp; omega
        have d5' : ¬ 4096 ≤ (r (2 * j)).n := by omega
        have HGR := hid hgr
        have HFW := hid hfew
        have HMN := hid hmany
        have HNN := hid hN
        clear hb hbad h5 hgr hfew hmany hlen hN
        clear HE HS
        generalize hgg : gs (S.sp j).sent = gg at *
        have HGG := hid hgg
        clear hgg
        go_enter Try.func13, Try.ntmps13
        go_wp2_with fail
        refine A.out.mono ?_
        rintro e w1 ⟨rfl, rfl⟩
        go_wp2_with fail
        refine G.out.mono ?_
        rintro e w1 ⟨rfl, m, rfl⟩
        have hL := H.out.q ((Q.refl w).drewN m)
        have c0 := hL.hd.out hj
        have c1 := hL.hd.c1
        have f1 := hL.hd.free 1
        have W1 := hid (Wr.ql ((Q.refl w).drewN m) H.out (hL.setHd 1 (.int .i64 now) (hL.hd.now_ now) (fun i hi => ⟨rfl, rfl⟩)))
        clear hL
        generalize w.drewN m = wm at *
        go_wp2_with fail
        refine (send_any W1.out.la hj ⟨n, s, now, el⟩ HFW.out (by have := HMN.out; have := HNN.out; show (S.sp j).sent.length ≤ _; omega) (by show -1 ≤ gs (S.sp j).sent; rw [HGG.out]; exact HGR.out.1) (by show gs (S.sp j).sent ≤ _; rw [HGG.out]; exact HGR.out.2)).mono ?_
        rintro e w2 ⟨rfl, r2, W2⟩
        have W2h := hid (W1.out.trans W2)
        clear W2
        go_wp2
        go_ret
        exact ⟨ret_int HEE.out.symm, r2, by rw [HSS.out]; exact W2h.out⟩
  · have HE := hid (show sntE S k n s now = chE S k now by unfold sntE; rw [if_pos hc])
    have HS := hid (show sntS S k n s el now = S by unfold sntS; rw [HE.out, if_neg hc])
    have hb : (chE S k now != 0) = true := by simpa using hc
    have hb2 : (chE S k now == 0) = false := by simpa using hc
    clear h hO hc
    go_enter Try.func13, Try.ntmps13
    go_wp2_with fail
    refine A.out.mono ?_
    rintro e w1 ⟨rfl, rfl⟩
    generalize chE S k now = q at *
    go_wp2
    go_ret
    exact ⟨ret_int HE.out.symm, r, by rw [HS.out]; exact Wr.refl H.out⟩

/-- Behind a Sent what holds of all packets holds. -/
theorem srt_mem {l : List Spn} (h : Srt l) : ∀ x ∈ l, 0 ≤ x.1 ∧ x.1 ≤ x.2 ∧ x.2 ≤ gs l := by
  induction l with
  | nil => intro x hx; cases hx
  | cons y r ih =>
    obtain ⟨h0, h1, h2, h3, h4⟩ := h
    have e : gs (y :: r) = if r = [] then y.2 else gs r := by
      cases r with
      | nil => simp [gs]
      | cons z r => simp [gs]
    intro x hx
    rcases List.mem_cons.1 hx with rfl | hx
    · rw [e]
      split
      · exact ⟨h0, h1, Int.le_refl _⟩
      · rename_i hne
        obtain ⟨z, hz⟩ := List.exists_mem_of_ne_nil r hne
        have := h3 z hz
        have := ih h4 z hz
        omega
    · have := ih h4 x hx
      rw [e, if_neg (List.ne_nil_of_mem hx)]
      exact this
theorem srt_append {l : List Spn} {a b : Int} (h : Srt l) (h0 : gs l < a) (hab : a ≤ b) (hb : b ≤ 4611686018427387903) (ha : 0 ≤ a) : Srt (l ++ [(a, b)]) := by
  induction l with
  | nil => exact ⟨ha, hab, hb, (fun y hy => by cases hy), trivial⟩
  | cons y r ih =>
    have hm := srt_mem h
    obtain ⟨h1, h2, h3, h4, h5⟩ := h
    have e : gs (y :: r) = if r = [] then y.2 else gs r := by
      cases r with
      | nil => simp [gs]
      | cons z r => simp [gs]
    refine ⟨h1, h2, h3, fun z hz => ?_, ih h5 ?_⟩
    · rcases List.mem_append.1 hz with hz | hz
      · exact h4 z hz
      · rw [List.mem_singleton.1 hz]; have := hm y List.mem_cons_self; simp only; omega
    · by_cases hr : r = []
      · subst hr; simp [gs]; omega
      · rw [e, if_neg hr] at h0; exact h0
theorem srt_drop {l : List Spn} {x : Spn} (h : Srt (l ++ [x])) : Srt l ∧ (l = [] ∨ gs l < x.1) := by
  induction l with
  | nil => exact ⟨trivial, .inl rfl⟩
  | cons y r ih =>
    obtain ⟨h1, h2, h3, h4, h5⟩ := h
    have := ih h5
    refine ⟨⟨h1, h2, h3, fun z hz => h4 z (List.mem_append_left _ hz), this.1⟩, .inr ?_⟩
    cases r with
    | nil => simp [gs]; exact h4 x (by simp)
    | cons z r =>
      rcases this.2 with e | e
      · cases e
      · simpa [gs] using e
theorem sentL_srt {l : List Spn} {n : Int} (h : Srt l) (h0 : gs l < n) (hn : n ≤ 4611686018427387903) (h1 : 0 ≤ n) : Srt (sentL l n) ∧ (sentL l n).length ≤ l.length + 1 ∧ gs (sentL l n) = n := by
  unfold sentL
  split
  · rename_i hc
    have e1 : l = l.dropLast ++ [l.getLast?.getD (0, 0)] := by
      rw [List.getLast?_eq_some_getLast hc.1, Option.getD_some]; exact (List.dropLast_concat_getLast hc.1).symm
    have hl : l.dropLast.length ≤ l.length := by simp
    have hx : l.getLast?.getD (0, 0) ∈ l := by rw [List.getLast?_eq_some_getLast hc.1, Option.getD_some]; exact List.getLast_mem _
    have hm := srt_mem h _ hx
    generalize l.dropLast = y at *
    generalize l.getLast?.getD (0, 0) = x at *
    have hd := srt_drop (e1 ▸ h)
    refine ⟨srt_append hd.1 ?_ (by omega) hn (by omega), by simp; omega, by simp [gs]⟩
    rcases hd.2 with e | e
    · subst e; simp [gs]; omega
    · exact e
  · exact ⟨srt_append h h0 (Int.le_refl _) hn h1, by simp, by simp [gs]⟩

theorem Pok.later {now now' : Int} {p : Pk} (h : Pok now p) (e : now ≤ now') : Pok now' p := ⟨h.n0, h.n1, h.s0, h.s1, h.a0, Int.le_trans h.a1 e⟩
theorem Cok.later {now now' : Int} {N N' : Nat} {c : Sc} (h : Cok now N c) (e : now ≤ now') (e2 : N ≤ N') : Cok now' N' c :=
  ⟨fun p hp => (h.out p hp).later e, h.few, h.srt, Nat.le_trans h.many e2, h.ack0, h.ack1, h.last0, h.last1, h.lt0, h.lt1⟩
theorem Ok.more {N N' : Nat} {S : Lo} (h : Ok N S) (e : N ≤ N') : Ok N' S :=
  ⟨h.most0, h.most1, h.now0, h.now1, h.win0, by have := h.win1; omega, h.thr0, h.thr1, h.rcv0, h.rcv1, h.prb0, h.prb1, h.lat0, h.lat1, h.lea0, h.lea1, h.smo0, h.smo1, h.var0, h.var1, fun k hk => (h.sp k hk).later (Int.le_refl _) e⟩
theorem ok_now {N : Nat} {S : Lo} (h : Ok N S) {now : Int} (e : S.now ≤ now) (e2 : now ≤ 1099511627776) : Ok N { S with now := now } :=
  ⟨h.most0, h.most1, by have := h.now0; simp only; omega, e2, h.win0, h.win1, h.thr0, h.thr1, h.rcv0, h.rcv1, h.prb0, h.prb1, h.lat0, h.lat1, h.lea0, h.lea1, h.smo0, h.smo1, h.var0, h.var1, fun k hk => (h.sp k hk).later e (Nat.le_refl _)⟩
theorem ok_put' {N N' : Nat} {S : Lo} (h : Ok N S) (e : N ≤ N') {k : Nat} {c : Sc} (hc : Cok S.now N' c) (hw : S.win + 65536 * (tot (S.put k c) : Int) ≤ 12000 + 65536 * (N' : Int)) : Ok N' (S.put k c) :=
  ⟨h.most0, h.most1, h.now0, h.now1, h.win0, hw, h.thr0, h.thr1, h.rcv0, h.rcv1, h.prb0, h.prb1, h.lat0, h.lat1, h.lea0, h.lea1, h.smo0, h.smo1, h.var0, h.var1, fun i hi => by
    by_cases e1 : i = k
    · subst e1; rw [put_sp]; exact hc
    · simp only [Lo.put, upd_other S.sp _ e1]; exact (h.sp i hi).later (Int.le_refl _) e⟩
theorem ok_put {N : Nat} {S : Lo} (h : Ok N S) {k : Nat} (hk : k < 3) {c : Sc} (hc : Cok S.now N c) (hl : c.out.length ≤ (S.sp k).out.length) : Ok N (S.put k c) :=
  ok_put' h (Nat.le_refl _) hc (by have := tot_put S hk c; have := h.win1; omega)
theorem ok_sent {N : Nat} {S : Lo} (h : Ok N S) (k n s : Int) (el : Bool) (now : Int) : Ok (N + 1) (sntS S k n s el now) := by
  unfold sntS
  split
  · rename_i h0
    have hc : chE S k now = 0 := by
      unfold sntE at h0
      split at h0
      · exact h0
      · rename_i h1; simpa using h1
    obtain ⟨k0, k1, n0, n1⟩ := chE_zero hc
    unfold sntE at h0
    rw [if_neg (by simp [hc])] at h0
    by_cases hb : badP S k.toNat n s
    · rw [if_pos hb] at h0; omega
    · rw [if_neg hb] at h0
      by_cases hf : 4096 ≤ (S.sp k.toNat).out.length
      · rw [if_pos hf] at h0; omega
      · have hk : k.toNat < 3 := by omega
        have hC := h.sp k.toNat hk
        have hg := gs_srt hC.srt
        have hS := ok_now h n0 n1
        simp only [badP] at hb
        have hL := sentL_srt (n := n) hC.srt (by omega) (by omega) (by omega)
        have hn0 := h.now0
        refine ok_put' hS (Nat.le_succ N) ⟨?_, ?_, hL.1, ?_, hC.ack0, hC.ack1, ?_, ?_, hC.lt0, hC.lt1⟩ ?_
        · intro p hp
          rcases List.mem_append.1 hp with hp | hp
          · exact (hC.out p hp).later n0
          · rw [List.mem_singleton.1 hp]
            unfold sendP
            split
            · exact ⟨by simp only; omega, by simp only; omega, by simp only; omega, by simp only; omega, by simp only; omega, by simp only; omega⟩
            · exact ⟨by simp only; omega, by simp only; omega, by simp only; omega, by simp only; omega, by simp only; omega, by simp only; omega⟩
        · simp only [sendS, List.length_append, List.length_cons, List.length_nil]; omega
        · have := hL.2.1; have := hC.many; simp only [sendS]; omega
        · have := hC.last0; simp only [sendS]; split <;> omega
        · have := hC.last1; simp only [sendS]; split <;> omega
        · have h1 := tot_put ({ S with now := now } : Lo) hk (sendS (S.sp k.toNat) ⟨n, s, now, el⟩)
          have h2 := h.win1
          have h3 : (sendS (S.sp k.toNat) ⟨n, s, now, el⟩).out.length = (S.sp k.toNat).out.length + 1 := by simp [sendS]
          have h4 : tot ({ S with now := now } : Lo) = tot S := rfl
          simp only at h1 ⊢
          omega
  · exact h.more (Nat.le_succ N)
end Go.Proofs.Ytjhihcmemnhbbaa
