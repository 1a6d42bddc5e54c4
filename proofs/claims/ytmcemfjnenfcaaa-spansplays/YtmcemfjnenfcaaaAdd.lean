/-
  What Add does to a set: a contract that the statements' walks use.
-/
import Derived.Test.YtmcemfjnenfcaaaRep
import Derived.Test.YtmcemfjnenfcaaaKeep
import Derived.Test.YtmcemfjnenfcaaaShared
import Derived.Deep.RegionHeld3
namespace Go.Proofs.Ytmcemfjnenfcaaa
open Go.RowKit
set_option linter.unusedVariables false

set_option maxHeartbeats 1000000 in
theorem add_bad (rb : Nat) (f t : Int) (w : World) (h : f < 0 ∨ t < f ∨ 4611686018427387903 < t) :
    Calls Try.prog 15 #[.pointer (some ⟨rb, 0, none⟩), .int .i64 f, .int .i64 t] w fun e w' => e = .returned (.tuple #[.int .i64 0, .int .i64 21]) ∧ w = w' := by
  by_cases h1 : f < 0
  · have hb : decide (f < 0) = true := by simp [h1]
    go_enter Try.func15, Try.ntmps15
    go_wp2
    go_ret2
    exact ⟨rfl, rfl⟩
  · have hb : decide (f < 0) = false := by simp [h1]
    by_cases h2 : t < f
    · have hb2 : decide (t < f) = true := by simp [h2]
      go_enter Try.func15, Try.ntmps15
      go_wp2
      go_ret2
      exact ⟨rfl, rfl⟩
    · have hb2 : decide (t < f) = false := by simp [h2]
      have hc : (4611686018427387903 : Int) < t := by omega
      go_enter Try.func15, Try.ntmps15
      go_wp2
      go_ret2
      exact ⟨rfl, rfl⟩

set_option maxHeartbeats 1000000 in
theorem add_low (rb : Nat) (most floor : Int) (a : Option Addr) (n c : Nat) (f t : Int) (w : World) (hr : Hd w 54 rb most floor a n c) (h0 : 0 ≤ f) (h1 : f ≤ t) (h2 : t ≤ 4611686018427387903) (h3 : t < max f floor) :
    Calls Try.prog 15 #[.pointer (some ⟨rb, 0, none⟩), .int .i64 f, .int .i64 t] w fun e w' => e = .returned (.tuple #[.int .i64 0, .int .i64 0]) ∧ w = w' := by
  have c1 := hr.c1
  have hb : decide (f < 0) = false := by simp; omega
  have hb2 : decide (t < f) = false := by simp; omega
  have hc : ¬ (4611686018427387903 : Int) < t := by omega
  clear hr
  go_enter Try.func15, Try.ntmps15
  go_wp2
  go_ret2
  exact ⟨rfl, rfl⟩

theorem One.c0 {w : World} {b : Nat} {p : Sp} (h : One w b p) : w.cell? ⟨b, 0, none⟩ = some (.int .i64 p.1) := by rw [cell_of_row w b 0 _ 49 (0, 0) h]; rfl
theorem One.c1 {w : World} {b : Nat} {p : Sp} (h : One w b p) : w.cell? ⟨b, 1, none⟩ = some (.int .i64 p.2) := by rw [cell_of_row w b 1 _ 49 (0, 0) h]; rfl
theorem One.free {w : World} {b : Nat} {p : Sp} (h : One w b p) (j : Nat) : w.frozen? ⟨b, j, none⟩ = false := frozen_of_row w b j _ 49 h
theorem One.set {w : World} {b : Nat} {p : Sp} (h : One w b p) (u v : Int) : One ((w.setCell ⟨b, 0, none⟩ (.int .i64 u)).setCell ⟨b, 1, none⟩ (.int .i64 v)) b (u, v) := by
  have h1 := heap_setCell_same w b 0 _ 49 (.int .i64 u) h
  have h2 := heap_setCell_same _ b 1 _ 49 (.int .i64 v) h1
  simpa [One] using h2
theorem one_new (w : World) (p : Sp) : One (w.alloc (.cells #[.int .i64 p.1, .int .i64 p.2] 49 (0, 0))) w.heap.size p := heap_alloc_new w _
theorem One.lt {w : World} {b : Nat} {p : Sp} (h : One w b p) : b < w.heap.size := lt_of_block h

theorem mid_len (f t : Int) (xs : List Sp) : (midL f t xs).length = nM f t xs := by
  have := nM_le f t xs
  unfold midL
  rw [List.length_take, List.length_drop]
  omega
theorem mid_get (f t : Int) (xs : List Sp) (k : Nat) (hk : k < nM f t xs) : (midL f t xs).getD k (0, 0) = xs.getD (nA f xs + k) (0, 0) := by
  unfold midL
  rw [List.getD_eq_getElem?_getD, List.getD_eq_getElem?_getD, List.getElem?_take, if_pos hk, List.getElem?_drop]
theorem mid_cel {w : World} {b : Nat} {f t : Int} {xs : List Sp} (h : Cel w b 0 xs) : Cel w b (nA f xs * 2) (midL f t xs) := by
  intro i hi
  rw [mid_len] at hi
  have := nM_le f t xs
  have hc := h (nA f xs + i) (by omega)
  rw [mid_get f t xs i hi]
  rw [show 0 + (nA f xs + i) * 2 = nA f xs * 2 + i * 2 by omega, show 0 + ((nA f xs + i) * 2 + 1) = nA f xs * 2 + (i * 2 + 1) by omega] at hc
  exact hc
theorem ovs_drop (y : Sp) (xs : List Sp) (k : Nat) : ovs y (xs.drop k) ≤ ovs y xs := by
  have h := ovs_append y (xs.take k) (xs.drop k)
  rw [List.take_append_drop] at h
  have := ovs_pos y (xs.take k)
  omega

theorem add_fin {w wr u w5 : World} {rb n c N c' : Nat} {a a' : Option Addr} {most floor : Int} {xs Y : List Sp} (KQ : Q w wr) (Qu : Q wr u) (Sr : St wr rb a n c most floor xs) (hk5 : Keep (fun b => blk a = some b) u w5) (ho5 : Own w5 0 a' N c' Y)
    (hb5 : blk a' = blk a ∨ blk a' = some u.heap.size) :
    St (w5.setCell ⟨rb, 2, none⟩ (.slice a' N c')) rb a' N c' most floor Y ∧ (blk a' = blk a ∨ ∀ b, blk a' = some b → w.heap.size ≤ b) ∧ ∀ w6, Keep (Fp rb a') (w5.setCell ⟨rb, 2, none⟩ (.slice a' N c')) w6 → Keep (Fp rb a) w w6 := by
  have hd5 : Hd w5 54 rb most floor a n c := (Sr.hd.q Qu).keep hk5 (fun e => Sr.ne e)
  have s1 := KQ.size
  have s2 := Qu.size
  have hlt := Sr.hd.lt
  have hfr : blk a' = blk a ∨ ∀ b, blk a' = some b → w.heap.size ≤ b := by
    rcases hb5 with h | h
    · exact .inl h
    · refine .inr (fun b hb => ?_)
      rw [h] at hb
      cases hb
      omega
  have hne : blk a' ≠ some rb := by
    rcases hb5 with h | h
    · rw [h]; exact Sr.ne
    · rw [h]
      intro e
      cases e
      omega
  refine ⟨St.list_ hd5 ho5 hne, hfr, fun w6 h6 => ?_⟩
  have k5 : Keep (Fp rb a) w w5 := (Keep.ofQ (KQ.trans Qu)).trans (hk5.mono (fun i _ e => .inr e))
  refine (k5.setCell rb 2 _ (.inl (.inl rfl))).trans' h6 ?_
  intro i hi hF
  rcases hF with e | e
  · exact .inl e
  · rcases hfr with h | h
    · exact .inr (by rw [← h]; exact e)
    · have := h i e; omega

set_option maxHeartbeats 8000000 in
set_option maxRecDepth 100000 in
theorem add_lay (rb : Nat) (a : Option Addr) (n c : Nat) (most floor : Int) (xs : List Sp) (fr t : Int) (w : World) (hs : St w rb a n c most floor xs) (hok : Ok most floor xs) (h0 : 0 ≤ fr) (h1 : fr ≤ t) (h2 : t ≤ 4611686018427387903) (h3 : max fr floor ≤ t) :
    Calls Try.prog 15 #[.pointer (some ⟨rb, 0, none⟩), .int .i64 fr, .int .i64 t] w fun e w' => e = .returned (.tuple #[.int .i64 (t - max fr floor + 1 - ovs (max fr floor, t) (midL (max fr floor) t xs)), .int .i64 0]) ∧
      (∃ a' n' c', St w' rb a' n' c' most (fitF most floor (merged (max fr floor) t xs)) (fitL most (merged (max fr floor) t xs)) ∧ (blk a' = blk a ∨ ∀ b, blk a' = some b → w.heap.size ≤ b)) ∧ Keep (Fp rb a) w w' := by
  have c1 := hs.hd.c1
  have hb : decide (fr < 0) = false := by simp; omega
  have hb2 : decide (t < fr) = false := by simp; omega
  have hc : ¬ (4611686018427387903 : Int) < t := by omega
  have h4 : ¬ t < max fr floor := by omega
  have hlen := hok.len
  have hm1 := hok.m1
  have hl := hs.len
  have f0 := hok.f0
  have hn : n ≤ 64 := by omega
  have hlt := hs.hd.lt
  have HN := hid (near_any rb most floor a n c xs w (max fr floor) t hs.hd hs.own.seg hl (by omega) (by omega) (by omega) (by omega) (by omega))
  have HS := hid hs
  have HO := hid hok
  clear hs hok hlen hm1
  go_enter Try.func15, Try.ntmps15
  go_wp2_with fail
  have g0 : 0 ≤ max fr floor := by omega
  have g1 : floor ≤ max fr floor := by omega
  generalize hf : max fr floor = f at *
  have HF := hid hf
  clear hf
  refine HN.out.mono ?_
  rintro e w1 ⟨rfl, rfl⟩
  clear HN c1 hb hb2 hc h4
  have hnm := nM_le f t xs
  rw [hl] at hnm
  have HML := hid (mid_len f t xs)
  have HMC := hid (fun (u : World) (b : Nat) (h : Cel u b 0 xs) => mid_cel (f := f) (t := t) h)
  have HMA := hid (show Ap floor (midL f t xs) from (HO.out.ap.drop _).take _)
  have HMG := hid (show merged f t xs = xs.take (nA f xs) ++ jn (f, t) (midL f t xs) :: xs.drop (nA f xs + nM f t xs) from rfl)
  have HAP := hid (merged_ap HO.out.ap g1 h3 h2)
  have HLN := hid (show (merged f t xs).length ≤ 100 from by have := merged_len f t xs; omega)
  have HPS := hid (merged_pos f t xs)
  generalize nA f xs = i at *
  generalize nM f t xs = m at *
  generalize hM : midL f t xs = M at *
  generalize hY : merged f t xs = Y at *
  have HM := hid hM
  have HY := hid hY
  clear hM hY
  go_wp2_with fail
  have SA := hid (HS.out.q ((Q.refl w).alloc (.cells #[.int .i64 f, .int .i64 t] 49)))
  have OA := hid (one_new w (f, t))
  refine (length_any (f, t) _ (by simp only; omega) (by simp only; omega) (by simp only; omega) (by simp only; omega)).mono ?_
  rintro e w2 ⟨rfl, hq2⟩
  have S2 := hid (SA.out.q hq2)
  have A2 := hid (OA.out.q hq2)
  have K2 := hid ((Q.refl w).alloc (.cells #[.int .i64 f, .int .i64 t] 49) |>.trans hq2)
  have ca0 := A2.out.c0
  have ca1 := A2.out.c1
  have hAl := A2.out.lt
  simp only [] at ca0 ca1
  clear SA OA hq2
  have c2 := S2.out.hd.c2
  have hrb2 := S2.out.hd.lt
  have hnc : n ≤ c := by
    rcases S2.out.own.row with ⟨_, e1, e2, _⟩ | ⟨g, cur, _, _, _, e1, _⟩
    · omega
    · exact e1
  have hcm : (c : Int) ≤ 9223372036854775807 := by
    rcases S2.out.own.row with ⟨_, e1, e2, _⟩ | ⟨g, cur, _, _, _, _, e1, _⟩
    · omega
    · unfold maxLen at e1; omega
  have hi0 : (0 : Int) ≤ (i : Int) + (m : Int) := by omega
  have hi1 : (i : Int) + (m : Int) ≤ (c : Int) := by omega
  have hi2 : (i : Int) ≤ (i : Int) + (m : Int) := by omega
  have htn : ((i : Int) + (m : Int)).toNat = i + m := by omega
  rcases Nat.lt_or_ge i c with hic | hic
  case' inl =>
    have hci : ¬ c = i := by omega
    obtain ⟨b, hab⟩ : ∃ b, a = some ⟨b, 0, none⟩ := by
      rcases S2.out.own.row with ⟨_, e1, e2, _⟩ | ⟨g, cur, e1, _⟩
      · omega
      · exact ⟨g, e1⟩
    subst hab
    have hm0 : Hid True := hid trivial
    go_wp2
  case' inr =>
    have hci : (c = i) = True := by simp; omega
    have hm0 := hid (show m = 0 by omega)
    obtain ⟨b, hab⟩ : ∃ b : Nat, Hid True := ⟨0, hid trivial⟩
    go_wp2
  all_goals
    have S3 := hid (S2.out.q ((Q.refl w2).alloc (.cells #[.int .i64 f, .int .i64 t] 49)))
    have A3 := hid (A2.out.q ((Q.refl w2).alloc (.cells #[.int .i64 f, .int .i64 t] 49)))
    have J3 := hid (one_new w2 (f, t))
    have K3 := hid (K2.out.trans ((Q.refl w2).alloc (.cells #[.int .i64 f, .int .i64 t] 49)))
    have hJA : w.heap.size < w2.heap.size := hAl
    have hrj : rb < w2.heap.size := hrb2
    have HBJ := hid (fun b' h => (S2.out.own.lt b' h).2)
    clear S2 A2 K2 ca0 ca1 c2 hrb2 hAl
    generalize w2.alloc (.cells #[.int .i64 f, .int .i64 t] 49) = w3 at *
    generalize w2.heap.size = jb at *
    generalize hab0 : w.heap.size = ab at *
    have HJJ := hid (show ∃ jj, jn (f, t) M = jj from ⟨_, rfl⟩)
    go_loopw [6, 55] (fun v6 v55 wr => ∃ k : Nat, ∃ j : Sp, k ≤ m ∧ v55 = .int .i64 k ∧ v6 = .int .i64 (t - f + 1 - ovs (f, t) M + ovs (f, t) (M.drop k)) ∧ jn j (M.drop k) = jn (f, t) M ∧ One wr jb j ∧ Keep (fun x => x = jb) w3 wr) (fun _ i _ => m - (intOf i).toNat)
    case atStart => exact ⟨0, (f, t), Nat.zero_le _, rfl, by simp, rfl, J3.out, Keep.refl _ _⟩
    case round =>
      obtain ⟨k, j, hk, rfl, rfl, hj, h1j, hkeep⟩ := hrel
      have HJ := hid hj
      have OJ := hid h1j
      have KP := hid hkeep
      clear hj h1j hkeep
      by_cases hkm : k < m
      · first
        | (exfalso; have := hm0.out; omega)
        | (have Sr := hid (S3.out.keep KP.out (by omega) (fun b' h e => by have := HBJ.out b' h; omega))
           have Ar := hid (A3.out.keep KP.out (by omega))
           have hcel := HMC.out wr b (by
             obtain ⟨b', e, hcl, _⟩ := Sr.out.cells (by omega)
             cases e
             exact hcl)
           obtain ⟨d0, d1, d2⟩ := hcel.at_ HML.out hkm
           have HD := hid (drop_cons (xs := M) (k := k) (by rw [HML.out]; exact hkm))
           have hmem : M.getD k (0, 0) ∈ M := by
             rw [List.getD_eq_getElem?_getD, List.getElem?_eq_getElem (by rw [HML.out]; exact hkm)]; simp
           have hyb := HMA.out.mem _ hmem
           have hlt' : (k : Int) < (m : Int) := by omega
           have ca0 := Ar.out.c0
           have ca1 := Ar.out.c1
           simp only [] at ca0 ca1
           have hal := Ar.out.lt
           have hjl := OJ.out.lt
           have e6 : ovs (f, t) (M.drop k) = ov (f, t) (M.getD k (0, 0)) + ovs (f, t) (M.drop (k + 1)) := by rw [HD.out]; rfl
           have e7 := ovs_drop (f, t) M k
           have e8 := ovs_fit f t M floor HMA.out h3
           have e9 := ovs_pos (f, t) (M.drop (k + 1))
           have e10 := ov_pos (f, t) (M.getD k (0, 0))
           clear hcel hmem
           generalize M.getD k (0, 0) = y at *
           have HV := hid (show t - f + 1 - ovs (f, t) M + ovs (f, t) (M.drop k) - ov (f, t) y = t - f + 1 - ovs (f, t) M + ovs (f, t) (M.drop (k + 1)) by omega)
           have hV0 : 0 ≤ t - f + 1 - ovs (f, t) M + ovs (f, t) (M.drop k) := by omega
           have hV1 : t - f + 1 - ovs (f, t) M + ovs (f, t) (M.drop k) ≤ 4611686018427387904 := by omega
           have ho1 : ov (f, t) y ≤ 4611686018427387904 := by omega
           generalize t - f + 1 - ovs (f, t) M + ovs (f, t) (M.drop k) = V at *
           clear e6 e7 e8 e9
           go_wp2_with fail
           have HQ0 := hid ((Q.refl wr).alloc (.cells #[.int .i64 y.1, .int .i64 y.2] 49))
           have Y0 := hid (one_new wr y)
           refine (shared_any y (f, t) _ (by omega) (by omega) (by omega) (by omega) (by simp only; omega) (by simp only; omega) (by simp only; omega) (by simp only; omega)).mono ?_
           rintro e wq ⟨rfl, hq⟩
           have HQ := hid (HQ0.out.trans hq)
           have Yq := hid (Y0.out.q hq)
           have Oq := hid ((OJ.out.q HQ0.out).q hq)
           have y0 := Yq.out.c0
           have y1 := Yq.out.c1
           have j0 := Oq.out.c0
           have j1 := Oq.out.c1
           have fj0 := Oq.out.free 0
           have fj1 := Oq.out.free 1
           have hjw : jb ≠ wr.heap.size := by omega
           clear hq d0 d1 d2 ca0 ca1
           generalize ov (f, t) y = o at *
           go_wp2
           go_roundw
           case rel =>
             refine ⟨k + 1, (min j.1 y.1, max j.2 y.2), by omega, by go_num, ?_, ?_, Oq.out.set _ _, ?_⟩
             · rw [← HV.out]
             · rw [← HJ.out, HD.out]; rfl
             · exact (((KP.out.trans (Keep.ofQ HQ.out)).setCell jb 0 _ (.inl rfl)).setCell jb 1 _ (.inl rfl))
           case measure => simp [intOf]; omega)
      · obtain rfl : k = m := by omega
        have ejn : j = jn (f, t) M := by
          rw [← HJ.out, List.drop_of_length_le (by rw [HML.out]; exact Nat.le_refl _)]; rfl
        have eov : t - f + 1 - ovs (f, t) M + ovs (f, t) (M.drop k) = t - f + 1 - ovs (f, t) M := by
          rw [List.drop_of_length_le (by rw [HML.out]; exact Nat.le_refl _)]; simp [ovs]
        have EJ := hid ejn
        have EV := hid eov
        clear ejn eov
        generalize t - f + 1 - ovs (f, t) M + ovs (f, t) (M.drop k) = V at *
        have Sr := hid (S3.out.keep KP.out (by omega) (fun b' h e => by have := HBJ.out b' h; omega))
        have KQ := hid (show Q w wr from ((Keep.ofQ (F := fun x => x = jb) K3.out).trans KP.out).toQ (fun i hi e => by omega))
        have hwr := KP.out.size
        have c2 := Sr.out.hd.c2
        have fr2 := Sr.out.hd.free 2
        have hrw := Sr.out.hd.lt
        have j0 := OJ.out.c0
        have j1 := OJ.out.c1
        have hjl := OJ.out.lt
        have HR := hid (fun (u : World) (hq : Q wr u) (ho : One u wr.heap.size j) => by
          have := replace_any 0 _ n c i (i + k) wr.heap.size xs j u (Sr.out.own.q hq) ho (fun e => by have := (Sr.out.own.lt _ e).2; omega) (by omega) (by omega) (by omega) (Nat.zero_le _)
          rw [Int.natCast_add] at this
          exact this)
        have QA := hid ((Q.refl wr).alloc (.cells #[.int .i64 j.1, .int .i64 j.2] 49))
        have c2a : (wr.alloc (.cells #[.int .i64 j.1, .int .i64 j.2] 49)).cell? ⟨rb, 2, none⟩ = some (.slice _ n c) := (Sr.out.hd.q QA.out).c2
        have fr2a := (Sr.out.hd.q QA.out).free 2
        have hrwa := (Sr.out.hd.q QA.out).lt
        clear S3 A3 J3 K3 hm0 HBJ
        go_wp2
        go_region_with (go_at_call 26; refine (HR.out _ (by repeat (first | exact Q.refl _ | apply Q.drewN | apply Q.drew | apply Q.alloc)) (by first | exact one_new wr j | exact (one_new wr j).q ((Q.refl _).drew))).mono ?_; rintro e w5 ⟨a', c', rfl, ho5, hb5, hk5⟩; have cc2 : w5.cell? ⟨rb, 2, none⟩ = some (.slice _ n c) := hk5.cell (by exact c2a) (fun e => Sr.out.ne e); have ff2 : w5.frozen? ⟨rb, 2, none⟩ = false := (World.frozen?_of_block (hk5.block rb (by exact hrwa) (fun e => Sr.out.ne e))).trans (by exact fr2a))
        all_goals
          have Qu := hid (show Q wr (wr.alloc (.cells #[.int .i64 j.1, .int .i64 j.2] 49)).drew from ((Q.refl wr).alloc _).drew)
          have hY5 : xs.take i ++ j :: xs.drop (i + k) = Y := by rw [EJ.out]; exact HMG.out.symm
          rw [hY5] at ho5
          obtain ⟨S5, hfr, hfin⟩ := add_fin (w := w) KQ.out Qu.out Sr.out hk5 ho5 hb5
          have hl5 := ho5.len
          have HS5 := hid S5
          have HFR := hid hfr
          have HFIN := hid hfin
          clear S5 hfr hfin ho5 hb5 hk5 cc2 ff2 c2a fr2a hrwa HR QA Qu
          generalize w5.setCell ⟨rb, 2, none⟩ (.slice a' (i + 1 + (n - (i + k))) c') = w6 at *
          go_wp2_with fail
          refine (keepMost_any rb a' _ c' most floor Y w6 HS5.out (by rw [← hl5]; exact HLN.out) (by rw [← hl5]; exact HPS.out) HAP.out f0).mono ?_
          rintro e w7 ⟨rfl, ⟨n7, h7⟩, k7⟩
          have H7 := hid h7
          have K7 := hid k7
          clear h7 k7
          go_wp2
          go_ret2
          rw [HF.out, HM.out, HY.out]
          refine ⟨by rw [← EV.out]; rfl, ⟨a', n7, c', H7.out, ?_⟩, HFIN.out _ K7.out⟩
          exact HFR.out

theorem add_any (rb : Nat) (a : Option Addr) (n c : Nat) (most floor : Int) (xs : List Sp) (f t : Int) (w : World) (hs : St w rb a n c most floor xs) (hok : Ok most floor xs) :
    Calls Try.prog 15 #[.pointer (some ⟨rb, 0, none⟩), .int .i64 f, .int .i64 t] w fun e w' => e = .returned (.tuple #[.int .i64 (adN floor f t xs), .int .i64 (adE f t)]) ∧
      (∃ a' n' c', St w' rb a' n' c' most (adF most floor f t xs) (adL most floor f t xs) ∧ (blk a' = blk a ∨ ∀ b, blk a' = some b → w.heap.size ≤ b)) ∧ Keep (Fp rb a) w w' := by
  unfold adN adF adL adE
  by_cases hb : f < 0 ∨ t < f ∨ 4611686018427387903 < t
  · have hl : ¬ lays floor f t := by unfold lays; omega
    rw [if_pos hb, if_neg hl, if_neg hl, if_neg hl]
    refine (add_bad rb f t w hb).mono ?_
    rintro e w' ⟨rfl, rfl⟩
    exact ⟨rfl, ⟨a, n, c, hs, .inl rfl⟩, Keep.refl _ _⟩
  · rw [if_neg hb]
    by_cases hl : lays floor f t
    · rw [if_pos hl, if_pos hl, if_pos hl]
      exact add_lay rb a n c most floor xs f t w hs hok (by omega) (by omega) (by omega) hl.2
    · rw [if_neg hl, if_neg hl, if_neg hl]
      refine (add_low rb most floor a n c f t w hs.hd (by omega) (by omega) (by omega) (by unfold lays at hl; omega)).mono ?_
      rintro e w' ⟨rfl, rfl⟩
      exact ⟨rfl, ⟨a, n, c, hs, .inl rfl⟩, Keep.refl _ _⟩

end Go.Proofs.Ytmcemfjnenfcaaa
