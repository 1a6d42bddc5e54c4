/-
  What a reading's ack does: a contract that the statements' walks use.
-/
import Derived.Test.YtdoodbaogmdloabAkd
import Derived.Deep.RegionHeld2
namespace Go.Proofs.Ytdoodbaogmdloab
open Go.RowKit
set_option linter.unusedVariables false
set_option maxRecDepth 20000

theorem Fbk.q {w u u' : World} {rk rb g : Nat} {b : Sv} {zs : List Int} {pl q : Int} {R F : Nat} {f : Fr} {d c s : Sv} (h : Fbk w u rk rb g b zs pl q R F f d c s) (k : Q u u') : Fbk w u' rk rb g b zs pl q R F f d c s := by
  obtain ⟨f1, d1, c1, s1, hres⟩ := h.res
  exact ⟨h.keep.trans (Keep.ofQ k), h.rg.q k, ⟨f1, d1, c1, s1, hres.q k⟩, h.box.q k, h.hr.q k, h.r0, h.f0, h.ne, h.nrd, h.nrc, h.nrs, h.mrd, h.mrc, h.mrs⟩
theorem own_spans {w u : World} {m : Nat} {vs : List (Int × Int)} (h : u.ownsRow w.heap.size 36 2 (.slice (some ⟨w.heap.size, 0, none⟩) m m) m (flatS vs)) : RowS u ⟨some ⟨w.heap.size, 0, none⟩, m, m⟩ vs := by
  refine ⟨h.1, ?_⟩
  rcases h.2 with ⟨h2, h3⟩ | ⟨g, cap', cur, hv, hb, hg, h1, h2, h3, h4⟩
  · cases h2
  · simp only [Value.slice.injEq, Option.some.injEq, Addr.mk.injEq, and_true, true_and] at hv
    obtain ⟨rfl, rfl⟩ := hv
    refine .inr ⟨w.heap.size, 0, cur, rfl, hg, h1, h2, by show 0 + m * 2 ≤ cur.size; omega, fun j hj => ?_⟩
    rw [Nat.zero_add]
    show _ = (flatS vs)[j]?
    rw [← h4, List.getElem?_take, if_pos hj]; simp

/-- The spans that were read lie behind those that are still to be read. -/
theorem set_rep {n : Nat} {acc : List (Int × Int)} {s : Int × Int} : (List.replicate (n + 1) (0, 0) ++ acc).set n s = List.replicate n (0, 0) ++ s :: acc := by
  rw [List.replicate_succ', List.append_assoc, List.set_append_right _ _ (by simp)]
  simp

structure AkI (w u : World) (rk rb g : Nat) (b : Sv) (zs : List Int) (pl p k dl : Int) (F sb m : Nat) (n : Nat) (acc : List (Int × Int)) (q : Int) : Prop where
  fb : Fbk w u rk rb g b zs pl q w.heap.size F (akF k dl (List.replicate n (0, 0) ++ acc) 0 0 0) nilS nilS ⟨some ⟨sb, 0, none⟩, m, m⟩
  out : ackO zs p k = ack4 zs k dl n acc q
  len : n + acc.length = m
  hd : ∃ s r, acc = s :: r ∧ 0 ≤ s.1 ∧ s.1 ≤ 4611686018427387903

section
variable (rk rb g : Nat) (b : Sv) (zs : List Int) (pl p : Int) (w : World)
set_option maxHeartbeats 8000000 in
theorem ack_at (k : Int) (hk : k = 2 ∨ k = 3) (h : Rg w rk rb g b zs pl p) :
    Calls Try.prog 50 #[.pointer (some ⟨rk, 0, none⟩), .int .i64 k] w fun e w' => Ans w rk rb g b zs pl (FrV w.heap.size) (ackO zs p k) e w' := by
  have HH := hid h
  have HK := hid hk
  obtain ⟨i0, hi, hz0, hz1, hz2⟩ := info_parts info77
  clear h hk
  go_enter Try.func50, Try.ntmps50
  go_wp2_with fail
  generalize hw1 : World.alloc w _ = w1
  have q1 : Q w w1 := by rw [← hw1]; exact (Q.refl w).alloc _
  have b1 : Box w1 34 w.heap.size zf nilS nilS nilS := by rw [← hw1]; exact heap_alloc_new w _
  clear hw1
  refine (number_at rk rb g b zs pl p w1 (HH.out.q q1)).mono ?_
  rintro e w2 ⟨hk2, ⟨to, q2, v, ho2, rfl, rfl, hr2⟩ | ⟨hs, rfl⟩⟩
  rotate_left
  · exact ⟨rfl, Ans.stopped _ ((Keep.ofQ q1).trans hk2) hs rfl⟩
  have HO2 := hid (show ackO zs p k = ack1 zs k to q2 from by unfold ackO; rw [ho2]; rfl)
  have hto := numO_ok HH.out.by_ HH.out.p0 (by rw [HH.out.len]; exact HH.out.p1) ho2
  have HTO := hid (show 0 ≤ to ∧ to ≤ 4611686018427387903 from hto.2.2)
  have Q1 := hid q1
  have B1 := hid b1
  have K2 := hid hk2
  have R2 := hid hr2
  clear q1 b1 hk2 ho2 hr2 hto
  go_wp2_with fail
  refine (number_at rk rb g b zs pl q2 w2 R2.out).mono ?_
  rintro e w3 ⟨hk3, ⟨dl, q3, v, ho3, rfl, rfl, hr3⟩ | ⟨hs, rfl⟩⟩
  rotate_left
  · exact ⟨rfl, Ans.stopped _ (((Keep.ofQ Q1.out).trans K2.out).trans hk3) hs HO2.out⟩
  have HO3 := hid (show ackO zs p k = ack2 zs k to dl q3 from by rw [HO2.out]; unfold ack1; rw [ho3]; rfl)
  have ST := hid (fun (u : World) (f : Fr) (qu : Q w3 u) (bu : Box u 34 w3.heap.size f nilS nilS nilS) (e1 : f.data = []) (e2 : f.cid = []) (e3 : f.sp = []) => Fbk.start HH.out Q1.out B1.out (K2.out.trans hk3) hr3 qu bu e1 e2 e3)
  have hltw : w.heap.size < w3.heap.size := by have := B1.out.lt; have := K2.out.size; have := hk3.size; omega
  clear hk3 ho3 hr3 HO2 Q1 B1 K2 R2
  go_wp2_with fail
  generalize hw4 : World.alloc w3 _ = u
  have HF := hid (ST.out u (akF k dl [] 0 0 0) (by rw [← hw4]; exact (Q.refl w3).alloc _) (by rw [← hw4]; exact heap_alloc_new w3 _) rfl rfl rfl)
  clear hw4 ST
  refine (number_at rk rb g b zs pl q3 u HF.out.rg).mono ?_
  rintro e w4 ⟨hk, ⟨o, q4, v, ho, rfl, rfl, hr⟩ | ⟨hs, rfl⟩⟩
  rotate_left
  · exact ⟨rfl, Ans.stopped _ (HF.out.keep.trans hk) hs HO3.out⟩
  have HO4 := hid (show ackO zs p k = ack3 zs k to dl o q4 from by rw [HO3.out]; unfold ack2; rw [ho]; rfl)
  have hon := numO_ok HF.out.rg.by_ HF.out.rg.p0 (by rw [HF.out.rg.len]; exact HF.out.rg.p1) ho
  have F4 := hid (HF.out.call HH.out hk hr)
  obtain ⟨m, rfl⟩ := Int.eq_ofNat_of_zero_le hon.2.2.1
  clear hk ho hr HF HO3 hon
  by_cases h64 : 64 ≤ m
  · have hd : decide ((64 : Int) ≤ (m : Int)) = true := by simp only [decide_eq_true_eq]; omega
    have h64' : (64 : Int) ≤ (m : Int) := by omega
    go_wp2
    refine ⟨rfl, F4.out.keep, .inr ?_⟩
    rw [HO4.out]
    unfold ack3
    rw [if_pos h64']
    exact ⟨stop_bad _, rfl⟩
  have hd : decide ((64 : Int) ≤ (m : Int)) = false := by simp only [decide_eq_false_iff_not]; omega
  have h64' : ¬ (64 : Int) ≤ (m : Int) := by omega
  have HO5 := hid (show ackO zs p k = (spanO zs q4 to).bind fun s q => ack4 zs k dl m [s] q from by rw [HO4.out]; unfold ack3; rw [if_neg h64']; rfl)
  have hwm : IntKind.i64.wrap ((m : Int) + 1) = ((m + 1 : Nat) : Int) := by rw [IntKind.wrap_i64]; omega
  have hwm2 : IntKind.i64.wrap ((m : Int) - 1) = (m : Int) - 1 := by rw [IntKind.wrap_i64]; omega
  have c8 := F4.out.box.c8
  have g8 := F4.out.box.free 8
  have hF4 : w3.heap.size < w4.heap.size := F4.out.box.lt
  have MK := hid (show ∀ (u5 : World), u5.ownsRow w4.heap.size 36 2 (.slice (some ⟨w4.heap.size, 0, none⟩) (m + 1) (m + 1)) (m + 1) (flatS (List.replicate (m + 1) (0, 0))) → w4.grownBy u5 none →
      Fbk w (u5.setCell ⟨w3.heap.size, 8, none⟩ (.slice (some ⟨w4.heap.size, 0, none⟩) (m + 1) (m + 1))) rk rb g b zs pl q4 w.heap.size w3.heap.size (akF k dl (List.replicate (m + 1) (0, 0)) 0 0 0) nilS nilS ⟨some ⟨w4.heap.size, 0, none⟩, m + 1, m + 1⟩ from by
    intro u5 hown hgr
    have F5 := F4.out.q ((Q.refl w4).grown hgr)
    have hnew : New w4.heap.size ⟨some ⟨w4.heap.size, 0, none⟩, m + 1, m + 1⟩ := by intro x hx; cases hx; exact Nat.le_refl _
    have hfr := F4.out.fresh hnew
    exact F5.set HH.out ((Keep.refl (fun k => k = w3.heap.size) u5).setCell _ 8 _ (.inl rfl)) (F5.box.sp_ ⟨some ⟨w4.heap.size, 0, none⟩, m + 1, m + 1⟩ (List.replicate (m + 1) (0, 0))) ⟨F5.hr.dr, F5.hr.cr, own_spans hown, F5.hr.nd, F5.hr.nc, hnew.mono F4.out.keep.size⟩ F5.nrd F5.nrc hfr.1 F5.mrd F5.mrc hfr.2)
  have G8 := hid (show ∀ u5, w4.grownBy u5 none → u5.cell? ⟨w3.heap.size, 8, none⟩ = some (.slice none 0 0) ∧ u5.frozen? ⟨w3.heap.size, 8, none⟩ = false from fun u5 hgr => by
    have F5 := F4.out.q ((Q.refl w4).grown hgr)
    exact ⟨F5.box.c8, F5.box.free 8⟩)
  clear c8 g8 F4 HO4
  go_wp2_with (at_make; refine wpList_make_full _ rfl _ _ 31 rfl w4.heap.size 36 i0 (.agg #[.int .i64 0, .int .i64 0]) 2 Try.underlying31 hi hz0 hz1 .i64 .i64 _ _ (m + 1) rfl rfl rfl rfl (by rw [hz2]; omega) (by unfold maxLen; omega) (Nat.le_refl _) ?_; intro u5 hown hgr; rw [made_spans] at hown; have M5 := hid (MK.out u5 hown hgr); obtain ⟨c8, g8⟩ := G8.out u5 hgr; clear hown hgr MK G8)
  generalize World.setCell u5 _ _ = u6 at *
  have e8 := M5.out.box.c8
  have hsb := M5.out.hr.sr
  have hmm : (m : Int) < ((m + 1 : Nat) : Int) := by omega
  have hm0 : (0 : Int) ≤ (m : Int) := by omega
  have hmm' : (m : Int) < (m : Int) + 1 := by omega
  have SP := hid (show ∀ (w6 : World) (s1 : Int × Int) (q5 : Int), Keep (fun k => k = rb) u6 w6 → spanO zs q4 to = .ok s1 q5 → Rg w6 rk rb g b zs pl q5 →
      AkI w ((w6.setCell ⟨w4.heap.size, m * 2, none⟩ (.int .i64 s1.1)).setCell ⟨w4.heap.size, m * 2 + 1, none⟩ (.int .i64 s1.2)) rk rb g b zs pl p k dl w3.heap.size w4.heap.size (m + 1) m [s1] q5 from by
    intro w6 s1 q5 hk ho hr
    have F6 := (M5.out.call HH.out hk hr).span (x := s1.1) (y := s1.2) HH.out (show m < m + 1 by omega)
    have hs := spanO_ok M5.out.rg.by_ M5.out.rg.p0 (by rw [M5.out.rg.len]; exact M5.out.rg.p1) ho
    refine ⟨?_, by rw [HO5.out, ho]; rfl, by simp, s1, [], rfl, hs.1, by have := HTO.out; omega⟩
    have e := set_rep (n := m) (acc := []) (s := s1)
    rw [List.append_nil] at e
    rw [← e]
    exact F6)
  have CL := hid (show ∀ (w6 : World), Keep (fun k => k = rb) u6 w6 → w6.cell? ⟨w3.heap.size, 8, none⟩ = some (.slice (some ⟨w4.heap.size, 0, none⟩) (m + 1) (m + 1)) ∧ (∃ v, w6.cell? ⟨w4.heap.size, m * 2, none⟩ = some v) ∧ (∃ v, w6.cell? ⟨w4.heap.size, m * 2 + 1, none⟩ = some v) ∧ w6.frozen? ⟨w4.heap.size, m * 2, none⟩ = false ∧ w6.frozen? ⟨w4.heap.size, m * 2 + 1, none⟩ = false from by
    intro w6 hk
    have hlt := HH.out.rdr.lt
    have hsr := M5.out.hr.keep hk (fun i e => .inl (by omega))
    obtain ⟨g', off', ha, hfz, hc⟩ := hsr.sr.some_ (by show 0 < m + 1; omega)
    cases ha
    have hge := flatS_get (l := List.replicate (m + 1) (0, 0)) (i := m) (by simp)
    have h1 := hc _ _ hge.1
    have h2 := hc _ _ hge.2
    rw [Nat.zero_add] at h1 h2
    exact ⟨(M5.out.box.keep hk (by have := M5.out.f0; omega)).c8, ⟨_, h1⟩, ⟨_, h2⟩, hfz _, hfz _⟩)
  have HFR := hid (show -4611686018427387903 ≤ to ∧ to ≤ 4611686018427387903 from by have := HTO.out; omega)
  go_region_held2 (fun w' => w'.cell? ⟨w3.heap.size, 8, none⟩ = some (.slice (some ⟨w4.heap.size, 0, none⟩) (m + 1) (m + 1))) (simp [go_sem, *])
    ((go_at_call 60; refine (span_at rk rb g b zs pl q4 _ to (M5.out.rg.q (by repeat (first | exact Q.refl _ | apply Q.drewN | apply Q.drew))) HFR.out.1 HFR.out.2).mono ?_; rintro e w6 ⟨hk, ⟨s1, q5, v, ho, rfl, rfl, hr⟩ | ⟨hs, rfl⟩⟩; rotate_left; (exact ⟨rfl, Ans.stopped _ (M5.out.keep.trans (by first | exact hk | exact Keep.ofDrew hk | exact Keep.ofDrewN hk)) hs HO5.out⟩); have A6 := hid (SP.out w6 s1 q5 (by first | exact hk | exact Keep.ofDrew hk | exact Keep.ofDrewN hk) ho hr); obtain ⟨l8, ⟨v0, l0⟩, ⟨v1, l1⟩, z0, z1⟩ := CL.out w6 (by first | exact hk | exact Keep.ofDrew hk | exact Keep.ofDrewN hk); clear hk ho hr))
  clear l8 l0 l1 z0 z1 SP CL HO5 M5 e8 hsb
  go_wp2
  go_loopw [8] (fun i wr => ∃ (n : Nat) (acc : List (Int × Int)) (q : Int), i = .int .i64 ((n : Int) - 1) ∧ AkI w wr rk rb g b zs pl p k dl w3.heap.size w4.heap.size (m + 1) n acc q) (fun i _ => (intOf i + 1).toNat)
  case atStart => exact ⟨m, [s1], q5, rfl, A6.out⟩
  case round =>
    clear A6
    obtain ⟨n, acc, q, rfl, hI⟩ := hrel
    have HI := hid hI
    clear hI
    cases n with
    | zero =>
      have HO6 := hid (show ackO zs p k = ack5 zs k dl acc q from by rw [HI.out.out]; rfl)
      have HFB := hid (show Fbk w wr rk rb g b zs pl q w.heap.size w3.heap.size (akF k dl acc 0 0 0) nilS nilS ⟨some ⟨w4.heap.size, 0, none⟩, m + 1, m + 1⟩ from by have := HI.out.fb; simpa using this)
      clear HI
      rcases HK.out with rfl | rfl
      · obtain ⟨f0, d0, c0, s0, hres⟩ := HFB.out.res
        obtain ⟨a0, a1, a2, a3, a4, a5, a6, a7, a8, a9, a10, a11, a12⟩ := HFB.out.box.all
        have D6 := hid (fun (u' : World) (k : Keep (fun k => k = w.heap.size) wr u') => HFB.out.done HH.out k (O := ackO zs p 2) (by rw [HO6.out]; rfl))
        have BR := hid hres
        clear hres HFB HO6
        go_wp2_with (refine wpList_store_row rfl 34 _ _ rfl w.heap.size (fcells (akF 2 dl acc 0 0 0) nilS nilS ⟨some ⟨w4.heap.size, 0, none⟩, m + 1, m + 1⟩) rfl rfl 34 _ BR.out (fcells_info _ _ _ _) rfl (fcells_one _ _ _ _) ?_)
        refine ret_frame rfl rfl w.heap.size 34 (akF 2 dl acc 0 0 0) nilS nilS ⟨some ⟨w4.heap.size, 0, none⟩, m + 1, m + 1⟩ rfl (BR.out.row_ _ _ _ _) (D6.out _ ((Keep.refl _ _).setRow _ _ (.inl rfl)))
      · go_wp2_with fail
        refine (number_at rk rb g b zs pl q wr HFB.out.rg).mono ?_
        rintro e w7 ⟨hk, ⟨x0, q7, v, ho, rfl, rfl, hr⟩ | ⟨hs, rfl⟩⟩
        rotate_left
        · exact ⟨rfl, Ans.stopped (fun e0 q => (numO zs q).bind fun e1 q => (numO zs q).bind fun e2 q => .ok (akF 3 dl acc e0 e1 e2) q) (HFB.out.keep.trans hk) hs (by rw [HO6.out]; rfl)⟩
        have HO7 := hid (show ackO zs p 3 = (numO zs q7).bind fun e1 q => (numO zs q).bind fun e2 q => .ok (akF 3 dl acc x0 e1 e2) q from by rw [HO6.out]; unfold ack5; rw [if_pos rfl, ho]; rfl)
        have F7 := hid (HFB.out.call HH.out hk hr)
        clear hk ho hr HFB HO6
        go_wp2_with fail
        refine (number_at rk rb g b zs pl q7 w7 F7.out.rg).mono ?_
        rintro e w8 ⟨hk, ⟨x1, q8, v, ho, rfl, rfl, hr⟩ | ⟨hs, rfl⟩⟩
        rotate_left
        · exact ⟨rfl, Ans.stopped _ (F7.out.keep.trans hk) hs HO7.out⟩
        have HO8 := hid (show ackO zs p 3 = (numO zs q8).bind fun e2 q => .ok (akF 3 dl acc x0 x1 e2) q from by rw [HO7.out, ho]; rfl)
        have F8 := hid (F7.out.call HH.out hk hr)
        clear hk ho hr F7 HO7
        go_wp2_with fail
        refine (number_at rk rb g b zs pl q8 w8 F8.out.rg).mono ?_
        rintro e w9 ⟨hk, ⟨x2, q9, v, ho, rfl, rfl, hr⟩ | ⟨hs, rfl⟩⟩
        rotate_left
        · exact ⟨rfl, Ans.stopped _ (F8.out.keep.trans hk) hs HO8.out⟩
        have HO9 := hid (show ackO zs p 3 = .ok (akF 3 dl acc x0 x1 x2) q9 from by rw [HO8.out, ho]; rfl)
        have F9 := F8.out.call HH.out hk hr
        have c10 := F9.box.c10
        have c11 := F9.box.c11
        have c12 := F9.box.c12
        have z10 := F9.box.free 10
        have z11 := F9.box.free 11
        have z12 := F9.box.free 12
        have F10 := F9.set HH.out ((((Keep.refl (fun k => k = w3.heap.size) w9).setCell _ 10 (.int .i64 x0) (.inl rfl)).setCell _ 11 (.int .i64 x1) (.inl rfl)).setCell _ 12 (.int .i64 x2) (.inl rfl)) (F9.box.ecn_ x0 x1 x2) ⟨F9.hr.dr, F9.hr.cr, F9.hr.sr, F9.hr.nd, F9.hr.nc, F9.hr.ns⟩ F9.nrd F9.nrc F9.nrs F9.mrd F9.mrc F9.mrs
        obtain ⟨f0, d0, c0, s0, hres⟩ := F10.res
        obtain ⟨a0, a1, a2, a3, a4, a5, a6, a7, a8, a9, a10, a11, a12⟩ := F10.box.all
        have D6 := hid (fun (u' : World) (k : Keep (fun k => k = w.heap.size) _ u') => F10.done HH.out k HO9.out)
        have BR := hid hres
        clear hk ho hr F8 F9 F10 hres HO8
        go_wp2_with (refine wpList_store_row rfl 34 _ _ rfl w.heap.size (fcells (akF 3 dl acc x0 x1 x2) nilS nilS ⟨some ⟨w4.heap.size, 0, none⟩, m + 1, m + 1⟩) rfl rfl 34 _ BR.out (fcells_info _ _ _ _) rfl (fcells_one _ _ _ _) ?_)
        refine ret_frame rfl rfl w.heap.size 34 (akF 3 dl acc x0 x1 x2) nilS nilS ⟨some ⟨w4.heap.size, 0, none⟩, m + 1, m + 1⟩ rfl (BR.out.row_ _ _ _ _) (D6.out _ ((Keep.refl _ _).setRow _ _ (.inl rfl)))
    | succ n =>
      obtain ⟨s2, r2, hacc, hs0, hs1⟩ := HI.out.hd
      have hlen := HI.out.len
      have hnm : n + 1 < m + 1 := by rw [hacc] at hlen; simp at hlen; omega
      have HO6 := hid (show ackO zs p k = (downO zs q (s2.1 - 2)).bind fun t q => (spanO zs q t).bind fun s q => ack4 zs k dl n (s :: acc) q from by
        rw [HI.out.out, hacc]; unfold ack4; rw [downsO]
        show ((downO zs q (s2.1 - 2)).bind _).bind _ = _
        cases downO zs q (s2.1 - 2) with
        | ok t q' => show ((spanO zs q' t).bind _).bind _ = (spanO zs q' t).bind _
                     cases spanO zs q' t <;> rfl
        | cut => rfl
        | bad x => rfl)
      have CL := hid (show ∀ (w6 : World), Keep (fun k => k = rb) wr w6 → w6.cell? ⟨w3.heap.size, 8, none⟩ = some (.slice (some ⟨w4.heap.size, 0, none⟩) (m + 1) (m + 1)) ∧ w6.cell? ⟨w4.heap.size, (n + 1) * 2, none⟩ = some (.int .i64 s2.1) ∧ (∃ v, w6.cell? ⟨w4.heap.size, n * 2, none⟩ = some v) ∧ (∃ v, w6.cell? ⟨w4.heap.size, n * 2 + 1, none⟩ = some v) ∧ w6.frozen? ⟨w4.heap.size, n * 2, none⟩ = false ∧ w6.frozen? ⟨w4.heap.size, n * 2 + 1, none⟩ = false from by
        intro w6 hk
        have hlt := HH.out.rdr.lt
        have hsr := HI.out.fb.hr.keep hk (fun i e => .inl (by omega))
        obtain ⟨g', off', ha, hfz, hc⟩ := hsr.sr.some_ (by show 0 < m + 1; omega)
        cases ha
        have hle : (List.replicate (n + 1) (0, 0) ++ acc).length = m + 1 := by simp; omega
        have hge := flatS_get (l := List.replicate (n + 1) (0, 0) ++ acc) (i := n) (by omega)
        have hge2 := flatS_get (l := List.replicate (n + 1) (0, 0) ++ acc) (i := n + 1) (by omega)
        have e2 : (List.replicate (n + 1) (0, 0) ++ acc).getD (n + 1) (0, 0) = s2 := by
          rw [hacc, List.getD_eq_getElem?_getD, List.getElem?_append_right (by simp)]; simp
        have h1 := hc _ _ hge.1
        have h2 := hc _ _ hge.2
        have h3 := hc _ _ hge2.1
        rw [Nat.zero_add] at h1 h2 h3
        rw [e2] at h3
        exact ⟨(HI.out.fb.box.keep hk (by have := HI.out.fb.f0; omega)).c8, h3, ⟨_, h1⟩, ⟨_, h2⟩, hfz _, hfz _⟩)
      have SP := hid (show ∀ (w7 w8 : World) (t q7 : Int) (s3 : Int × Int) (q8 : Int), Keep (fun k => k = rb) wr w7 → downO zs q (s2.1 - 2) = .ok t q7 → Rg w7 rk rb g b zs pl q7 → Keep (fun k => k = rb) w7 w8 → spanO zs q7 t = .ok s3 q8 → Rg w8 rk rb g b zs pl q8 →
          AkI w ((w8.setCell ⟨w4.heap.size, n * 2, none⟩ (.int .i64 s3.1)).setCell ⟨w4.heap.size, n * 2 + 1, none⟩ (.int .i64 s3.2)) rk rb g b zs pl p k dl w3.heap.size w4.heap.size (m + 1) n (s3 :: acc) q8 from by
        intro w7 w8 t q7 s3 q8 hk7 ho7 hr7 hk8 ho8 hr8
        have F6 := ((HI.out.fb.call HH.out hk7 hr7).call HH.out hk8 hr8).span (x := s3.1) (y := s3.2) HH.out (show n < m + 1 by omega)
        have hd := downO_ok HI.out.fb.rg.by_ HI.out.fb.rg.p0 (by rw [HI.out.fb.rg.len]; exact HI.out.fb.rg.p1) ho7
        have hs := spanO_ok hr7.by_ hr7.p0 (by rw [hr7.len]; exact hr7.p1) ho8
        refine ⟨?_, by rw [HO6.out, ho7]; show (spanO zs q7 t).bind _ = _; rw [ho8]; rfl, by have := HI.out.len; simp; omega, s3, acc, rfl, hs.1, by omega⟩
        have e := set_rep (n := n) (acc := acc) (s := s3)
        rw [← e]
        exact F6)
      have HT := hid (show ∀ t q7, downO zs q (s2.1 - 2) = .ok t q7 → -4611686018427387903 ≤ t ∧ t ≤ 4611686018427387903 from fun t q7 ho => by
        have hd := downO_ok HI.out.fb.rg.by_ HI.out.fb.rg.p0 (by rw [HI.out.fb.rg.len]; exact HI.out.fb.rg.p1) ho
        omega)
      obtain ⟨y8, y0, _, _, _, _⟩ := CL.out wr (Keep.refl _ _)
      have hni : (((n + 1 : Nat) : Int)) - 1 = (n : Int) := by omega
      rw [hni]
      have hwa : IntKind.i64.wrap ((n : Int) + 1) = ((n + 1 : Nat) : Int) := by rw [IntKind.wrap_i64]; omega
      have hwb : IntKind.i64.wrap ((n : Int) - 1) = (n : Int) - 1 := by rw [IntKind.wrap_i64]; omega
      have hwc : IntKind.i64.wrap (s2.1 - 2) = s2.1 - 2 := by rw [IntKind.wrap_i64]; omega
      have hb0 : (0 : Int) ≤ (n : Int) := by omega
      have hb1 : (n : Int) < (m : Int) + 1 := by omega
      have hb2 : (0 : Int) ≤ ((n + 1 : Nat) : Int) := by omega
      have hb3 : ((n + 1 : Nat) : Int) < (m : Int) + 1 := by omega
      have hb4 : (n : Int) + 1 < (m : Int) + 1 := by omega
      have hb5 : (0 : Int) ≤ (n : Int) + 1 := by omega
      have hb6 : decide ((0 : Int) ≤ (n : Int)) = true := by simp
      have HFR := hid (show -4611686018427387903 ≤ s2.1 - 2 ∧ s2.1 - 2 ≤ 4611686018427387903 from by omega)
      clear hacc hlen hs0 hs1
      go_wp2
      go_region_held2 (fun w' => w'.cell? ⟨w3.heap.size, 8, none⟩ = some (.slice (some ⟨w4.heap.size, 0, none⟩) (m + 1) (m + 1)) ∧ w'.cell? ⟨w4.heap.size, (n + 1) * 2, none⟩ = some (.int .i64 s2.1)) (simp [go_sem, *])
        (first
          | (go_at_call 61; refine (down_at rk rb g b zs pl q _ (s2.1 - 2) (HI.out.fb.rg.q (by repeat (first | exact Q.refl _ | apply Q.drewN | apply Q.drew))) HFR.out.1 HFR.out.2).mono ?_; rintro e w7 ⟨hk, ⟨t, q7, v, ho, rfl, rfl, hr⟩ | ⟨hs, rfl⟩⟩; rotate_left; (exact ⟨rfl, Ans.stopped _ (HI.out.fb.keep.trans (by first | exact hk | exact Keep.ofDrew hk | exact Keep.ofDrewN hk)) hs HO6.out⟩); have K7 := hid (show Keep (fun k => k = rb) wr w7 from (by first | exact hk | exact Keep.ofDrew hk | exact Keep.ofDrewN hk)); have O7 := hid ho; have R7 := hid hr; obtain ⟨l8, l0, _, _, _, _⟩ := CL.out w7 K7.out; clear hk ho hr)
          | (go_at_call 60; refine (span_at rk rb g b zs pl q7 _ t R7.out (HT.out t q7 O7.out).1 (HT.out t q7 O7.out).2).mono ?_; rintro e w8 ⟨hk, ⟨s3, q8, v, ho, rfl, rfl, hr⟩ | ⟨hs, rfl⟩⟩; rotate_left; (exact ⟨rfl, Ans.stopped _ ((HI.out.fb.keep.trans K7.out).trans (by first | exact hk | exact Keep.ofDrew hk | exact Keep.ofDrewN hk)) hs (by rw [HO6.out, O7.out]; rfl)⟩); have A8 := hid (SP.out w7 w8 t q7 s3 q8 K7.out O7.out R7.out (by first | exact hk | exact Keep.ofDrew hk | exact Keep.ofDrewN hk) ho hr); obtain ⟨m8, m0, ⟨v0, n0⟩, ⟨v1, n1⟩, z0, z1⟩ := CL.out w8 (K7.out.trans (by first | exact hk | exact Keep.ofDrew hk | exact Keep.ofDrewN hk)); clear hk ho hr))
      go_wp2
      go_roundw
      case rel => exact ⟨n, s3 :: acc, q8, rfl, A8.out⟩
      case measure => simp [intOf]
end
end Go.Proofs.Ytdoodbaogmdloab
