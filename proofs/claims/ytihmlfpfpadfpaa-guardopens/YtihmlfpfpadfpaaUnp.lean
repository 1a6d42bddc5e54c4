/-
  What guard's Unprotect does: a contract that the statements' walks use.
-/
import Derived.Test.YtihmlfpfpadfpaaOps
namespace Go.Proofs.Ytihmlfpfpadfpaa
open Go.RowKit
set_option linter.unusedVariables false
set_option maxRecDepth 20000

/-- What Unprotect tells. -/
def unE (kz iz hz ps : List Int) (at_ high : Int) : Int := if kyE kz.length iz.length hz.length ≠ 0 then 70 else if chP ps.length at_ high ≠ 0 then chP ps.length at_ high else usE kz iz (umB hz ps at_.toNat) (umN hz ps at_.toNat high) (umS hz ps at_.toNat)
def unN (kz iz hz ps : List Int) (at_ high : Int) : Int := if unE kz iz hz ps at_ high = 0 then umN hz ps at_.toNat high else 0
def unF (kz iz hz ps : List Int) (at_ high : Int) : Int := if unE kz iz hz ps at_ high = 0 then umF hz ps at_.toNat else 0
def unX (kz iz hz ps : List Int) (at_ high : Int) : List Int := if unE kz iz hz ps at_ high = 0 then usR kz iz (umB hz ps at_.toNat) (umN hz ps at_.toNat high) (umS hz ps at_.toNat) else []
theorem umB_fst (hz ps : List Int) (at_ : Nat) (h1 : 1 ≤ at_) (h2 : at_ + 20 ≤ ps.length) : (umB hz ps at_).getD 0 0 = umF hz ps at_ := by
  have := umW_range hz ps at_
  unfold umB
  rw [List.getD_eq_getElem?_getD, ovA_at _ _ _ _ _ (by rw [List.length_set, List.length_take]; omega) (by omega), Option.getD_some, List.getD_eq_getElem?_getD, List.getElem?_set, if_pos rfl, if_pos (by rw [List.length_take]; omega)]; rfl
theorem umS_len (hz ps : List Int) (at_ : Nat) : (umS hz ps at_).length = ps.length - (at_ + umW hz ps at_) := by unfold umS; rw [List.length_drop]
theorem umS_lt (hz : List Int) {ps : List Int} (h : By ps) (at_ : Nat) : By (umS hz ps at_) := By.drop h _
theorem results_tmp4 {fn : Func} {t u v x : Tmp} (h : fn.results = #[.tmp t, .tmp u, .tmp v, .tmp x]) (tmps : Array Value) (P : Program) (w : World) :
    (results fn tmps).run P w = .ok (.tuple #[tmps.getD t undef, tmps.getD u undef, tmps.getD v undef, tmps.getD x undef]) w := by
  simp [results, h]
set_option maxHeartbeats 8000000 in
theorem unprotect_any (k i h p : Sv) (kz iz hz ps : List Int) (at_ high : Int) (w : World) (hk : KI w k i h kz iz hz) (hp : In w p ps) (bp : p.n ≤ 140737488355328) (bc : p.n ≤ p.c) (a0 : -9223372036854775808 ≤ at_) (a1 : at_ ≤ 9223372036854775807) :
    Calls Try.prog 23 #[.agg (kcells k i h), .slice p.a p.n p.c, .int .i64 at_, .int .i64 high] w fun e w' => ∃ x : Sv, e = .returned (.tuple #[.int .i64 (unN kz iz hz ps at_ high), .slice x.a x.n x.c, .int .u8 (unF kz iz hz ps at_ high), .int .i64 (unE kz iz hz ps at_ high)]) ∧ Q w w' ∧ Row w' x (unX kz iz hz ps at_ high) := by
  have DN := hid (show unN kz iz hz ps at_ high = if unE kz iz hz ps at_ high = 0 then umN hz ps at_.toNat high else 0 from rfl)
  have DF := hid (show unF kz iz hz ps at_ high = if unE kz iz hz ps at_ high = 0 then umF hz ps at_.toNat else 0 from rfl)
  have DX := hid (show unX kz iz hz ps at_ high = if unE kz iz hz ps at_ high = 0 then usR kz iz (umB hz ps at_.toNat) (umN hz ps at_.toNat high) (umS hz ps at_.toNat) else [] from rfl)
  have DE := hid (show unE kz iz hz ps at_ high = if kyE k.n i.n h.n ≠ 0 then 70 else if chP p.n at_ high ≠ 0 then chP p.n at_ high else usE kz iz (umB hz ps at_.toNat) (umN hz ps at_.toNat high) (umS hz ps at_.toNat) from by unfold unE; rw [hk.k.l, hk.i.l, hk.h.l, hp.l])
  have HC := hid (fun u => kcheck_any k i h u)
  have HP := hid (fun u => packet_any p at_ high u (by omega) a0 a1)
  have HOK := hid (@chP_ok p.n at_ high)
  have HKY := hid (show kyE k.n i.n h.n = 0 → k.n = 16 ∧ i.n = 12 ∧ h.n = 16 from by unfold kyE; split; intro _; assumption; intro e; simp at e)
  have HK70 := hid (show kyE k.n i.n h.n ≠ 0 → kyE k.n i.n h.n = 70 from by unfold kyE; split <;> simp)
  have HK := hid hk
  have HPK := hid hp
  have HBC := hid bc
  clear hk hp
  obtain ⟨ka, kn, kc⟩ := k
  obtain ⟨ia, n, ic⟩ := i
  obtain ⟨ha, hn, hc⟩ := h
  obtain ⟨pa, pn, pc⟩ := p
  dsimp only at *
  generalize kyE kn n hn = KE at *
  generalize chP pn at_ high = CE at *
  generalize unE kz iz hz ps at_ high = UE at *
  by_cases hKE : KE = 0
  · obtain ⟨rfl, rfl, rfl⟩ := HKY.out hKE
    subst hKE
    by_cases hCE : CE = 0
    · subst hCE
      obtain ⟨o1, o2, o3, o4, o5, o6⟩ := HOK.out rfl
      obtain ⟨at', rfl⟩ : ∃ m : Nat, at_ = (m : Int) := ⟨at_.toNat, by omega⟩
      rw [Int.toNat_natCast] at DN DF DX DE
      have hl : ps.length = pn := HPK.out.l
      have FB := hid (umB_fst hz ps at' (by omega) (by omega))
      have LB := hid (umB_len hz ps at' (by omega))
      have LS := hid (umS_len hz ps at')
      have WR := hid (umW_range hz ps at')
      have NR := hid (umN_range hz ps at' high)
      have ZB := hid (umB_lt hz HPK.out.z at')
      have ZS := hid (umS_lt hz HPK.out.z at')
      go_enter Try.func23, Try.ntmps23
      go_wp2_with (go_at_call 49; refine (HC.out _).mono ?_; rintro e w1 ⟨rfl, q1⟩)
      have Q1 := hid (show Q w w1 from Q.trans ((Q.refl w).alloc _) q1)
      have B1 := hid (KB.q (show KB _ w.heap.size 30 ⟨ka, 16, kc⟩ ⟨ia, 12, ic⟩ ⟨ha, 16, hc⟩ from heap_alloc_new w _) q1)
      clear q1
      generalize w.heap.size = bx at *
      have c0 := B1.out.c0
      have c1 := B1.out.c1
      have c2 := B1.out.c2
      dsimp only at c0 c1 c2
      go_wp2_with (go_at_call 50; refine (HP.out _).mono ?_; rintro e w1' ⟨rfl, rfl⟩)
      refine (unmask_any ⟨ha, 16, hc⟩ ⟨pa, pn, pc⟩ hz ps at' high w1 (HK.out.h.q Q1.out) (HPK.out.q Q1.out) rfl (by omega) (by omega) (by show at' + 20 ≤ pn; omega) (by show pn ≤ at' + 16400; omega) HBC.out).mono ?_
      rintro e w2 ⟨⟨ba, bn, bc2⟩, ⟨sa, sn, sc⟩, rfl, q2, ib, is_, hsc⟩
      have Q2 := hid (Q1.out.trans q2)
      have B2 := hid (B1.out.q q2)
      have IB := hid ib
      have IS := hid is_
      have HSC := hid (show sn ≤ sc from hsc)
      clear q2 ib is_ hsc c0 c1 c2 B1 Q1 HC HP
      generalize umN hz ps at' high = UN at *
      go_wp2_with (refine wpList_store_row rfl 97 _ _ rfl w2.heap.size (bcells ⟨ba, bn, bc2⟩ UN ⟨sa, sn, sc⟩) rfl rfl 97 _ (heap_alloc_new w2 _) (binfo _ _ _) rfl (bc_one _ _ _) ?_; refine Hid.out ?_)
      refine hid ?_
      generalize hw3 : World.setRow _ _ _ = w3
      have Q23 := hid (show Q w2 w3 from by
        have k3 : Keep (fun i => i = w2.heap.size) w2 w3 := by rw [← hw3]; exact ((Keep.refl (fun i => i = w2.heap.size) w2).alloc _).setRow _ _ (.inl rfl)
        exact k3.below (Q.refl _) (Nat.le_refl _) (fun i e => by omega))
      have BB3 := hid (show BB w3 w2.heap.size ⟨ba, bn, bc2⟩ UN ⟨sa, sn, sc⟩ from by rw [← hw3]; exact setRow_heap _ _ _ _ 97 _ (heap_alloc_new w2 _))
      clear hw3
      generalize w2.heap.size = gx at *
      have B3 := hid (B2.out.q Q23.out)
      have Q3 := hid (Q2.out.trans Q23.out)
      have c0 := BB3.out.c0
      have c1 := BB3.out.c1
      have c2 := BB3.out.c2
      have d0 := B3.out.c0
      have d1 := B3.out.c1
      have d2 := B3.out.c2
      dsimp only at c0 c1 c2 d0 d1 d2
      go_wp2_with fail
      refine (bopen_any ⟨ba, bn, bc2⟩ ⟨sa, sn, sc⟩ ⟨ka, 16, kc⟩ ⟨ia, 12, ic⟩ ⟨ha, 16, hc⟩ UN (umB hz ps at') (umS hz ps at') kz iz w3 (IB.out.q Q23.out) (IS.out.q Q23.out) (HK.out.k.q Q3.out) (HK.out.i.q Q3.out) rfl rfl (by show 0 < bn; have h1 := IB.out.l; rw [LB.out] at h1; dsimp only at h1; omega) (by show bn ≤ _; have h1 := IB.out.l; rw [LB.out] at h1; have := WR.out; dsimp only at h1; omega) (by show 16 ≤ sn; have h1 := IS.out.l; rw [LS.out] at h1; have := WR.out; dsimp only at h1; omega) (by show sn ≤ _; have h1 := IS.out.l; rw [LS.out] at h1; have := WR.out; dsimp only at h1; omega) HSC.out NR.out.1 NR.out.2).mono ?_
      rintro e w4 ⟨⟨xa, xn, xc⟩, rfl, q4, r4⟩
      have Q34 := hid q4
      have R4 := hid r4
      have BB4 := hid (BB3.out.q q4)
      have IB4 := hid ((IB.out.q Q23.out).q q4)
      have HBN := hid (show 0 < bn from by have h1 := IB.out.l; rw [LB.out] at h1; dsimp only at h1; omega)
      have DE2 := hid (show UE = usE kz iz (umB hz ps at') UN (umS hz ps at') from by rw [DE.out]; rfl)
      clear q4 r4 c0 c1 c2 d0 d1 d2 B2 B3 BB3 IB IS DE
      generalize usE kz iz (umB hz ps at') UN (umS hz ps at') = U at *
      obtain rfl := DE2.out
      by_cases hU : UE = 0
      · subst hU
        have DN2 := hid (show unN kz iz hz ps at' high = UN from by rw [DN.out, if_pos rfl])
        have DF2 := hid (show unF kz iz hz ps at' high = (umB hz ps at').getD 0 0 from by rw [DF.out, if_pos rfl, FB.out])
        have DX2 := hid (show unX kz iz hz ps at' high = usR kz iz (umB hz ps at') UN (umS hz ps at') from by rw [DX.out, if_pos rfl])
        clear DN DF DX
        have FA := hid (fun u (hu : Q w4 u) => first_any ⟨ba, bn, bc2⟩ UN ⟨sa, sn, sc⟩ (umB hz ps at') u (IB4.out.q hu) HBN.out)
        generalize (umB hz ps at').getD 0 0 = f at *
        have c0 := BB4.out.c0
        have c1 := BB4.out.c1
        have c2 := BB4.out.c2
        dsimp only at c0 c1 c2
        have t1 : Q w4 w4 := Q.refl _
        go_wp2
        go_region_held3 (fun u => Q w4 u ∧ u.cell? ⟨gx, 0, none⟩ = some (.slice ba bn bc2) ∧ u.cell? ⟨gx, 1, none⟩ = some (.int .i64 UN) ∧ u.cell? ⟨gx, 2, none⟩ = some (.slice sa sn sc)) (repeat (first | (with_reducible assumption) | (with_reducible apply Q.drew) | (with_reducible apply Q.drewN) | (with_reducible refine dcel ?_) | (with_reducible refine dcelN ?_) | (with_reducible apply And.intro)))
          (first
            | (go_at_call 53; refine (FA.out _ (by repeat (first | (with_reducible assumption) | (with_reducible exact Q.refl _) | (with_reducible apply Q.drew) | (with_reducible apply Q.drewN) | (with_reducible apply Q.alloc)))).mono ?_; rintro e wa ⟨rfl, qa⟩; have ja : Q w4 wa := Q.trans (by repeat (first | (with_reducible assumption) | (with_reducible exact Q.refl _) | (with_reducible apply Q.drew) | (with_reducible apply Q.drewN) | (with_reducible apply Q.alloc))) qa; have e0 := (BB4.out.q ja).c0; have e1 := (BB4.out.q ja).c1; have e2 := (BB4.out.q ja).c2; dsimp only at e0 e1 e2))
        all_goals (
          have JA := hid ja
          clear ja qa e0 e1 e2 c0 c1 c2 t1
          go_wp2
          (try simp only [Exit.inBlock, Exit.then]); refine bodyPost_ret (results_tmp4 rfl _ _ _) rfl ?_
          refine ⟨⟨xa, xn, xc⟩, ?_, Q3.out.trans (Q34.out.trans JA.out), ?_⟩
          · rw [DN2.out, DF2.out]; rfl
          · rw [DX2.out]; exact R4.out.q JA.out)
      · have hne : (UE != 0) = true := by simp [hU]
        have DN2 := hid (show unN kz iz hz ps at' high = 0 from by rw [DN.out, if_neg hU])
        have DF2 := hid (show unF kz iz hz ps at' high = 0 from by rw [DF.out, if_neg hU])
        have DX2 := hid (show unX kz iz hz ps at' high = [] from by rw [DX.out, if_neg hU])
        clear DN DF DX
        go_wp2
        (try simp only [Exit.inBlock, Exit.then]); refine bodyPost_ret (results_tmp4 rfl _ _ _) rfl ?_
        refine ⟨nilS, ?_, Q3.out.trans Q34.out, ?_⟩
        · rw [DN2.out, DF2.out]; rfl
        · rw [DX2.out]; exact sub_nil _ _ _
    · have hne : (CE != 0) = true := by simp [hCE]
      have hUE : UE = CE := by rw [DE.out, if_neg (by omega), if_pos hCE]
      subst hUE
      have DN2 := hid (show unN kz iz hz ps at_ high = 0 from by rw [DN.out, if_neg hCE])
      have DF2 := hid (show unF kz iz hz ps at_ high = 0 from by rw [DF.out, if_neg hCE])
      have DX2 := hid (show unX kz iz hz ps at_ high = [] from by rw [DX.out, if_neg hCE])
      rw [DN2.out, DF2.out, DX2.out]
      go_enter Try.func23, Try.ntmps23
      go_wp2_with (go_at_call 49; refine (HC.out _).mono ?_; rintro e w1 ⟨rfl, q1⟩)
      have Q1 := hid (show Q w w1 from Q.trans ((Q.refl w).alloc _) q1)
      clear q1
      go_wp2_with (go_at_call 50; refine (HP.out _).mono ?_; rintro e w1' ⟨rfl, rfl⟩)
      (try simp only [Exit.inBlock, Exit.then]); refine bodyPost_ret (results_tmp4 rfl _ _ _) rfl ?_
      exact ⟨nilS, rfl, Q1.out, sub_nil _ _ _⟩
  · obtain rfl := HK70.out hKE
    have hUE : UE = 70 := by rw [DE.out]; rfl
    subst hUE
    have DN2 := hid (show unN kz iz hz ps at_ high = 0 from by rw [DN.out]; rfl)
    have DF2 := hid (show unF kz iz hz ps at_ high = 0 from by rw [DF.out]; rfl)
    have DX2 := hid (show unX kz iz hz ps at_ high = [] from by rw [DX.out]; rfl)
    rw [DN2.out, DF2.out, DX2.out]
    go_enter Try.func23, Try.ntmps23
    go_wp2_with (go_at_call 49; refine (HC.out _).mono ?_; rintro e w1 ⟨rfl, q1⟩)
    have Q1 := hid (show Q w w1 from Q.trans ((Q.refl w).alloc _) q1)
    clear q1
    go_wp2
    (try simp only [Exit.inBlock, Exit.then]); refine bodyPost_ret (results_tmp4 rfl _ _ _) rfl ?_
    exact ⟨nilS, rfl, Q1.out, sub_nil _ _ _⟩
end Go.Proofs.Ytihmlfpfpadfpaa
