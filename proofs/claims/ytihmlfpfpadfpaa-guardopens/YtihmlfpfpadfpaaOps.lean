/-
  What guard's bare.open does, and the range of the number that a packet tells: contracts that the statements' walks use.
-/
import Derived.Test.YtihmlfpfpadfpaaUnm
namespace Go.Proofs.Ytihmlfpfpadfpaa
open Go.RowKit
set_option linter.unusedVariables false
set_option maxRecDepth 20000

theorem ds_nonneg {want n : Int} {b : Int × Bool} (h : 0 ≤ b.1 ∧ b.1 ≤ 4611686018427387903) : 0 ≤ (ds want b n).1 ∧ (ds want b n).1 ≤ 4611686018427387903 := by
  rcases ds_cases want n b with ⟨e, h1, h2, _⟩ | ⟨e, _⟩
  · rw [e]; exact ⟨h1, h2⟩
  · rw [e]; exact h
theorem expM_range (high part width : Int) : 0 ≤ expM high part width ∧ expM high part width ≤ 4611686018427387903 := by
  by_cases hb : width < 1 ∨ 4 < width ∨ high < -1 ∨ 4611686018427387903 < high ∨ part < 0 ∨ stp width ≤ part
  · rw [expM_bad hb]; omega
  · have hw := stp_cases (w := width) (by omega) (by omega)
    unfold expM
    rw [if_neg hb, exp_eq (by omega) (by omega) (by omega) (by omega) (by omega)]
    unfold expD
    exact ds_nonneg (ds_nonneg (ds_nonneg (by decide)))
theorem umN_range (hz ps : List Int) (at_ : Nat) (high : Int) : 0 ≤ umN hz ps at_ high ∧ umN hz ps at_ high ≤ 4611686018427387903 := expM_range _ _ _
/-- What opening a packet tells. -/
def usE (kz iz bz : List Int) (num : Int) (sz : List Int) : Int := if opnE kz (nonL iz num) bz sz ≠ 0 then 71 else if rsv (bz.getD 0 0) = true then 81 else 0
def usR (kz iz bz : List Int) (num : Int) (sz : List Int) : List Int := if usE kz iz bz num sz = 0 then opnR kz (nonL iz num) bz sz else []
theorem opn_cases {ks ns az zs : List Int} (h1 : ks.length = 16) (h2 : ns.length = 12) (h3 : az.length ≤ 16384) (h4 : 16 ≤ zs.length) (h5 : zs.length ≤ 16400) : opnE ks ns az zs = 0 ∨ opnE ks ns az zs = 71 := by
  have hc : chkE ks.length ns.length az.length ((zs.length : Int) - 16) = 0 := by unfold chkE; rw [if_neg (by omega), if_neg (by omega)]
  unfold opnE
  rw [hc, if_neg (by omega), if_neg (by omega)]
  split
  · exact .inl rfl
  · exact .inr rfl
theorem opnR_lt {ks ns az zs : List Int} (hz : By zs) : By (opnR ks ns az zs) := by
  unfold opnR
  split
  · exact ovl_lt (By.take hz _)
  · intro y hy; simp at hy
theorem usR_lt {kz iz bz sz : List Int} {num : Int} (hz : By sz) : By (usR kz iz bz num sz) := by
  unfold usR
  split
  · exact opnR_lt hz
  · intro y hy; simp at hy
set_option maxHeartbeats 8000000 in
theorem bopen_any (b s k i h : Sv) (num : Int) (bz sz kz iz : List Int) (w : World) (hb : In w b bz) (hs : In w s sz) (hk : In w k kz) (hi : In w i iz) (lk : k.n = 16) (li : i.n = 12) (b0 : 0 < b.n) (b1 : b.n ≤ 16384) (s0 : 16 ≤ s.n) (s1 : s.n ≤ 16400) (sc : s.n ≤ s.c) (n0 : 0 ≤ num) (n1 : num ≤ 4611686018427387903) :
    Calls Try.prog 52 #[.agg (bcells b num s), .agg (kcells k i h)] w fun e w' => ∃ x : Sv, e = .returned (.tuple #[.slice x.a x.n x.c, .int .i64 (usE kz iz bz num sz)]) ∧ Q w w' ∧ Row w' x (usR kz iz bz num sz) := by
  have HOC := hid (opn_cases (ks := kz) (ns := nonL iz num) (az := bz) (zs := sz) (by rw [hk.l, lk]) (by rw [nonL_len, hi.l, li]) (by rw [hb.l]; exact b1) (by rw [hs.l]; exact s0) (by rw [hs.l]; exact s1))
  have HB := hid hb
  have HS := hid hs
  have HK := hid hk
  have HI := hid hi
  have LI := hid (show iz.length = 12 from by rw [hi.l, li])
  have B0 := hid b0
  have SC := hid sc
  have S1 := hid s1
  obtain ⟨ba, bn, bc⟩ := b
  obtain ⟨sa, sn, sc'⟩ := s
  obtain ⟨ka, kn, kc⟩ := k
  obtain ⟨ia, n, ic⟩ := i
  obtain ⟨ha, hn, hc⟩ := h
  dsimp only at *
  subst lk li
  clear hb hs hk hi
  have FL := hid (getD_lt HB.out.z 0)
  go_enter Try.func52, Try.ntmps52
  go_wp2_with fail
  generalize hw1 : World.alloc (World.alloc w _) _ = w1
  have q1 : Q w w1 := by rw [← hw1]; exact ((Q.refl w).alloc _).alloc _
  have bb1 : BB w1 w.heap.size ⟨ba, bn, bc⟩ num ⟨sa, sn, sc'⟩ := by rw [← hw1]; exact heap_alloc2_old w _ _
  have kb1 : KB w1 (w.heap.size + 1) 30 ⟨ka, 16, kc⟩ ⟨ia, 12, ic⟩ ⟨ha, hn, hc⟩ := by rw [← hw1]; exact heap_alloc2_new w _ _
  clear hw1
  generalize w.heap.size = bx at *
  have Q1 := hid q1
  have BB1 := hid bb1
  have KB1 := hid kb1
  have c0 := bb1.c0
  have c1 := bb1.c1
  have c2 := bb1.c2
  have d0 := kb1.c0
  have d1 := kb1.c1
  have d2 := kb1.c2
  dsimp only at c0 c1 c2 d0 d1 d2
  clear q1 bb1 kb1
  have NN := hid (fun u (hu : Q w1 u) => nonce_any ⟨ka, 16, kc⟩ ⟨ia, 12, ic⟩ ⟨ha, hn, hc⟩ iz num u ((HI.out.q Q1.out).q hu) rfl (by omega) (by omega))
  have OP := hid (fun (y : Sv) u (hu : Q w1 u) (hy : In u y (nonL iz num)) => open_any ⟨ka, 16, kc⟩ y ⟨ba, bn, bc⟩ ⟨sa, sn, sc'⟩ kz (nonL iz num) bz sz u ((HK.out.q Q1.out).q hu) hy ((HB.out.q Q1.out).q hu) ((HS.out.q Q1.out).q hu) (by show sn ≤ _; have := S1.out; omega) SC.out)
  have t1 : Q w1 w1 := Q.refl _
  go_wp2
  go_region_held3 (fun u => Q w1 u ∧ u.cell? ⟨bx, 0, none⟩ = some (.slice ba bn bc) ∧ u.cell? ⟨bx, 1, none⟩ = some (.int .i64 num) ∧ u.cell? ⟨bx, 2, none⟩ = some (.slice sa sn sc') ∧ u.cell? ⟨bx + 1, 0, none⟩ = some (.slice ka 16 kc) ∧ u.cell? ⟨bx + 1, 1, none⟩ = some (.slice ia 12 ic) ∧ u.cell? ⟨bx + 1, 2, none⟩ = some (.slice ha hn hc)) (repeat (first | (with_reducible assumption) | (with_reducible apply Q.drew) | (with_reducible apply Q.drewN) | (with_reducible refine dcel ?_) | (with_reducible refine dcelN ?_) | (with_reducible apply And.intro)))
    (first
      | (go_at_call 40; refine (NN.out _ (by repeat (first | (with_reducible assumption) | (with_reducible exact Q.refl _) | (with_reducible apply Q.drew) | (with_reducible apply Q.drewN) | (with_reducible apply Q.alloc)))).mono ?_; rintro e w5 ⟨⟨na, nn, nc⟩, rfl, q5, r5, n5⟩; have j5 : Q w1 w5 := Q.trans (by repeat (first | (with_reducible assumption) | (with_reducible exact Q.refl _) | (with_reducible apply Q.drew) | (with_reducible apply Q.drewN) | (with_reducible apply Q.alloc))) q5; have R5 := hid (row_in r5 (nonL_lt HI.out.z _)); have e0 := (BB1.out.q j5).c0; have e1 := (BB1.out.q j5).c1; have e2 := (BB1.out.q j5).c2; have e3 := (KB1.out.q j5).c0; have e4 := (KB1.out.q j5).c1; have e5 := (KB1.out.q j5).c2; dsimp only at e0 e1 e2 e3 e4 e5; clear r5 n5)
      | (go_at_call 77; refine (OP.out ⟨na, nn, nc⟩ _ (by repeat (first | (with_reducible assumption) | (with_reducible exact Q.refl _) | (with_reducible apply Q.drew) | (with_reducible apply Q.drewN) | (with_reducible apply Q.alloc))) (R5.out.q (by repeat (first | (with_reducible assumption) | (with_reducible exact Q.refl _) | (with_reducible apply Q.drew) | (with_reducible apply Q.drewN) | (with_reducible apply Q.alloc))))).mono ?_; rintro e w6 ⟨⟨xa, xn, xc⟩, rfl, q6, r6⟩; have j6 : Q w1 w6 := Q.trans (by repeat (first | (with_reducible assumption) | (with_reducible exact Q.refl _) | (with_reducible apply Q.drew) | (with_reducible apply Q.drewN) | (with_reducible apply Q.alloc))) q6; have g0 := (BB1.out.q j6).c0; have g1 := (BB1.out.q j6).c1; have g2 := (BB1.out.q j6).c2; have g3 := (KB1.out.q j6).c0; have g4 := (KB1.out.q j6).c1; have g5 := (KB1.out.q j6).c2; dsimp only at g0 g1 g2 g3 g4 g5))
  have J6 := hid j6
  have R6 := hid r6
  have BB6 := hid (BB1.out.q j6)
  have HB6 := hid ((HB.out.q Q1.out).q j6)
  have UE := hid (show usE kz iz bz num sz = if opnE kz (nonL iz num) bz sz ≠ 0 then 71 else if rsv (bz.getD 0 0) = true then 81 else 0 from rfl)
  have UR := hid (show usR kz iz bz num sz = if usE kz iz bz num sz = 0 then opnR kz (nonL iz num) bz sz else [] from rfl)
  clear r6 q6 q5 j5 e0 e1 e2 e3 e4 e5 g0 g1 g2 g3 g4 g5 c0 c1 c2 d0 d1 d2 t1 NN OP R5 KB1 BB1 j6
  generalize opnE kz (nonL iz num) bz sz = E at *
  by_cases hE : E = 0
  · subst hE
    have FA := hid (fun u (hu : Q w6 u) => first_any ⟨ba, bn, bc⟩ num ⟨sa, sn, sc'⟩ bz u (HB6.out.q hu) B0.out)
    have RA := hid (fun u => reserved_any (bz.getD 0 0) u FL.out.1 FL.out.2)
    have hrs := rsb_rsv (bz.getD 0 0) FL.out.1 FL.out.2
    generalize bz.getD 0 0 = f at *
    have c0 := BB6.out.c0
    have c1 := BB6.out.c1
    have c2 := BB6.out.c2
    dsimp only at c0 c1 c2
    have t1 : Q w6 w6 := Q.refl _
    generalize rsv f = rv at *
    cases rv with
    | false =>
      go_wp2
      go_region_held3 (fun u => Q w6 u ∧ u.cell? ⟨bx, 0, none⟩ = some (.slice ba bn bc) ∧ u.cell? ⟨bx, 1, none⟩ = some (.int .i64 num) ∧ u.cell? ⟨bx, 2, none⟩ = some (.slice sa sn sc')) (repeat (first | (with_reducible assumption) | (with_reducible apply Q.drew) | (with_reducible apply Q.drewN) | (with_reducible refine dcel ?_) | (with_reducible refine dcelN ?_) | (with_reducible apply And.intro)))
        (first
          | (go_at_call 53; have t_ := qa; clear t_; refine (FA.out _ (by repeat (first | (with_reducible assumption) | (with_reducible exact Q.refl _) | (with_reducible apply Q.drew) | (with_reducible apply Q.drewN) | (with_reducible apply Q.alloc)))).mono ?_; rintro e wb ⟨rfl, qb⟩; have jb : Q w6 wb := Q.trans (by repeat (first | (with_reducible assumption) | (with_reducible exact Q.refl _) | (with_reducible apply Q.drew) | (with_reducible apply Q.drewN) | (with_reducible apply Q.alloc))) qb; have g0 := (BB6.out.q jb).c0; have g1 := (BB6.out.q jb).c1; have g2 := (BB6.out.q jb).c2; dsimp only at g0 g1 g2)
          | (go_at_call 53; refine (FA.out _ (by repeat (first | (with_reducible assumption) | (with_reducible exact Q.refl _) | (with_reducible apply Q.drew) | (with_reducible apply Q.drewN) | (with_reducible apply Q.alloc)))).mono ?_; rintro e wa ⟨rfl, qa⟩; have ja : Q w6 wa := Q.trans (by repeat (first | (with_reducible assumption) | (with_reducible exact Q.refl _) | (with_reducible apply Q.drew) | (with_reducible apply Q.drewN) | (with_reducible apply Q.alloc))) qa; have e0 := (BB6.out.q ja).c0; have e1 := (BB6.out.q ja).c1; have e2 := (BB6.out.q ja).c2; dsimp only at e0 e1 e2)
          | (go_at_call 78; refine (RA.out _).mono ?_; rintro e w' ⟨rfl, rfl⟩))
      all_goals (
        have JB := hid jb
        clear jb qb qa ja e0 e1 e2 g0 g1 g2 c0 c1 c2 t1
        go_wp2
        go_ret2
        refine ⟨⟨xa, xn, xc⟩, ?_, Q1.out.trans (J6.out.trans JB.out), ?_⟩
        · rw [UE.out]; rfl
        · rw [UR.out, UE.out]; exact R6.out.q JB.out)
    | true =>
      go_wp2
      go_region_held3 (fun u => Q w6 u ∧ u.cell? ⟨bx, 0, none⟩ = some (.slice ba bn bc) ∧ u.cell? ⟨bx, 1, none⟩ = some (.int .i64 num) ∧ u.cell? ⟨bx, 2, none⟩ = some (.slice sa sn sc')) (repeat (first | (with_reducible assumption) | (with_reducible apply Q.drew) | (with_reducible apply Q.drewN) | (with_reducible refine dcel ?_) | (with_reducible refine dcelN ?_) | (with_reducible apply And.intro)))
        (first
          | (go_at_call 53; have t_ := qa; clear t_; refine (FA.out _ (by repeat (first | (with_reducible assumption) | (with_reducible exact Q.refl _) | (with_reducible apply Q.drew) | (with_reducible apply Q.drewN) | (with_reducible apply Q.alloc)))).mono ?_; rintro e wb ⟨rfl, qb⟩; have jb : Q w6 wb := Q.trans (by repeat (first | (with_reducible assumption) | (with_reducible exact Q.refl _) | (with_reducible apply Q.drew) | (with_reducible apply Q.drewN) | (with_reducible apply Q.alloc))) qb; have g0 := (BB6.out.q jb).c0; have g1 := (BB6.out.q jb).c1; have g2 := (BB6.out.q jb).c2; dsimp only at g0 g1 g2)
          | (go_at_call 53; refine (FA.out _ (by repeat (first | (with_reducible assumption) | (with_reducible exact Q.refl _) | (with_reducible apply Q.drew) | (with_reducible apply Q.drewN) | (with_reducible apply Q.alloc)))).mono ?_; rintro e wa ⟨rfl, qa⟩; have ja : Q w6 wa := Q.trans (by repeat (first | (with_reducible assumption) | (with_reducible exact Q.refl _) | (with_reducible apply Q.drew) | (with_reducible apply Q.drewN) | (with_reducible apply Q.alloc))) qa; have e0 := (BB6.out.q ja).c0; have e1 := (BB6.out.q ja).c1; have e2 := (BB6.out.q ja).c2; dsimp only at e0 e1 e2)
          | (go_at_call 78; refine (RA.out _).mono ?_; rintro e w' ⟨rfl, rfl⟩))
      all_goals (
        have JB := hid jb
        clear jb qb qa ja e0 e1 e2 g0 g1 g2 c0 c1 c2 t1
        go_wp2
        go_ret2
        refine ⟨nilS, ?_, Q1.out.trans (J6.out.trans JB.out), ?_⟩
        · rw [UE.out]; rfl
        · rw [UR.out, UE.out]; exact sub_nil _ _ _)
  · obtain rfl : E = 71 := by rcases HOC.out with h | h; exact absurd h hE; exact h
    go_wp2
    go_ret2
    refine ⟨nilS, ?_, Q1.out.trans J6.out, ?_⟩
    · rw [UE.out]; rfl
    · rw [UR.out, UE.out]; exact sub_nil _ _ _
end Go.Proofs.Ytihmlfpfpadfpaa
