/-
  What the document's own Unseal and Unprotect do: contracts that the statements' walks use.
-/
import Derived.Test.YtihmlfpfpadfpaaRUnm
import Derived.Test.YtihmlfpfpadfpaaUnp
import Derived.Test.YtihmlfpfpadfpaaRNn
import Derived.Deep.RegionHeld3
namespace Go.Proofs.Ytihmlfpfpadfpaa
open Go.RowKit
set_option linter.unusedVariables false
set_option maxRecDepth 20000

theorem rsv_hi {f : Int} (h : 128 ≤ f) : rsv f = decide (f / 4 % 4 ≠ 0) := by unfold rsv; rw [if_pos h]
theorem rsv_lo {f : Int} (h : ¬ 128 ≤ f) : rsv f = decide (f / 8 % 4 ≠ 0) := by unfold rsv; rw [if_neg h]
set_option maxHeartbeats 8000000 in
theorem runseal_any (f num : Int) (b s k i : Sv) (bz sz kz iz : List Int) (w : World) (hb : In w b bz) (hs : In w s sz) (hk : In w k kz) (hi : In w i iz) (hf : bz.getD 0 0 = f) (f0 : 0 ≤ f ∧ f < 256) (lk : k.n = 16) (li : i.n = 12) (b1 : b.n ≤ 16384) (s0 : 16 ≤ s.n) (s1 : s.n ≤ 16400) (sc : s.n ≤ s.c) (n0 : 0 ≤ num) (n1 : num ≤ 4611686018427387903) :
    Calls Try.prog 56 #[.agg (rcells f num b s), .slice k.a k.n k.c, .slice i.a i.n i.c] w fun e w' => ∃ x : Sv, e = .returned (.tuple #[.slice x.a x.n x.c, .int .i64 (usE kz iz bz num sz)]) ∧ Q w w' ∧ Row w' x (usR kz iz bz num sz) := by
  have HOC := hid (opn_cases (ks := kz) (ns := nonL iz num) (az := bz) (zs := sz) (by rw [hk.l, lk]) (by rw [nonL_len, hi.l, li]) (by rw [hb.l]; exact b1) (by rw [hs.l]; exact s0) (by rw [hs.l]; exact s1))
  have UE := hid (show usE kz iz bz num sz = if opnE kz (nonL iz num) bz sz ≠ 0 then 71 else if rsv f = true then 81 else 0 from by unfold usE; rw [hf])
  have UR := hid (show usR kz iz bz num sz = if usE kz iz bz num sz = 0 then opnR kz (nonL iz num) bz sz else [] from rfl)
  have HB := hid hb
  have HS := hid hs
  have HK := hid hk
  have HI := hid hi
  have SC := hid sc
  have S1 := hid s1
  have F0 := hid f0
  obtain ⟨ba, bn, bc⟩ := b
  obtain ⟨sa, sn, sc'⟩ := s
  obtain ⟨ka, kn, kc⟩ := k
  obtain ⟨ia, n, ic⟩ := i
  dsimp only at *
  subst lk li
  clear hb hs hk hi hf f0
  go_enter Try.func56, Try.ntmps56
  go_wp2_with fail
  generalize hw1 : World.alloc w _ = w1
  have q1 : Q w w1 := by rw [← hw1]; exact (Q.refl w).alloc _
  have bb1 : RB w1 w.heap.size f num ⟨ba, bn, bc⟩ ⟨sa, sn, sc'⟩ := by rw [← hw1]; exact heap_alloc_new w _
  clear hw1
  generalize w.heap.size = bx at *
  have Q1 := hid q1
  have BB1 := hid bb1
  have c1 := bb1.c1
  have c2 := bb1.c2
  have c3 := bb1.c3
  dsimp only at c1 c2 c3
  clear q1 bb1
  have NN := hid (fun u (hu : Q w1 u) => rnonce_any ⟨ia, 12, ic⟩ iz num u ((HI.out.q Q1.out).q hu) rfl n0 (by omega))
  have OP := hid (fun (g : Nat) u (hu : Q w1 u) (hy : In u ⟨some ⟨g, 0, none⟩, 12, 12⟩ (nonL iz num)) => ropen_any ⟨ka, 16, kc⟩ ⟨some ⟨g, 0, none⟩, 12, 12⟩ ⟨ba, bn, bc⟩ ⟨sa, sn, sc'⟩ kz (nonL iz num) bz sz u ((HK.out.q Q1.out).q hu) hy ((HB.out.q Q1.out).q hu) ((HS.out.q Q1.out).q hu) (by show sn ≤ _; have := S1.out; omega) SC.out)
  have t1 : Q w1 w1 := Q.refl _
  go_wp2
  go_region_held3 (fun u => Q w1 u ∧ u.cell? ⟨bx, 1, none⟩ = some (.int .i64 num) ∧ u.cell? ⟨bx, 2, none⟩ = some (.slice ba bn bc) ∧ u.cell? ⟨bx, 3, none⟩ = some (.slice sa sn sc')) (repeat (first | (with_reducible assumption) | (with_reducible apply Q.drew) | (with_reducible apply Q.drewN) | (with_reducible refine dcel ?_) | (with_reducible refine dcelN ?_) | (with_reducible apply And.intro)))
    (first
      | (go_at_call 46; refine (NN.out _ (by repeat (first | (with_reducible assumption) | (with_reducible exact Q.refl _) | (with_reducible apply Q.drew) | (with_reducible apply Q.drewN) | (with_reducible apply Q.alloc)))).mono ?_; rintro e w5 ⟨gn, rfl, q5, r5⟩; have j5 : Q w1 w5 := Q.trans (by repeat (first | (with_reducible assumption) | (with_reducible exact Q.refl _) | (with_reducible apply Q.drew) | (with_reducible apply Q.drewN) | (with_reducible apply Q.alloc))) q5; have R5 := hid (row_in r5 (nonL_lt HI.out.z _)); have e1 := (BB1.out.q j5).c1; have e2 := (BB1.out.q j5).c2; have e3 := (BB1.out.q j5).c3; dsimp only at e1 e2 e3; clear r5)
      | (go_at_call 80; refine (OP.out gn _ (by repeat (first | (with_reducible assumption) | (with_reducible exact Q.refl _) | (with_reducible apply Q.drew) | (with_reducible apply Q.drewN) | (with_reducible apply Q.alloc))) (R5.out.q (by repeat (first | (with_reducible assumption) | (with_reducible exact Q.refl _) | (with_reducible apply Q.drew) | (with_reducible apply Q.drewN) | (with_reducible apply Q.alloc))))).mono ?_; rintro e w6 ⟨⟨xa, xn, xc⟩, rfl, q6, r6⟩; have j6 : Q w1 w6 := Q.trans (by repeat (first | (with_reducible assumption) | (with_reducible exact Q.refl _) | (with_reducible apply Q.drew) | (with_reducible apply Q.drewN) | (with_reducible apply Q.alloc))) q6; have g1 := (BB1.out.q j6).c1; have g2 := (BB1.out.q j6).c2; have g3 := (BB1.out.q j6).c3; dsimp only at g1 g2 g3))
  have J6 := hid j6
  have R6 := hid r6
  have d0 := (BB1.out.q j6).c0
  clear r6 q6 q5 j5 e1 e2 e3 g1 g2 g3 c1 c2 c3 t1 NN OP R5 j6 BB1
  generalize opnE kz (nonL iz num) bz sz = E at *
  by_cases hE : E = 0
  · subst hE
    have hfa := F0.out.1
    have hfb := F0.out.2
    have hq4 : f.tdiv 4 = f / 4 := Int.tdiv_eq_ediv_of_nonneg hfa
    have hq8 : f.tdiv 8 = f / 8 := Int.tdiv_eq_ediv_of_nonneg hfa
    have hr4 : (f / 4).tmod 4 = f / 4 % 4 := Int.tmod_eq_emod_of_nonneg (by omega)
    have hr8 : (f / 8).tmod 4 = f / 8 % 4 := Int.tmod_eq_emod_of_nonneg (by omega)
    by_cases h128 : 128 ≤ f
    · have b1' : decide (128 ≤ f) = true := by simp [h128]
      have b2' : decide (f < 128) = false := by simp; omega
      have b3' : ¬ f < 128 := by omega
      by_cases hv : f / 4 % 4 = 0
      · have b4' : (f / 4 % 4 != 0) = false := by simp [hv]
        have HRS := hid (show rsv f = false from by rw [rsv_hi h128]; simp [hv])
        go_wp2
        go_ret2
        refine ⟨⟨xa, xn, xc⟩, ?_, Q1.out.trans J6.out, ?_⟩
        · rw [UE.out, HRS.out]; rfl
        · rw [UR.out, UE.out, HRS.out]; exact R6.out
      · have b4' : (f / 4 % 4 != 0) = true := by simp [hv]
        have HRS := hid (show rsv f = true from by rw [rsv_hi h128]; simp [hv])
        go_wp2
        go_ret2
        refine ⟨nilS, ?_, Q1.out.trans J6.out, ?_⟩
        · rw [UE.out, HRS.out]; rfl
        · rw [UR.out, UE.out, HRS.out]; exact sub_nil _ _ _
    · have b1' : decide (128 ≤ f) = false := by simp [h128]
      have b2' : decide (f < 128) = true := by simp; omega
      have b3' : f < 128 := by omega
      by_cases hv : f / 8 % 4 = 0
      · have b4' : (f / 8 % 4 != 0) = false := by simp [hv]
        have HRS := hid (show rsv f = false from by rw [rsv_lo h128]; simp [hv])
        go_wp2
        go_ret2
        refine ⟨⟨xa, xn, xc⟩, ?_, Q1.out.trans J6.out, ?_⟩
        · rw [UE.out, HRS.out]; rfl
        · rw [UR.out, UE.out, HRS.out]; exact R6.out
      · have b4' : (f / 8 % 4 != 0) = true := by simp [hv]
        have HRS := hid (show rsv f = true from by rw [rsv_lo h128]; simp [hv])
        go_wp2
        go_ret2
        refine ⟨nilS, ?_, Q1.out.trans J6.out, ?_⟩
        · rw [UE.out, HRS.out]; rfl
        · rw [UR.out, UE.out, HRS.out]; exact sub_nil _ _ _
  · obtain rfl : E = 71 := by rcases HOC.out with h | h; exact absurd h hE; exact h
    go_wp2
    go_ret2
    refine ⟨nilS, ?_, Q1.out.trans J6.out, ?_⟩
    · rw [UE.out]; rfl
    · rw [UR.out, UE.out]; exact sub_nil _ _ _
end Go.Proofs.Ytihmlfpfpadfpaa
