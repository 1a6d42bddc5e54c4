/-
  The law on settings, walked whole.
-/
import Derived.Test.YtdlefmlienfjhaaSeR
import Derived.Test.YtdlefmlienfjhaaWrB
import Derived.Test.YtdlefmlienfjhaaWrR
import Derived.Deep.RegionHeld3
namespace Go.Proofs.Ytdlefmlienfjhaa
open Go.RowKit
set_option linter.unusedVariables false
set_option maxRecDepth 20000

theorem Row.segl {w : World} {y : Sv} {zs : List Int} (h : Row w y zs) : Seg w y.a zs ∧ zs.length = y.n := ⟨by first | exact Row.seg h | exact h.seg, by first | exact Row.len h | exact h.len⟩
theorem two_of {α β : Type} {f : α → β} {L : List α} {a b : β} (h : L.map f = [a, b]) : ∃ P0 P1, L = [P0, P1] ∧ f P0 = a ∧ f P1 = b := by
  cases L with
  | nil => cases h
  | cons P0 r =>
    cases r with
    | nil => cases h
    | cons P1 r =>
      cases r with
      | nil =>
        simp only [List.map_cons, List.map_nil, List.cons.injEq, and_true] at h
        exact ⟨P0, P1, rfl, h.1, h.2⟩
      | cons _ _ => cases h
set_option maxHeartbeats 16000000 in
theorem settles_walk (c b l n : Int) (w : World) : Calls Try.prog 7 #[.agg #[.int .i64 c, .int .i64 b, .int .i64 l], .int .i64 n] w fun e w' => e = .returned (.bool true) ∧ Q w w' := by
  have HP := hid (fun W => settings_put_any c b l W)
  have HG := hid (fun W => goaway_any n W)
  have HAW := hid awake_any
  have HQ0 := hid ((Q.refl w).alloc (.cells #[.int .i64 c, .int .i64 b, .int .i64 l] 39))
  have HB0 := hid (heap_alloc_new w (.cells #[.int .i64 c, .int .i64 b, .int .i64 l] 39))
  go_enter Try.func7, Try.ntmps7
  go_upto_region 1 with fail
  generalize hW : World.alloc w _ = W0 at *
  clear hW
  generalize w.heap.size = sb at *
  have c0 : W0.cell? ⟨sb, 0, none⟩ = some (.int .i64 c) := by rw [cell_of_row W0 sb 0 _ 39 (0, 0) HB0.out]; rfl
  have c1 : W0.cell? ⟨sb, 1, none⟩ = some (.int .i64 b) := by rw [cell_of_row W0 sb 1 _ 39 (0, 0) HB0.out]; rfl
  have c2 : W0.cell? ⟨sb, 2, none⟩ = some (.int .i64 l) := by rw [cell_of_row W0 sb 2 _ 39 (0, 0) HB0.out]; rfl
  go_wp2_with fail
  refine (HP.out _).mono ?_
  rintro e w1 ⟨⟨ya, yn, yc⟩, rfl, q1, r1, n1⟩
  have Q1 := hid (HQ0.out.trans q1)
  have K1 := hid q1
  have R1 := hid r1
  have C := hid (And.intro c0 (And.intro c1 c2))
  clear q1 r1 n1 c0 c1 c2 HP
  go_wp2_with fail
  refine (HG.out _).mono ?_
  rintro e w2 ⟨⟨za, zn, zc⟩, rfl, q2, r2, n2⟩
  have Q2 := hid (Q1.out.trans q2)
  have K2 := hid (K1.out.trans q2)
  have R1b := hid (R1.out.q q2)
  have R2 := hid r2
  clear q2 r2 n2 HG R1 K1
  by_cases h1 : stE c b l = 0
  · by_cases h2 : gaE n = 0
    · have HS := hid (settles_all h1 h2)
      rw [h1, h2]
      have HL1 := hid (show (stB c b l).length ≤ 100 from by
        unfold stB
        rw [if_pos h1]
        have := frB_len 4 (nmB (stL c b l))
        have := nmB_len (stL c b l)
        have := stL_len c b l
        omega)
      have HL2 := hid (show (gaB n).length ≤ 100 from by
        unfold gaB
        rw [if_pos h2]
        have := frB_len 7 (nmB [n])
        have := nmB_len [n]
        simp at this
        omega)
      have HZ := hid (show ∀ y ∈ stB c b l ++ gaB n, 0 ≤ y ∧ y < 256 from by
        intro y hy
        have hnb : ∀ L : List Int, ∀ y ∈ nmB L, 0 ≤ y ∧ y < 256 := by
          intro L y hy
          unfold nmB at hy
          split at hy
          · exact flat_bytes _ y hy
          · cases hy
        rcases List.mem_append.1 hy with hy | hy
        · unfold stB at hy
          rw [if_pos h1] at hy
          exact frB_bytes (hnb _) y hy
        · unfold gaB at hy
          rw [if_pos h2] at hy
          exact frB_bytes (hnb _) y hy)
      clear h1 h2
      generalize stB c b l = SB at *
      generalize gaB n = GB at *
      have HJ := hid (join_two w2 ⟨ya, yn, yc⟩ ⟨za, zn, zc⟩ SB GB (Row.segl R1b.out) (Row.segl R2.out) (by have := HL1.out; have := HL2.out; omega))
      dsimp only at HJ
      have HAL := hid (fun (W : World) (r : Sv) (h : Row W r (SB ++ GB)) => all_any 2 r.a r.n r.c (SB ++ GB) none 0 0 [] W (.inr rfl) (Row.segl h).2 (by have h3 := (Row.segl h).2; rw [List.length_append] at h3; have := HL1.out; have := HL2.out; omega) HZ.out (Row.segl h).1 rfl (by omega) (fun h => absurd rfl h))
      go_wp2_with fail
      refine HJ.out.mono ?_
      rintro e w3 ⟨⟨ra, rn, rc⟩, rfl, q3, r3, n3⟩
      have Q3 := hid (Q2.out.trans q3)
      have K3 := hid (K2.out.trans q3)
      have HA3 := hid (HAL.out w3 ⟨ra, rn, rc⟩ r3)
      dsimp only at HA3
      clear q3 r3 n3 HJ HAL K2
      go_wp2_with fail
      refine HA3.out.mono ?_
      rintro e w4 ⟨⟨xa, xn, xc⟩, ⟨va, vn, vc⟩, L, rfl, q4, r4, _, hL, _⟩
      have Q4 := hid (Q3.out.trans q4)
      have K4 := hid (K3.out.trans q4)
      rw [HS.out.2]
      rw [HS.out.1] at hL
      obtain ⟨P0, P1, rfl, hp0, hp1⟩ := two_of hL
      have hxn : xn = 2 := (RowE.len r4).symm
      subst hxn
      obtain ⟨g, off, p, ha, hp, a0, a1, a2, a3, a4, a5⟩ := ev_cells r4 (i := 0) (by show 0 < 2; omega)
      obtain ⟨g', off', p', ha', hp', b0, b1, b2, b3, b4, b5⟩ := ev_cells r4 (i := 1) (by show 1 < 2; omega)
      rw [ha] at ha'
      cases ha'
      obtain rfl : P0 = p := by simpa using hp
      obtain rfl : P1 = p' := by simpa using hp'
      dsimp only at ha
      subst ha
      rw [hp0] at a0 a2 a3 a4
      rw [hp1] at b0 b5
      have HE := hid (show w4.cell? ⟨g, off, none⟩ = some (.int .i64 3) ∧ w4.cell? ⟨g, off + 2, none⟩ = some (.int .i64 c) ∧ w4.cell? ⟨g, off + 2 + 1, none⟩ = some (.int .i64 b) ∧ w4.cell? ⟨g, off + 2 + 2, none⟩ = some (.int .i64 l) ∧ w4.cell? ⟨g, off + 6, none⟩ = some (.int .i64 4) ∧ w4.cell? ⟨g, off + 6 + 5, none⟩ = some (.int .i64 n) from ⟨a0, a2, a3, a4, b0, b5⟩)
      have HSB := hid (show w4.cell? ⟨sb, 0, none⟩ = some (.int .i64 c) ∧ w4.cell? ⟨sb, 0 + 1, none⟩ = some (.int .i64 b) ∧ w4.cell? ⟨sb, 0 + 2, none⟩ = some (.int .i64 l) from ⟨cq C.out.1 K4.out, cq C.out.2.1 K4.out, cq C.out.2.2 K4.out⟩)
      clear q4 HA3 K3 a0 a1 a2 a3 a4 a5 b0 b1 b2 b3 b4 b5 hL r4 hp hp' hp0 hp1
      go_upto_region 6 with fail
      generalize hR : Code.region 6 _ true = CC
      have eR : CC = Code.region 6 (RofN Try.f7 6) true := hR.symm.trans (by kernel_rfl)
      clear hR
      subst eR
      refine wp_region_noPanic ?_
      refine ser sb g off xc c b l n w4 _ (fun _ _ _ _ _ h => h) (Q.refl _) HSB.out HE.out (fun W _ => HAW.out W) ?_
      intro W8 q8
      have Q8 := hid (Q4.out.trans q8)
      clear q8
      refine NoPanic.normal ?_
      refine ‹∀ a w, Code.wp Try.prog _ _ a w → _› _ _ ?_
      go_wp2
      go_ret
      exact ⟨rfl, Q8.out⟩
    · have hg : gaE n = 10 := by
        rcases nmE_two [n] with h | h
        · exact absurd h h2
        · exact h
      rw [h1, hg]
      clear h1 h2 hg
      go_wp2_with (go_at_call 10; refine (HAW.out _).mono ?_; rintro e w3 ⟨rfl, q3⟩; have Q3 := hid (Q2.out.trans q3); clear q3)
      go_ret
      exact ⟨rfl, Q3.out⟩
  · have hg : stE c b l = 10 := by
      rcases nmE_two (stL c b l) with h | h
      · exact absurd h h1
      · exact h
    rw [hg]
    clear h1 hg
    generalize gaE n = ge at *
    go_wp2_with (go_at_call 10; refine (HAW.out _).mono ?_; rintro e w3 ⟨rfl, q3⟩; have Q3 := hid (Q2.out.trans q3); clear q3)
    go_ret
    exact ⟨rfl, Q3.out⟩
end Go.Proofs.Ytdlefmlienfjhaa
