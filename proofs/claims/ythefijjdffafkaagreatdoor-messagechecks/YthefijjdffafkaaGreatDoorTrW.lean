/-
  The law on trailers, walked whole.
-/
import Derived.Test.YthefijjdffafkaaGreatDoorDoC
import Derived.Test.YthefijjdffafkaaGreatDoorDoD
import Derived.Deep.RegionHeld3
namespace Go.Proofs.YthefijjdffafkaaGreatDoor
open Go.RowKit
set_option linter.unusedVariables false
set_option maxRecDepth 100000

theorem RowG.fin {w : World} {x : Sv} {l : List Fd} (h : RowG w x l) (hc : x.n ≤ x.c) (hb : l.length ≤ 4398046511104) (hd : BdF l) : Fin w x l := ⟨h.seg, h.len, hc, hb, hd⟩
set_option maxHeartbeats 16000000 in
theorem trails_walk (x : Sv) (l : List Fd) (c s : Int) (w : World) (h : Fin w x l) : Calls Tryz.prog 4 #[.slice x.a x.n x.c, .agg #[.int .i64 c, .int .i64 s]] w fun e w' => e = .returned (.bool true) ∧ Q w w' := by
  obtain ⟨xa, xn, xc⟩ := x
  have HCP := hid (fun W q => copy_any ⟨xa, xn, xc⟩ l W (h.q (w' := W) q))
  have HRT := hid (fun W q => rtrail_any ⟨xa, xn, xc⟩ l c s W (h.q (w' := W) q))
  have HTR := hid (fun a W (f : Fin W ⟨a, xn, xn⟩ l) => trailers_any ⟨a, xn, xn⟩ l c s W f)
  have HAW := hid awake_any
  have HFN := hid (fun W a (r : RowG W ⟨a, xn, xn⟩ l) => r.fin (Nat.le_refl _) h.b h.d)
  have HQ0 := hid ((Q.refl w).alloc (.cells #[.int .i64 c, .int .i64 s] 24))
  have HB := hid (blk_new w #[.int .i64 c, .int .i64 s] 24)
  dsimp only at HCP HRT HTR
  clear h
  generalize traE l c s = y at *
  go_enter Tryz.func4, Tryz.ntmps4
  go_wp2_with fail
  generalize hW : World.alloc w _ = W0 at *
  clear hW
  generalize w.heap.size = b0 at *
  have C0 := hid (fun u (q : Q W0 u) => show u.cell? ⟨b0, 0, none⟩ = some (.int .i64 c) from (HB.out.q q).cell 0)
  have C1 := hid (fun u (q : Q W0 u) => show u.cell? ⟨b0, 1, none⟩ = some (.int .i64 s) from (HB.out.q q).cell 1)
  have s0 : Q W0 W0 := Q.refl _
  have l0 := C0.out W0 s0
  have l1 := C1.out W0 s0
  go_region_held3 (fun u => Q W0 u ∧ u.cell? ⟨b0, 0, none⟩ = some (.int .i64 c) ∧ u.cell? ⟨b0, 1, none⟩ = some (.int .i64 s)) (repeat (first | (with_reducible assumption) | (with_reducible apply Q.drew) | (with_reducible apply Q.drewN) | (with_reducible refine C0.out _ ?_) | (with_reducible refine C1.out _ ?_) | (with_reducible apply And.intro)))
    (first
      | (go_at_call 10; refine (HAW.out _).mono ?_; rintro e w10 ⟨rfl, q10⟩; have k10 : Q W0 w10 := Q.trans (by first | (with_reducible assumption) | (with_reducible apply Q.drew; with_reducible assumption) | (with_reducible apply Q.drewN; with_reducible assumption)) q10; clear q10)
      | (go_at_call 5; refine (HCP.out _ (HQ0.out.trans (by first | (with_reducible assumption) | (with_reducible apply Q.drew; with_reducible assumption) | (with_reducible apply Q.drewN; with_reducible assumption)))).mono ?_; rintro e w5 ⟨g5, rfl, q5, r5, n5⟩; have k5 : Q W0 w5 := Q.trans (by first | (with_reducible assumption) | (with_reducible apply Q.drew; with_reducible assumption) | (with_reducible apply Q.drewN; with_reducible assumption)) q5; have F5 := hid (HFN.out _ _ r5); clear q5 r5 n5)
      | (go_at_call 12; have t := k11; refine (HRT.out _ (HQ0.out.trans (by first | (with_reducible assumption) | (with_reducible apply Q.drew; with_reducible assumption) | (with_reducible apply Q.drewN; with_reducible assumption)))).mono ?_; rintro e w12 ⟨rfl, q12⟩; have k12 : Q W0 w12 := Q.trans (by first | (with_reducible assumption) | (with_reducible apply Q.drew; with_reducible assumption) | (with_reducible apply Q.drewN; with_reducible assumption)) q12; clear q12)
      | (go_at_call 12; have t := F5.out; refine (HRT.out _ (HQ0.out.trans (by first | (with_reducible assumption) | (with_reducible apply Q.drew; with_reducible assumption) | (with_reducible apply Q.drewN; with_reducible assumption)))).mono ?_; rintro e w12 ⟨rfl, q12⟩; have k12 : Q W0 w12 := Q.trans (by first | (with_reducible assumption) | (with_reducible apply Q.drew; with_reducible assumption) | (with_reducible apply Q.drewN; with_reducible assumption)) q12; have F5b := hid (F5.out.q (Q.trans (by repeat (first | (with_reducible exact Q.refl _) | (with_reducible apply Q.drewN) | (with_reducible apply Q.drew))) q12)); clear q12)
      | (go_at_call 12; refine (HRT.out _ (HQ0.out.trans (by first | (with_reducible assumption) | (with_reducible apply Q.drew; with_reducible assumption) | (with_reducible apply Q.drewN; with_reducible assumption)))).mono ?_; rintro e w12 ⟨rfl, q12⟩; have k12 : Q W0 w12 := Q.trans (by first | (with_reducible assumption) | (with_reducible apply Q.drew; with_reducible assumption) | (with_reducible apply Q.drewN; with_reducible assumption)) q12; clear q12)
      | (go_at_call 11; refine (HTR.out _ _ (F5b.out.q (by repeat (first | (with_reducible exact Q.refl _) | (with_reducible apply Q.drewN) | (with_reducible apply Q.drew))))).mono ?_; rintro e w11 ⟨rfl, q11⟩; have k11 : Q W0 w11 := Q.trans (by first | (with_reducible assumption) | (with_reducible apply Q.drew; with_reducible assumption) | (with_reducible apply Q.drewN; with_reducible assumption)) q11; clear q11)
      | (go_at_call 11; refine (HTR.out _ _ (F5.out.q (by repeat (first | (with_reducible exact Q.refl _) | (with_reducible apply Q.drewN) | (with_reducible apply Q.drew))))).mono ?_; rintro e w11 ⟨rfl, q11⟩; have k11 : Q W0 w11 := Q.trans (by first | (with_reducible assumption) | (with_reducible apply Q.drew; with_reducible assumption) | (with_reducible apply Q.drewN; with_reducible assumption)) q11; clear q11))
  go_wp2
  go_ret
  exact ⟨rfl, HQ0.out.trans k10⟩
end Go.Proofs.YthefijjdffafkaaGreatDoor
