/-
  Split tells the packets of any datagram with their places, or why there are none.
-/
import Derived.Test.YtbhhajmfdffdbaaRows
import Derived.Test.YtbhhajmfdffdbaaAwake
import Derived.Test.YtbhhajmfdffdbaaRSpl
import Derived.Test.YtbhhajmfdffdbaaSameH
import Derived.Test.YtbhhajmfdffdbaaSplM
import Derived.Test.YtbhhajmfdffdbaaOpen
import Derived.WalkKit
import Derived.ProofKit
import Derived.OpenShut
import Derived.ShutString
import Derived.ChangeOld
import Derived.Below
import Derived.SizedLaws
import Derived.Deep.RegionHeld3
namespace Go.Proofs.Ytbhhajmfdffdbaa.headerSplits
open Go.ChangeShapes Go.WideShapes Go.ChangeAt Go.RowKit
open Go.ChangeMaps (open_string shut_string)
set_option linter.unusedVariables false

set_option maxRecDepth 20000 in
set_option maxHeartbeats 16000000 in
theorem walk (a : Option Addr) (n c : Nat) (zs : List Int) (cid : Int) (w : World) (hl : zs.length = n) (hz : ∀ y ∈ zs, 0 ≤ y ∧ y < 256) (hn : n ≤ 140737488355328) (hnc : n ≤ c) (hs : Seg w a zs) :
    Calls Try.prog 5 #[.slice a n c, .int .i64 cid] w fun e w' => e = .returned (.bool true) ∧ Below w.heap.size w w' := by
  have HL := hid hl
  have HZ := hid hz
  have HS := hid hs
  have HT := hid (splA_len (zs := zs) (cid := cid) hz)
  clear hl hz hs
  go_enter Try.func5, Try.ntmps5
  go_wp2_with fail
  refine (rcopy_any a n c zs w HL.out (by omega) HS.out).mono ?_
  rintro e w1 ⟨g0, rfl, hq1, hown, _⟩
  have Q1 := hid hq1
  have S1 := hid hown.seg
  clear hq1 hown
  go_wp2_with fail
  refine (split_any (some ⟨g0, 0, none⟩) n n zs cid w1 HL.out HZ.out (by omega) S1.out).mono ?_
  rintro e w2 ⟨⟨xa, xn, xc⟩, l, rfl, hq2, hp, hm⟩
  have Q2 := hid (show Q w w2 from Q1.out.trans hq2)
  have hxl : l.length = xn := hp.len
  have HP := hid hp
  have HM := hid hm
  clear hq2 hp hm S1 Q1
  go_wp2_with fail
  refine (rsplit_any a n c zs cid w2 HL.out HZ.out hn hnc (HS.out.q Q2.out)).mono ?_
  rintro e w3 ⟨⟨ya, yn, yc⟩, l2, rfl, hq3, hp3, hm3⟩
  have Q3 := hid (Q2.out.trans hq3)
  have HP3 := hid (HP.out.q hq3)
  have HD3 := hid hp3
  have hyl : l2.length = yn := hp3.len
  have HM3 := hid hm3
  obtain rfl : xn = yn := by have h1 := congrArg List.length HM.out; have h2 := congrArg List.length hm3; simp at h1 h2; omega
  clear hq3 hp3 hm3 Q2 HP
  generalize splA zs cid = D at *
  obtain ⟨L, er⟩ := D
  dsimp only at HM HM3 HT ⊢
  have hx16 : xn ≤ 16384 := by have h1 := congrArg List.length HM.out; simp at h1; have := HT.out.1; omega
  go_wp2
  go_loopw [35] (fun i wr => ∃ j : Nat, j ≤ xn ∧ i = .int .i64 j ∧ Q w3 wr) (fun i _ => ((xn : Int) - intOf i).toNat)
  case atStart => exact ⟨0, Nat.zero_le _, rfl, Q.refl _⟩
  case round =>
    obtain ⟨j, hj, rfl, hq⟩ := hrel
    have HQ := hid hq
    clear hq
    by_cases hjn : j < xn
    · have hji : (j : Int) < (xn : Int) := by omega
      obtain ⟨g1, o1, H, dS, sS, tS, vS, fr, at_, en, ha, hc1, hh1, hg⟩ := (HP3.out.q HQ.out).el (j := j) (by omega)
      obtain ⟨g2, o2, H', dT, sT, tT, vT, fr', at', en', ha', hc2, hh2, hg'⟩ := (HD3.out.q HQ.out).el (j := j) (by omega)
      dsimp only at ha ha'
      subst ha
      subst ha'
      rw [HM.out] at hg
      rw [HM3.out, hg] at hg'
      simp only [Prod.mk.injEq] at hg'
      obtain ⟨rfl, rfl, rfl, rfl⟩ := hg'
      have R1 := hid hh1.reads
      have R2 := hid hh2.reads
      have HLE := hid (show dS.n ≤ 140737488355328 ∧ sS.n ≤ 140737488355328 ∧ tS.n ≤ 140737488355328 ∧ vS.n ≤ 140737488355328 from by
        have h0 := HT.out.2 j (by have h1 := congrArg List.length HM.out; simp at h1; omega)
        rw [hg] at h0
        unfold Lens at h0
        rw [HL.out] at h0
        dsimp only at h0
        have h1 := hh1.reads.dl
        have h2 := hh1.reads.sl
        have h3 := hh1.reads.tl
        have h4 := hh1.reads.vl
        omega)
      have f0 : wr.cell? ⟨g1, o1 + j * 10, none⟩ = some (.int .i64 H.kind) := hc1 0 _ rfl
      have f1 : wr.cell? ⟨g1, o1 + j * 10 + 1, none⟩ = some (.int .i64 H.ver) := hc1 1 _ rfl
      have f2 : wr.cell? ⟨g1, o1 + j * 10 + 2, none⟩ = some (.slice dS.a dS.n dS.c) := hc1 2 _ rfl
      have f3 : wr.cell? ⟨g1, o1 + j * 10 + 3, none⟩ = some (.slice sS.a sS.n sS.c) := hc1 3 _ rfl
      have f4 : wr.cell? ⟨g1, o1 + j * 10 + 4, none⟩ = some (.slice tS.a tS.n tS.c) := hc1 4 _ rfl
      have f5 : wr.cell? ⟨g1, o1 + j * 10 + 5, none⟩ = some (.slice vS.a vS.n vS.c) := hc1 5 _ rfl
      have f6 : wr.cell? ⟨g1, o1 + j * 10 + 6, none⟩ = some (.int .i64 H.len) := hc1 6 _ rfl
      have f7 : wr.cell? ⟨g1, o1 + j * 10 + 7, none⟩ = some (.int .i64 fr) := hc1 7 _ rfl
      have f8 : wr.cell? ⟨g1, o1 + j * 10 + 8, none⟩ = some (.int .i64 at_) := hc1 8 _ rfl
      have f9 : wr.cell? ⟨g1, o1 + j * 10 + 9, none⟩ = some (.int .i64 en) := hc1 9 _ rfl
      have e0 : wr.cell? ⟨g2, o2 + j * 10, none⟩ = some (.int .i64 H.kind) := hc2 0 _ rfl
      have e1 : wr.cell? ⟨g2, o2 + j * 10 + 1, none⟩ = some (.int .i64 H.ver) := hc2 1 _ rfl
      have e2 : wr.cell? ⟨g2, o2 + j * 10 + 2, none⟩ = some (.slice dT.a dT.n dT.c) := hc2 2 _ rfl
      have e3 : wr.cell? ⟨g2, o2 + j * 10 + 3, none⟩ = some (.slice sT.a sT.n sT.c) := hc2 3 _ rfl
      have e4 : wr.cell? ⟨g2, o2 + j * 10 + 4, none⟩ = some (.slice tT.a tT.n tT.c) := hc2 4 _ rfl
      have e5 : wr.cell? ⟨g2, o2 + j * 10 + 5, none⟩ = some (.slice vT.a vT.n vT.c) := hc2 5 _ rfl
      have e6 : wr.cell? ⟨g2, o2 + j * 10 + 6, none⟩ = some (.int .i64 H.len) := hc2 6 _ rfl
      have e7 : wr.cell? ⟨g2, o2 + j * 10 + 7, none⟩ = some (.int .i64 fr) := hc2 7 _ rfl
      have e8 : wr.cell? ⟨g2, o2 + j * 10 + 8, none⟩ = some (.int .i64 at_) := hc2 8 _ rfl
      have e9 : wr.cell? ⟨g2, o2 + j * 10 + 9, none⟩ = some (.int .i64 en) := hc2 9 _ rfl
      have lt1 := lt_of_cell f0
      have lt2 := lt_of_cell e0
      clear hc1 hc2 hh1 hh2 hg
      have OF := hid (fun u (hu : Q wr u) => of_any H dS sS tS vS u)
      have SM := hid (fun u (hu : Q wr u) => sameH_any H dS sS tS vS dT sT tT vT u (R1.out.q hu) (R2.out.q hu) HLE.out)
      go_wp2
      go_region_held3 (fun w' => w'.cell? ⟨g1, o1 + j * 10, none⟩ = some (.int .i64 H.kind) ∧ w'.cell? ⟨g1, o1 + j * 10 + 1, none⟩ = some (.int .i64 H.ver) ∧ w'.cell? ⟨g1, o1 + j * 10 + 2, none⟩ = some (.slice dS.a dS.n dS.c) ∧ w'.cell? ⟨g1, o1 + j * 10 + 3, none⟩ = some (.slice sS.a sS.n sS.c) ∧ w'.cell? ⟨g1, o1 + j * 10 + 4, none⟩ = some (.slice tS.a tS.n tS.c) ∧ w'.cell? ⟨g1, o1 + j * 10 + 5, none⟩ = some (.slice vS.a vS.n vS.c) ∧ w'.cell? ⟨g1, o1 + j * 10 + 6, none⟩ = some (.int .i64 H.len) ∧ w'.cell? ⟨g1, o1 + j * 10 + 7, none⟩ = some (.int .i64 fr) ∧ w'.cell? ⟨g1, o1 + j * 10 + 8, none⟩ = some (.int .i64 at_) ∧ w'.cell? ⟨g1, o1 + j * 10 + 9, none⟩ = some (.int .i64 en) ∧ w'.cell? ⟨g2, o2 + j * 10, none⟩ = some (.int .i64 H.kind) ∧ w'.cell? ⟨g2, o2 + j * 10 + 1, none⟩ = some (.int .i64 H.ver) ∧ w'.cell? ⟨g2, o2 + j * 10 + 2, none⟩ = some (.slice dT.a dT.n dT.c) ∧ w'.cell? ⟨g2, o2 + j * 10 + 3, none⟩ = some (.slice sT.a sT.n sT.c) ∧ w'.cell? ⟨g2, o2 + j * 10 + 4, none⟩ = some (.slice tT.a tT.n tT.c) ∧ w'.cell? ⟨g2, o2 + j * 10 + 5, none⟩ = some (.slice vT.a vT.n vT.c) ∧ w'.cell? ⟨g2, o2 + j * 10 + 6, none⟩ = some (.int .i64 H.len) ∧ w'.cell? ⟨g2, o2 + j * 10 + 7, none⟩ = some (.int .i64 fr) ∧ w'.cell? ⟨g2, o2 + j * 10 + 8, none⟩ = some (.int .i64 at_) ∧ w'.cell? ⟨g2, o2 + j * 10 + 9, none⟩ = some (.int .i64 en)) (simp [go_sem, *])
        (first
          | (go_at_call 14; refine (OF.out _ (by repeat (first | exact Q.refl _ | apply Q.drewN | apply Q.drew))).mono ?_; rintro e w4 ⟨rfl, hq6⟩; have f06 : w4.cell? ⟨g1, o1 + j * 10, none⟩ = some (.int .i64 H.kind) := (hq6.cell (p := ⟨g1, o1 + j * 10, none⟩) lt1).trans f0; have f16 : w4.cell? ⟨g1, o1 + j * 10 + 1, none⟩ = some (.int .i64 H.ver) := (hq6.cell (p := ⟨g1, o1 + j * 10 + 1, none⟩) lt1).trans f1; have f26 : w4.cell? ⟨g1, o1 + j * 10 + 2, none⟩ = some (.slice dS.a dS.n dS.c) := (hq6.cell (p := ⟨g1, o1 + j * 10 + 2, none⟩) lt1).trans f2; have f36 : w4.cell? ⟨g1, o1 + j * 10 + 3, none⟩ = some (.slice sS.a sS.n sS.c) := (hq6.cell (p := ⟨g1, o1 + j * 10 + 3, none⟩) lt1).trans f3; have f46 : w4.cell? ⟨g1, o1 + j * 10 + 4, none⟩ = some (.slice tS.a tS.n tS.c) := (hq6.cell (p := ⟨g1, o1 + j * 10 + 4, none⟩) lt1).trans f4; have f56 : w4.cell? ⟨g1, o1 + j * 10 + 5, none⟩ = some (.slice vS.a vS.n vS.c) := (hq6.cell (p := ⟨g1, o1 + j * 10 + 5, none⟩) lt1).trans f5; have f66 : w4.cell? ⟨g1, o1 + j * 10 + 6, none⟩ = some (.int .i64 H.len) := (hq6.cell (p := ⟨g1, o1 + j * 10 + 6, none⟩) lt1).trans f6; have f76 : w4.cell? ⟨g1, o1 + j * 10 + 7, none⟩ = some (.int .i64 fr) := (hq6.cell (p := ⟨g1, o1 + j * 10 + 7, none⟩) lt1).trans f7; have f86 : w4.cell? ⟨g1, o1 + j * 10 + 8, none⟩ = some (.int .i64 at_) := (hq6.cell (p := ⟨g1, o1 + j * 10 + 8, none⟩) lt1).trans f8; have f96 : w4.cell? ⟨g1, o1 + j * 10 + 9, none⟩ = some (.int .i64 en) := (hq6.cell (p := ⟨g1, o1 + j * 10 + 9, none⟩) lt1).trans f9; have e06 : w4.cell? ⟨g2, o2 + j * 10, none⟩ = some (.int .i64 H.kind) := (hq6.cell (p := ⟨g2, o2 + j * 10, none⟩) lt2).trans e0; have e16 : w4.cell? ⟨g2, o2 + j * 10 + 1, none⟩ = some (.int .i64 H.ver) := (hq6.cell (p := ⟨g2, o2 + j * 10 + 1, none⟩) lt2).trans e1; have e26 : w4.cell? ⟨g2, o2 + j * 10 + 2, none⟩ = some (.slice dT.a dT.n dT.c) := (hq6.cell (p := ⟨g2, o2 + j * 10 + 2, none⟩) lt2).trans e2; have e36 : w4.cell? ⟨g2, o2 + j * 10 + 3, none⟩ = some (.slice sT.a sT.n sT.c) := (hq6.cell (p := ⟨g2, o2 + j * 10 + 3, none⟩) lt2).trans e3; have e46 : w4.cell? ⟨g2, o2 + j * 10 + 4, none⟩ = some (.slice tT.a tT.n tT.c) := (hq6.cell (p := ⟨g2, o2 + j * 10 + 4, none⟩) lt2).trans e4; have e56 : w4.cell? ⟨g2, o2 + j * 10 + 5, none⟩ = some (.slice vT.a vT.n vT.c) := (hq6.cell (p := ⟨g2, o2 + j * 10 + 5, none⟩) lt2).trans e5; have e66 : w4.cell? ⟨g2, o2 + j * 10 + 6, none⟩ = some (.int .i64 H.len) := (hq6.cell (p := ⟨g2, o2 + j * 10 + 6, none⟩) lt2).trans e6; have e76 : w4.cell? ⟨g2, o2 + j * 10 + 7, none⟩ = some (.int .i64 fr) := (hq6.cell (p := ⟨g2, o2 + j * 10 + 7, none⟩) lt2).trans e7; have e86 : w4.cell? ⟨g2, o2 + j * 10 + 8, none⟩ = some (.int .i64 at_) := (hq6.cell (p := ⟨g2, o2 + j * 10 + 8, none⟩) lt2).trans e8; have e96 : w4.cell? ⟨g2, o2 + j * 10 + 9, none⟩ = some (.int .i64 en) := (hq6.cell (p := ⟨g2, o2 + j * 10 + 9, none⟩) lt2).trans e9)
          | (go_at_call 13; refine (SM.out _ (Q.trans (by repeat (first | exact Q.refl _ | apply Q.drewN | apply Q.drew)) hq6)).mono ?_; rintro e w5 ⟨rfl, hq7⟩; have f07 : w5.cell? ⟨g1, o1 + j * 10, none⟩ = some (.int .i64 H.kind) := (hq7.cell (p := ⟨g1, o1 + j * 10, none⟩) (lt_of_cell f06)).trans f06; have f17 : w5.cell? ⟨g1, o1 + j * 10 + 1, none⟩ = some (.int .i64 H.ver) := (hq7.cell (p := ⟨g1, o1 + j * 10 + 1, none⟩) (lt_of_cell f06)).trans f16; have f27 : w5.cell? ⟨g1, o1 + j * 10 + 2, none⟩ = some (.slice dS.a dS.n dS.c) := (hq7.cell (p := ⟨g1, o1 + j * 10 + 2, none⟩) (lt_of_cell f06)).trans f26; have f37 : w5.cell? ⟨g1, o1 + j * 10 + 3, none⟩ = some (.slice sS.a sS.n sS.c) := (hq7.cell (p := ⟨g1, o1 + j * 10 + 3, none⟩) (lt_of_cell f06)).trans f36; have f47 : w5.cell? ⟨g1, o1 + j * 10 + 4, none⟩ = some (.slice tS.a tS.n tS.c) := (hq7.cell (p := ⟨g1, o1 + j * 10 + 4, none⟩) (lt_of_cell f06)).trans f46; have f57 : w5.cell? ⟨g1, o1 + j * 10 + 5, none⟩ = some (.slice vS.a vS.n vS.c) := (hq7.cell (p := ⟨g1, o1 + j * 10 + 5, none⟩) (lt_of_cell f06)).trans f56; have f67 : w5.cell? ⟨g1, o1 + j * 10 + 6, none⟩ = some (.int .i64 H.len) := (hq7.cell (p := ⟨g1, o1 + j * 10 + 6, none⟩) (lt_of_cell f06)).trans f66; have f77 : w5.cell? ⟨g1, o1 + j * 10 + 7, none⟩ = some (.int .i64 fr) := (hq7.cell (p := ⟨g1, o1 + j * 10 + 7, none⟩) (lt_of_cell f06)).trans f76; have f87 : w5.cell? ⟨g1, o1 + j * 10 + 8, none⟩ = some (.int .i64 at_) := (hq7.cell (p := ⟨g1, o1 + j * 10 + 8, none⟩) (lt_of_cell f06)).trans f86; have f97 : w5.cell? ⟨g1, o1 + j * 10 + 9, none⟩ = some (.int .i64 en) := (hq7.cell (p := ⟨g1, o1 + j * 10 + 9, none⟩) (lt_of_cell f06)).trans f96; have e07 : w5.cell? ⟨g2, o2 + j * 10, none⟩ = some (.int .i64 H.kind) := (hq7.cell (p := ⟨g2, o2 + j * 10, none⟩) (lt_of_cell e06)).trans e06; have e17 : w5.cell? ⟨g2, o2 + j * 10 + 1, none⟩ = some (.int .i64 H.ver) := (hq7.cell (p := ⟨g2, o2 + j * 10 + 1, none⟩) (lt_of_cell e06)).trans e16; have e27 : w5.cell? ⟨g2, o2 + j * 10 + 2, none⟩ = some (.slice dT.a dT.n dT.c) := (hq7.cell (p := ⟨g2, o2 + j * 10 + 2, none⟩) (lt_of_cell e06)).trans e26; have e37 : w5.cell? ⟨g2, o2 + j * 10 + 3, none⟩ = some (.slice sT.a sT.n sT.c) := (hq7.cell (p := ⟨g2, o2 + j * 10 + 3, none⟩) (lt_of_cell e06)).trans e36; have e47 : w5.cell? ⟨g2, o2 + j * 10 + 4, none⟩ = some (.slice tT.a tT.n tT.c) := (hq7.cell (p := ⟨g2, o2 + j * 10 + 4, none⟩) (lt_of_cell e06)).trans e46; have e57 : w5.cell? ⟨g2, o2 + j * 10 + 5, none⟩ = some (.slice vT.a vT.n vT.c) := (hq7.cell (p := ⟨g2, o2 + j * 10 + 5, none⟩) (lt_of_cell e06)).trans e56; have e67 : w5.cell? ⟨g2, o2 + j * 10 + 6, none⟩ = some (.int .i64 H.len) := (hq7.cell (p := ⟨g2, o2 + j * 10 + 6, none⟩) (lt_of_cell e06)).trans e66; have e77 : w5.cell? ⟨g2, o2 + j * 10 + 7, none⟩ = some (.int .i64 fr) := (hq7.cell (p := ⟨g2, o2 + j * 10 + 7, none⟩) (lt_of_cell e06)).trans e76; have e87 : w5.cell? ⟨g2, o2 + j * 10 + 8, none⟩ = some (.int .i64 at_) := (hq7.cell (p := ⟨g2, o2 + j * 10 + 8, none⟩) (lt_of_cell e06)).trans e86; have e97 : w5.cell? ⟨g2, o2 + j * 10 + 9, none⟩ = some (.int .i64 en) := (hq7.cell (p := ⟨g2, o2 + j * 10 + 9, none⟩) (lt_of_cell e06)).trans e96))
      have HQ7 := hid (show Q w3 w5 from (HQ.out.trans (Q.trans ((Q.refl wr).drew) hq6)).trans hq7)
      clear hq6 hq7 f0 f1 f2 f3 f4 f5 f6 f7 f8 f9 e0 e1 e2 e3 e4 e5 e6 e7 e8 e9 f06 f16 f26 f36 f46 f56 f66 f76 f86 f96 e06 e16 e26 e36 e46 e56 e66 e76 e86 e96 f07 f17 f27 f37 f47 f57 f67 f77 f87 f97 e07 e17 e27 e37 e47 e57 e67 e77 e87 e97 OF SM
      go_wp2
      go_roundw
      case rel => exact ⟨j + 1, by omega, by go_num, HQ7.out⟩
      case measure => simp [intOf]; omega
    · obtain rfl : j = xn := by omega
      have hji : ¬ (j : Int) < (j : Int) := by omega
      go_wp2_with (go_at_call 12; refine (awake_any wr).mono ?_; rintro e w4 ⟨rfl, hq4⟩; have HQ4 := hid hq4; clear hq4)
      go_ret
      exact ⟨by first | rfl | simp, (Q3.out.trans HQ.out).trans HQ4.out⟩

set_option maxRecDepth 100000 in
theorem lifted (os : Os) (started : os.Started) (H : Type) (enc : TypeId × Value → H) :
    ReturnsInHanded {} Try.checked os 5 .any (Rows.headerSplitsSpec.pre6 enc Try.prog Try.f5 Rows.headerSplitsRow.domain false) (Rows.headerSplitsSpec.post enc Try.prog Try.f5 false true false false) := by
  refine returnsInHanded_of_change_sized (C := Try.checked) own_knob started (by kernel_rfl) Try.func5
    (ChangeSpec.witness6 (enc := enc) (C := Try.checked) false ⟨#[], #[.slice none 0 0, .int .i64 0], []⟩ 8 (by kernel_rfl) (by kernel_rfl) (by kernel_rfl) (by kernel_rfl)) ?_
  intro W base args ds gs before hval0 hW hcnd hsz0 _
  have hval : ∀ (j : Nat) t v, Try.f5.params[j]? = some t → args[j]? = some v → Value.okWide Try.prog W .any base t v := hval0
  have hsz : (DataW.weightsEach Try.prog (Try.f5.params.toList ++ Rows.headerSplitsSpec.plain.varTypes Try.prog) (ds ++ gs)).all (· ≤ reachBytes) = true := hsz0
  have hW' := hW
  obtain ⟨p, q, hA0, hV, rfl, hfz, hnd⟩ := hW
  have hA : DataW.TrodAll enc Try.prog W 0 (fun _ => true) true Try.f5.params.toList args.toList ds p := hA0
  rw [Try.params5] at hA hval hsz
  obtain ⟨v0, vs0, d0, ds0, p0, q0, hargs, rfl, rfl, h0, r0⟩ := trodAll_cons hA
  obtain ⟨v1, vs1, d1, ds1, p1, q1, rfl, rfl, rfl, h1, r1⟩ := trodAll_cons r0
  obtain ⟨rfl, rfl, rfl⟩ := trodAll_nil r1
  obtain rfl : args = #[v0, v1] := by cases args; simp_all
  obtain ⟨rfl, rfl⟩ := trodVars_none hV
  obtain ⟨a0, len0, cap0, rfl⟩ := okWide_slice Try.underlying22 (hval 0 22 v0 rfl rfl)
  have k0 := h0
  have lt0 : ∀ x ∈ p0, x.block < W.heap.size := by obtain ⟨m, hm⟩ := k0; exact DataW.trod_lt m _ _ _ hm
  obtain ⟨z0, zl0, zs0, zb0, zc0, ze0, zd0⟩ := open_bytes h0
  have zn0 := len_le_bytes hsz (j := 0) rfl rfl zd0
  obtain ⟨a1, rfl, rfl, rfl, w1⟩ := open_int Try.underlying3 (hval 1 3 v1 rfl rfl) h1
  clear hA0 hval0
  refine (walk a0 len0 cap0 z0 a1 W zl0 zb0 (by omega) zc0 zs0).mono fun e W' ⟨he, bel⟩ => ?_
  subst he
  exact ⟨_, rfl, _, _, _, [], _, [], hW', trodAll_mk1 (shut_bool Try.underlying4 _), (trodAll_cons_mk (Below.trod laid_out (by kernel_rfl) (of_decide_eq_true (by kernel_rfl)) k0 bel lt0) (trodAll_cons_mk (shut_int Try.underlying3 w1) trodAll_mk0)), rfl, bel.frame _, fun h => by cases h⟩

theorem over : Rows.headerSplitsRow.holds Try.pinned (OpenSpec.ofChange Rows.headerSplitsSpec) :=
  OpenClaim.holds_of_wide 5 Try.f5 rfl rfl rfl rfl rfl rfl rfl ⟨rfl, rfl, rfl, rfl, rfl⟩ rfl rfl rfl rfl rfl (by kernel_rfl) Try.func5 (by kernel_rfl)
    (of_decide_eq_true (by kernel_rfl)) (by unfold Func.isWrapper; first | (rw [if_pos (by decide +kernel)]; kernel_rfl) | (rw [if_neg (by decide +kernel)]; exact ⟨rfl, rfl⟩))
    (fun os started H enc _ => lifted os started H enc)

end Go.Proofs.Ytbhhajmfdffdbaa.headerSplits
namespace Go.Proofs.Ytbhhajmfdffdbaa

/-- The statement. -/
theorem headerSplits_holds : Rows.HeaderSplitsSaid := headerSplits.over
#print axioms headerSplits_holds
end Go.Proofs.Ytbhhajmfdffdbaa
