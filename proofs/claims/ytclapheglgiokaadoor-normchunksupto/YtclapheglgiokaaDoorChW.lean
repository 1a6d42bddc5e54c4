/-
  The law on chunks, walked whole.
-/
import Derived.Test.YtclapheglgiokaaDoorWrH
import Derived.Test.YtclapheglgiokaaDoorWrI
import Derived.Deep.RegionHeld3
import Derived.Deep.RegionHeld
namespace Go.Proofs.YtclapheglgiokaaDoor
open Go.RowKit
set_option linter.unusedVariables false
set_option maxRecDepth 100000

/-- A chunk as a text; its error. -/
def chkS (bs : List UInt8) : ByteArray := if bs.length = 0 then ⟨#[]⟩ else if 16384 < bs.length then ⟨#[]⟩ else ⟨(chkB bs).toArray⟩
def chkE (bs : List UInt8) : Int := if 16384 < bs.length then 52 else 0
theorem chunk_all (x : Sv) (bs : List UInt8) (w : World) (hx : SegB w x.a bs) (hl : bs.length = x.n) (hlt : ∀ b, blk x.a = some b → b < w.heap.size) (ht : Tb w) :
    Calls Tryd.prog 18 #[.slice x.a x.n x.c] w fun e w' => ∃ y : Sv, e = .returned (.tuple #[.slice y.a y.n y.c, .int .i64 (chkE bs)]) ∧ Q w w' ∧ ∀ W, Q w' W → (convert 28 9 (.slice y.a y.n y.c)).run Tryd.prog W = .ok (.string (chkS bs)) W := by
  unfold chkS chkE
  by_cases h0 : bs.length = 0
  · rw [if_pos h0, if_neg (by omega)]
    refine (chunk_zero x w (by omega)).mono ?_
    rintro e w' ⟨rfl, rfl⟩
    exact ⟨⟨none, 0, 0⟩, rfl, Q.refl _, fun W _ => nil_str W⟩
  · rw [if_neg h0]
    by_cases h1 : 16384 < bs.length
    · rw [if_pos h1, if_pos h1]
      refine (chunk_huge x w (by omega)).mono ?_
      rintro e w' ⟨rfl, rfl⟩
      exact ⟨⟨none, 0, 0⟩, rfl, Q.refl _, fun W _ => nil_str W⟩
    · rw [if_neg h1, if_neg h1]
      refine (chunk_any x bs w hx hl hlt ht (by omega) (by omega)).mono ?_
      rintro e w' ⟨y, rfl, q, r, _⟩
      exact ⟨y, rfl, q, fun W qW => br_str (r.q qW)⟩
theorem rchunk_all (x : Sv) (bs : List UInt8) (w : World) (hx : SegB w x.a bs) (hl : bs.length = x.n) :
    Calls Tryd.prog 20 #[.slice x.a x.n x.c] w fun e w' => e = .returned (.tuple #[.string (chkS bs), .int .i64 (chkE bs)]) ∧ Q w w' := by
  unfold chkS chkE
  by_cases h0 : bs.length = 0
  · rw [if_pos h0, if_neg (by omega)]
    refine (rchunk_zero x w (by omega)).mono ?_
    rintro e w' ⟨rfl, rfl⟩
    exact ⟨rfl, Q.refl _⟩
  · rw [if_neg h0]
    by_cases h1 : 16384 < bs.length
    · rw [if_pos h1, if_pos h1]
      refine (rchunk_huge x w (by omega)).mono ?_
      rintro e w' ⟨rfl, rfl⟩
      exact ⟨rfl, Q.refl _⟩
    · rw [if_neg h1, if_neg h1]
      exact rchunk_any x bs w hx hl (by omega) (by omega)
theorem RowG.fin {w : World} {x : Sv} {l : List Fd} (h : RowG w x l) (hc : x.n ≤ x.c) (hb : l.length ≤ 4398046511104) (hd : BdF l) : Fin w x l := ⟨h.seg, h.len, hc, hb, hd⟩
set_option maxHeartbeats 16000000 in
theorem chunks_walk (x z : Sv) (bs : List UInt8) (l : List Fd) (w : World) (hx : SegB w x.a bs) (hl : bs.length = x.n) (hn : x.n ≤ 4398046511104) (h : Fin w z l) (hb : totF l + 4 * l.length ≤ 70368744177664) (ht : Tb w) :
    Calls Tryd.prog 4 #[.slice x.a x.n x.c, .slice z.a z.n z.c] w fun e w' => e = .returned (.bool true) ∧ Q w w' := by
  obtain ⟨xa, xn, xc⟩ := x
  obtain ⟨za, zn, zc⟩ := z
  dsimp only at hx hl hn
  have hzl := h.len
  dsimp only at hzl
  subst hzl
  have HCB := hid (copyb_any ⟨xa, xn, xc⟩ bs w hx hl hn)
  have HRC := hid (fun W (q : Q w W) => rchunk_all ⟨xa, xn, xc⟩ bs W (hx.q q) hl)
  have HCP := hid (fun W (q : Q w W) => copy_any ⟨za, l.length, zc⟩ l W (h.q q))
  have HRL := hid (fun W (q : Q w W) => rlast_any ⟨za, l.length, zc⟩ l W (h.q q) hb)
  have HLA := hid (fun a W (f : Fin W ⟨a, l.length, l.length⟩ l) => last_any ⟨a, l.length, l.length⟩ l W f hb)
  have HFN := hid (fun W a (r : RowG W ⟨a, l.length, l.length⟩ l) => r.fin (Nat.le_refl _) h.b h.d)
  have HAW := hid awake_any
  have HT := hid ht
  dsimp only at HCB HRC HCP HRL HLA
  have HCA := hid (fun g W (r : BR W ⟨some ⟨g, 0, none⟩, xn, xn⟩ bs) (t : Tb W) => chunk_all ⟨some ⟨g, 0, none⟩, xn, xn⟩ bs W r.seg hl (fun b e => r.lt b e) t)
  dsimp only at HCA
  clear hx hl hn h hb ht
  generalize hLB : (⟨(lastB l).toArray⟩ : ByteArray) = LB at *
  have e4 : (lastB l == LB.toList) = true := by rw [← hLB]; simp
  clear hLB
  generalize chkS bs = CS at *
  generalize chkE bs = CE at *
  have e1 : (CS.toList == CS.toList) = true := by simp
  have e2 : (CE == CE) = true := by simp
  have e3 : (LB.toList == LB.toList) = true := by simp
  go_enter Tryd.func4, Tryd.ntmps4
  go_wp2_with fail
  refine HCB.out.mono ?_
  rintro e w1 ⟨g, rfl, q1, r1, n1⟩
  have Q1 := hid q1
  have R1 := hid r1
  clear q1 r1 n1 HCB
  go_wp2_with fail
  refine (HCA.out g w1 R1.out (HT.out.q Q1.out)).mono ?_
  rintro e w2 ⟨⟨ya, yn, yc⟩, rfl, q2, cv⟩
  have Q2 := hid (Q1.out.trans q2)
  have HCV0 := hid cv
  clear q2 cv Q1 R1 HCA
  go_wp2_with fail
  refine (HRC.out w2 Q2.out).mono ?_
  rintro e W0 ⟨rfl, q3⟩
  have HQ0 := hid (Q2.out.trans q3)
  have HCV := hid (fun W (q : Q W0 W) => HCV0.out W (q3.trans q))
  have HTB := hid (HT.out.q HQ0.out)
  clear q3 HRC HCV0 Q2 HT
  have s0 : Q W0 W0 := Q.refl _
  go_wp2_with fail
  go_region_held (fun u => Q W0 u) (repeat (first | (with_reducible assumption) | (with_reducible apply Q.drew) | (with_reducible apply Q.drewN) | (with_reducible apply And.intro)))
    (first
      | (go_at_call 10; refine (HAW.out _ (HTB.out.q (by first | (with_reducible assumption) | (with_reducible apply Q.drew; with_reducible assumption) | (with_reducible apply Q.drewN; with_reducible assumption)))).mono ?_; rintro e w10 ⟨rfl, q10⟩; have k10 : Q W0 w10 := Q.trans (by first | (with_reducible assumption) | (with_reducible apply Q.drew; with_reducible assumption) | (with_reducible apply Q.drewN; with_reducible assumption)) q10; have cv1 := HCV.out w10 k10; clear q10)
      | (go_at_call 22; refine (HCP.out _ (HQ0.out.trans (by first | (with_reducible assumption) | (with_reducible apply Q.drew; with_reducible assumption) | (with_reducible apply Q.drewN; with_reducible assumption)))).mono ?_; rintro e w22 ⟨g22, rfl, q22, r22, n22⟩; have k22 : Q W0 w22 := Q.trans (by first | (with_reducible assumption) | (with_reducible apply Q.drew; with_reducible assumption) | (with_reducible apply Q.drewN; with_reducible assumption)) q22; have F22 := hid (HFN.out _ _ r22); clear q22 r22 n22)
      | (go_at_call 23; have t := k21; refine (HRL.out _ (HQ0.out.trans (by first | (with_reducible assumption) | (with_reducible apply Q.drew; with_reducible assumption) | (with_reducible apply Q.drewN; with_reducible assumption)))).mono ?_; rintro e w23 ⟨rfl, q23⟩; have k23 : Q W0 w23 := Q.trans (by first | (with_reducible assumption) | (with_reducible apply Q.drew; with_reducible assumption) | (with_reducible apply Q.drewN; with_reducible assumption)) q23; have cv3 := br_str (R21.out.q (Q.trans (by repeat (first | (with_reducible exact Q.refl _) | (with_reducible apply Q.drewN) | (with_reducible apply Q.drew))) q23)); clear q23)
      | (go_at_call 23; have t := F22.out; refine (HRL.out _ (HQ0.out.trans (by first | (with_reducible assumption) | (with_reducible apply Q.drew; with_reducible assumption) | (with_reducible apply Q.drewN; with_reducible assumption)))).mono ?_; rintro e w23 ⟨rfl, q23⟩; have k23 : Q W0 w23 := Q.trans (by first | (with_reducible assumption) | (with_reducible apply Q.drew; with_reducible assumption) | (with_reducible apply Q.drewN; with_reducible assumption)) q23; have F22b := hid (F22.out.q (Q.trans (by repeat (first | (with_reducible exact Q.refl _) | (with_reducible apply Q.drewN) | (with_reducible apply Q.drew))) q23)); clear q23)
      | (go_at_call 23; refine (HRL.out _ (HQ0.out.trans (by first | (with_reducible assumption) | (with_reducible apply Q.drew; with_reducible assumption) | (with_reducible apply Q.drewN; with_reducible assumption)))).mono ?_; rintro e w23 ⟨rfl, q23⟩; have k23 : Q W0 w23 := Q.trans (by first | (with_reducible assumption) | (with_reducible apply Q.drew; with_reducible assumption) | (with_reducible apply Q.drewN; with_reducible assumption)) q23; clear q23)
      | (go_at_call 21; refine (HLA.out _ _ (F22b.out.q (by repeat (first | (with_reducible exact Q.refl _) | (with_reducible apply Q.drewN) | (with_reducible apply Q.drew))))).mono ?_; rintro e w21 ⟨⟨ua, un, uc⟩, rfl, q21, r21, n21⟩; have k21 : Q W0 w21 := Q.trans (by first | (with_reducible assumption) | (with_reducible apply Q.drew; with_reducible assumption) | (with_reducible apply Q.drewN; with_reducible assumption)) q21; have R21 := hid r21; have cv2 := br_str r21; clear q21 r21 n21)
      | (go_at_call 21; refine (HLA.out _ _ (F22.out.q (by repeat (first | (with_reducible exact Q.refl _) | (with_reducible apply Q.drewN) | (with_reducible apply Q.drew))))).mono ?_; rintro e w21 ⟨⟨ua, un, uc⟩, rfl, q21, r21, n21⟩; have k21 : Q W0 w21 := Q.trans (by first | (with_reducible assumption) | (with_reducible apply Q.drew; with_reducible assumption) | (with_reducible apply Q.drewN; with_reducible assumption)) q21; have R21 := hid r21; have cv2 := br_str r21; clear q21 r21 n21))
  all_goals
    go_wp2
    go_ret
    exact ⟨rfl, by first | exact HQ0.out.trans k23 | exact HQ0.out.trans k21⟩
end Go.Proofs.YtclapheglgiokaaDoor
