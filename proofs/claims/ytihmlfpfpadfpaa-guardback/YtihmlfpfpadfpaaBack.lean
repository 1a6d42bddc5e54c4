/-
  GuardBack: who has the keys, and has got every number up to the one ahead of it, unprotects what was protected: number, payload and first byte. No condition beyond the form's own reach.
-/
import Derived.Test.YtihmlfpfpadfpaaRows
import Derived.Test.YtihmlfpfpadfpaaAwk
import Derived.Test.YtihmlfpfpadfpaaKcp
import Derived.Test.YtihmlfpfpadfpaaOpenK
import Derived.WalkKit
import Derived.ProofKit
import Derived.OpenShut
import Derived.ShutString
import Derived.ChangeOld
import Derived.Below
import Derived.SizedLaws
namespace Go.Proofs.Ytihmlfpfpadfpaa.guardBack
open Go.ChangeShapes Go.WideShapes Go.ChangeAt Go.RowKit
open Go.ChangeMaps (open_string shut_string)
set_option linter.unusedVariables false

set_option maxRecDepth 20000
def PB (w : World) (g : Nat) (k i h hd pl : Sv) (num wd : Int) : Prop := w.heap[g]? = some (.cells (pcells k i h hd pl num wd) 44 (0, 0))
section
variable {w w' : World} {g : Nat} {k i h hd pl : Sv} {num wd : Int}
theorem PB.q (x : PB w g k i h hd pl num wd) (q : Q w w') : PB w' g k i h hd pl num wd := (Below.block q _ (lt_of_block x)).trans x
theorem PB.c0 (x : PB w g k i h hd pl num wd) : w.cell? ⟨g, 0, none⟩ = some (.slice k.a k.n k.c) := by rw [cell_of_row w g 0 _ 44 (0, 0) x]; rfl
theorem PB.c1 (x : PB w g k i h hd pl num wd) : w.cell? ⟨g, 1, none⟩ = some (.slice i.a i.n i.c) := by rw [cell_of_row w g 1 _ 44 (0, 0) x]; rfl
theorem PB.c2 (x : PB w g k i h hd pl num wd) : w.cell? ⟨g, 2, none⟩ = some (.slice h.a h.n h.c) := by rw [cell_of_row w g 2 _ 44 (0, 0) x]; rfl
theorem PB.c3 (x : PB w g k i h hd pl num wd) : w.cell? ⟨g, 3, none⟩ = some (.slice hd.a hd.n hd.c) := by rw [cell_of_row w g 3 _ 44 (0, 0) x]; rfl
theorem PB.c4 (x : PB w g k i h hd pl num wd) : w.cell? ⟨g, 4, none⟩ = some (.slice pl.a pl.n pl.c) := by rw [cell_of_row w g 4 _ 44 (0, 0) x]; rfl
theorem PB.c5 (x : PB w g k i h hd pl num wd) : w.cell? ⟨g, 5, none⟩ = some (.int .i64 num) := by rw [cell_of_row w g 5 _ 44 (0, 0) x]; rfl
theorem PB.c6 (x : PB w g k i h hd pl num wd) : w.cell? ⟨g, 6, none⟩ = some (.int .i64 wd) := by rw [cell_of_row w g 6 _ 44 (0, 0) x]; rfl
end
/-- The first byte that the law lays. -/
def hvB (f c : Int) : Int := bits .or .u8 (bits .andNot .u8 f 31) (bits .and .u8 c 3)
theorem hvB_fact (f c : Int) (hf : 0 ≤ f ∧ f < 256) (hc : 0 ≤ c ∧ c < 256) : 0 ≤ hvB f c ∧ hvB f c < 256 ∧ hvB f c % 4 = c % 4 ∧ rsv (hvB f c) = false := by
  unfold hvB
  rw [and3 c hc.1 hc.2]
  obtain ⟨n, rfl⟩ := Int.eq_ofNat_of_zero_le hf.1
  obtain ⟨r, hr⟩ : ∃ r : Nat, c % 4 = (r : Int) := ⟨(c % 4).toNat, by omega⟩
  rw [hr]
  have hn : n < 256 := by omega
  have hr4 : r < 4 := by omega
  have : ∀ n : Nat, n < 256 → ∀ r : Nat, r < 4 → 0 ≤ bits .or .u8 (bits .andNot .u8 (n : Int) 31) (r : Int) ∧ bits .or .u8 (bits .andNot .u8 (n : Int) 31) (r : Int) < 256 ∧ bits .or .u8 (bits .andNot .u8 (n : Int) 31) (r : Int) % 4 = (r : Int) ∧ rsv (bits .or .u8 (bits .andNot .u8 (n : Int) 31) (r : Int)) = false := by decide +kernel
  exact this n hn r hr4
set_option maxHeartbeats 8000000 in
theorem walk (k i h hd pl : Sv) (num wd : Int) (kz iz hz hs ps : List Int) (w : World) (hk : KI w k i h kz iz hz) (hh : In w hd hs) (hp : In w pl ps) (hw : -9223372036854775808 ≤ wd ∧ wd ≤ 9223372036854775807) (bk : k.n ≤ 140737488351232) (bi : i.n ≤ 140737488351232) (bh : h.n ≤ 140737488351232) (bd : hd.n ≤ 140737488351232) (bp : pl.n ≤ 140737488351232) :
    Calls Try.prog 6 #[.agg (pcells k i h hd pl num wd)] w fun r w' => r = .returned (.bool true) ∧ Below w.heap.size w w' := by
  have HK := hid hk
  have HH := hid hh
  have HP := hid hp
  have HW := hid hw
  clear hk hh hp hw
  obtain ⟨ka, kn, kc⟩ := k
  obtain ⟨ia, n, ic⟩ := i
  obtain ⟨ha, hn, hc⟩ := h
  obtain ⟨da, dn, dc⟩ := hd
  obtain ⟨pa, pn, pc⟩ := pl
  dsimp only at *
  by_cases hd0 : dn = 0
  · subst hd0
    go_enter Try.func6, Try.ntmps6
    go_wp2_with (go_at_call 16; refine (awake_any _).mono ?_; rintro e w1 ⟨rfl, q1⟩)
    go_ret
    exact ⟨rfl, Q.trans ((Q.refl w).alloc _) q1⟩
  have hdb : ((dn : Int) == 0) = false := by simp; omega
  go_enter Try.func6, Try.ntmps6
  go_wp2_with fail
  generalize hw1 : World.alloc w _ = w1
  have Q1 := hid (show Q w w1 from by rw [← hw1]; exact (Q.refl w).alloc _)
  have B1 := hid (show PB w1 w.heap.size ⟨ka, kn, kc⟩ ⟨ia, n, ic⟩ ⟨ha, hn, hc⟩ ⟨da, dn, dc⟩ ⟨pa, pn, pc⟩ num wd from by rw [← hw1]; exact heap_alloc_new w _)
  clear hw1
  generalize w.heap.size = bx at *
  refine (rcopy_any da dn dc hs w1 HH.out.l (by omega) (HH.out.s.q Q1.out)).mono ?_
  rintro e w2 ⟨g, rfl, q2, o2, l2⟩
  have Q2 := hid (Q1.out.trans q2)
  have B2 := hid (B1.out.q q2)
  have R2 := hid (show Row w2 ⟨some ⟨g, 0, none⟩, dn, dn⟩ hs from o2.row (by intro e; cases e))
  have NG := hid (show bx < g from Nat.lt_of_lt_of_le (lt_of_block B1.out) l2)
  have NW := hid (Nat.le_trans Q1.out.size l2)
  clear q2 o2 l2 B1 Q1
  have hl : hs.length = dn := HH.out.l
  have HF := hid (getD_lt HH.out.z 0)
  obtain ⟨hx1, hx2⟩ := row_cell R2.out (j := 0) (x := hs.getD 0 0) (by rw [List.getD_eq_getElem?_getD, List.getElem?_eq_getElem (by omega)]; rfl)
  have hc6 := B2.out.c6
  have hx0 : (0 : Int) < (dn : Int) := by omega
  have hx0n : 0 < dn := by omega
  obtain ⟨c, hcw, KC⟩ : ∃ c : Int, wrap64 (wd - 1) % 256 = c ∧ Hid (0 ≤ c ∧ c < 256 ∧ (1 ≤ wd → wd ≤ 4 → c = wd - 1)) := ⟨wrap64 (wd - 1) % 256, rfl, hid (by have := HW.out; unfold wrap64; omega)⟩
  have HV := hid (hvB_fact (hs.getD 0 0) c HF.out ⟨KC.out.1, KC.out.2.1⟩)
  have hvd : bits .or .u8 (bits .andNot .u8 (hs.getD 0 0) 31) (bits .and .u8 c 3) = hvB (hs.getD 0 0) c := rfl
  have HS := hid (show ∀ u, Row u ⟨some ⟨g, 0, none⟩, dn, dn⟩ hs → Row (u.setCell ⟨g, 0, none⟩ (.int .u8 (hvB (hs.getD 0 0) c))) ⟨some ⟨g, 0, none⟩, dn, dn⟩ (hs.set 0 (hvB (hs.getD 0 0) c)) from fun u hu => row_set hu hx0n _)
  generalize hvB (hs.getD 0 0) c = v at *
  generalize hs.getD 0 0 = f0 at *
  go_wp2
  go_upto_region 4 with fail
  go_cut [] from 18 (fun w3 => Keep (fun i => i = g) w2 w3 ∧ Row w3 ⟨some ⟨g, 0, none⟩, dn, dn⟩ (hs.set 0 v))
  case first =>
    go_region
    all_goals (
      go_wp2_with fail
      go_meet
      case rel =>
        first
          | exact ⟨((Keep.refl _ w2).setCell _ _ _ (.inl rfl)).drew, (HS.out w2 R2.out).q ((Q.refl _).drew)⟩
          | exact ⟨(Keep.refl _ w2).drew.setCell _ _ _ (.inl rfl), HS.out w2.drew (R2.out.q ((Q.refl _).drew))⟩
          | exact ⟨(Keep.refl _ w2).setCell _ _ _ (.inl rfl), HS.out w2 R2.out⟩)
  case rest =>
    obtain ⟨k3, r3⟩ := hcut
    generalize hwz : wc = w3 at *
    clear hwz
    have Q3 := hid (show Q w w3 from k3.below Q2.out Q2.out.size (fun i e => by have := NW.out; omega))
    have B3 := hid (show PB w3 bx ⟨ka, kn, kc⟩ ⟨ia, n, ic⟩ ⟨ha, hn, hc⟩ ⟨da, dn, dc⟩ ⟨pa, pn, pc⟩ num wd from (k3.block bx (lt_of_block B2.out) (by have := NG.out; omega)).trans B2.out)
    have R3 := hid r3
    clear k3 r3 hx1 hx2 hc6 R2 B2 Q2 hcw hvd HS
    have c0 := B3.out.c0
    have c1 := B3.out.c1
    have c2 := B3.out.c2
    have c4 := B3.out.c4
    have c5 := B3.out.c5
    have c6 := B3.out.c6
    dsimp only at c0 c1 c2 c4
    have CK := hid (fun u (hu : Q w3 u) => copied_any ⟨ka, kn, kc⟩ ⟨ia, n, ic⟩ ⟨ha, hn, hc⟩ kz iz hz u ((HK.out.q Q3.out).q hu) (by show kn ≤ _; omega) (by show n ≤ _; omega) (by show hn ≤ _; omega))
    have CP := hid (fun u (hu : Q w3 u) => rcopy_any pa pn pc ps u HP.out.l (by omega) ((HP.out.s.q Q3.out).q hu))
    have ZH := hid (show By (hs.set 0 v) from set_lt HH.out.z 0 ⟨HV.out.1, HV.out.2.1⟩)
    have IH := hid (show In w3 ⟨some ⟨g, 0, none⟩, dn, dn⟩ (hs.set 0 v) from row_in R3.out ZH.out)
    have CT := hid (fun (gk gi gh gp : Nat) u (hu : Q w3 u) (hk : KI u ⟨some ⟨gk, 0, none⟩, kn, kn⟩ ⟨some ⟨gi, 0, none⟩, n, n⟩ ⟨some ⟨gh, 0, none⟩, hn, hn⟩ kz iz hz) (hp : In u ⟨some ⟨gp, 0, none⟩, pn, pn⟩ ps) => protect_any ⟨some ⟨gk, 0, none⟩, kn, kn⟩ ⟨some ⟨gi, 0, none⟩, n, n⟩ ⟨some ⟨gh, 0, none⟩, hn, hn⟩ ⟨some ⟨g, 0, none⟩, dn, dn⟩ ⟨some ⟨gp, 0, none⟩, pn, pn⟩ kz iz hz (hs.set 0 v) ps num wd u hk (IH.out.q hu) hp (by show dn ≤ _; omega) (by show pn ≤ _; omega))
    dsimp only at CT
    generalize hpe : ptE kn n hn dn num wd pn = E at *
    have HPE := hid hpe
    clear hpe
    have s1 : Q w3 w3 := Q.refl _
    go_wp2
    go_region_held3 (fun u => Q w3 u ∧ u.cell? ⟨bx, 0, none⟩ = some (.slice ka kn kc) ∧ u.cell? ⟨bx, 1, none⟩ = some (.slice ia n ic) ∧ u.cell? ⟨bx, 2, none⟩ = some (.slice ha hn hc) ∧ u.cell? ⟨bx, 4, none⟩ = some (.slice pa pn pc) ∧ u.cell? ⟨bx, 5, none⟩ = some (.int .i64 num) ∧ u.cell? ⟨bx, 6, none⟩ = some (.int .i64 wd)) (repeat (first | (with_reducible assumption) | (with_reducible apply Q.drew) | (with_reducible apply Q.drewN) | (with_reducible refine dcel ?_) | (with_reducible refine dcelN ?_) | (with_reducible apply And.intro)))
      (first
        | (go_at_call 19; refine (CK.out _ (by repeat (first | (with_reducible assumption) | (with_reducible exact Q.refl _) | (with_reducible apply Q.drew) | (with_reducible apply Q.drewN) | (with_reducible apply Q.alloc)))).mono ?_; rintro e wk ⟨gk, gi, gh, rfl, qk, ik⟩; have jk : Q w3 wk := Q.trans (by repeat (first | (with_reducible assumption) | (with_reducible exact Q.refl _) | (with_reducible apply Q.drew) | (with_reducible apply Q.drewN) | (with_reducible apply Q.alloc))) qk; have IK := hid ik; have k0 := (B3.out.q jk).c0; have k1 := (B3.out.q jk).c1; have k2 := (B3.out.q jk).c2; have k4 := (B3.out.q jk).c4; have k5 := (B3.out.q jk).c5; have k6 := (B3.out.q jk).c6; dsimp only at k0 k1 k2 k4)
        | (go_at_call 10; refine (CP.out _ (by repeat (first | (with_reducible assumption) | (with_reducible exact Q.refl _) | (with_reducible apply Q.drew) | (with_reducible apply Q.drewN) | (with_reducible apply Q.alloc)))).mono ?_; rintro e wp ⟨gp, rfl, qp, op, lp⟩; have jp : Q w3 wp := Q.trans (by repeat (first | (with_reducible assumption) | (with_reducible exact Q.refl _) | (with_reducible apply Q.drew) | (with_reducible apply Q.drewN) | (with_reducible apply Q.alloc))) qp; have IP := hid (show In wp ⟨some ⟨gp, 0, none⟩, pn, pn⟩ ps from ⟨op.seg, HP.out.l, HP.out.z⟩); have p0 := (B3.out.q jp).c0; have p1 := (B3.out.q jp).c1; have p2 := (B3.out.q jp).c2; have p4 := (B3.out.q jp).c4; have p5 := (B3.out.q jp).c5; have p6 := (B3.out.q jp).c6; dsimp only at p0 p1 p2 p4)
        | (go_at_call 20; refine (CT.out gk gi gh gp _ (by repeat (first | (with_reducible assumption) | (with_reducible exact Q.refl _) | (with_reducible apply Q.drew) | (with_reducible apply Q.drewN) | (with_reducible apply Q.alloc))) (IK.out.q (by repeat (first | (with_reducible assumption) | (with_reducible exact Q.refl _) | (with_reducible apply Q.drew) | (with_reducible apply Q.drewN) | (with_reducible refine Q.trans ?_ qp) | (with_reducible refine Q.trans ?_ qk)))) (IP.out.q (by repeat (first | (with_reducible assumption) | (with_reducible exact Q.refl _) | (with_reducible apply Q.drew) | (with_reducible apply Q.drewN) | (with_reducible refine Q.trans ?_ qp) | (with_reducible refine Q.trans ?_ qk))))).mono ?_; rintro e wt ⟨⟨xa, xn, xc⟩, rfl, qt, rt⟩; have jt : Q w3 wt := Q.trans (by repeat (first | (with_reducible assumption) | (with_reducible exact Q.refl _) | (with_reducible apply Q.drew) | (with_reducible apply Q.drewN) | (with_reducible apply Q.alloc))) qt; have t0 := (B3.out.q jt).c0; have t1 := (B3.out.q jt).c1; have t2 := (B3.out.q jt).c2; have t4 := (B3.out.q jt).c4; have t5 := (B3.out.q jt).c5; have t6 := (B3.out.q jt).c6; dsimp only at t0 t1 t2 t4))
    have Q4 := hid (Q3.out.trans jt)
    have J4 := hid jt
    have B4 := hid (B3.out.q jt)
    have LH := hid (show (hs.set 0 v).length = dn from by rw [List.length_set]; exact hl)
    have R4 := hid (show Row wt ⟨xa, xn, xc⟩ (if E = 0 then proL kz iz hz (hs.set 0 v) num wd.toNat ps else []) from by
      have h1 := rt
      unfold ptR at h1
      rw [show kz.length = kn from HK.out.k.l, show iz.length = n from HK.out.i.l, show hz.length = hn from HK.out.h.l, LH.out, show ps.length = pn from HP.out.l, HPE.out] at h1
      exact h1)
    clear rt qt jt t0 t1 t2 t4 t5 t6 k0 k1 k2 k4 k5 k6 p0 p1 p2 p4 p5 p6 qk jk qp jp op lp ik c0 c1 c2 c4 c5 c6 CK CP CT IK IP s1
    by_cases hE : E = 0
    · subst hE
      have R5 := hid (show Row wt ⟨xa, xn, xc⟩ (proL kz iz hz (hs.set 0 v) num wd.toNat ps) from by have h1 := R4.out; rw [if_pos rfl] at h1; exact h1)
      have HPE' := hid (show ptE kz.length iz.length hz.length (hs.set 0 v).length num wd ps.length = 0 from by rw [show kz.length = kn from HK.out.k.l, show iz.length = n from HK.out.i.l, show hz.length = hn from HK.out.h.l, LH.out, show ps.length = pn from HP.out.l]; exact HPE.out)
      obtain ⟨z1, z2, z3, d0, d1, p1, pw, w1', w4', n0, n1⟩ := ptE_ok HPE.out
      have hg0 : (hs.set 0 v).getD 0 0 = v := by rw [List.getD_eq_getElem?_getD, List.getElem?_set, if_pos rfl, if_pos (by omega)]; rfl
      have UA := hid (un_all (hz := hz) (high := num - 1) HPE'.out ZH.out HP.out.z (by rw [hg0, HV.out.2.2.1, KC.out.2.2 w1' w4']; omega) (by rw [hg0]; exact HV.out.2.2.2) (by omega) (by omega) (exp_back w1' w4' n0 n1))
      rw [hg0, LH.out] at UA
      have PL := hid (show (xn : Int) = (dn : Int) + wd + ((pn : Int) + 16) from by
        have h1 := Row.len R5.out
        rw [proL_len, LH.out, show ps.length = pn from HP.out.l] at h1
        dsimp only at h1
        omega)
      have ZP := hid (show By (proL kz iz hz (hs.set 0 v) num wd.toNat ps) from mskA_lt _ (plnL_lt ZH.out HP.out.z _ _) _ _)
      have CPX := hid (Row.cap R5.out)
      have IX := hid (row_in R5.out ZP.out)
      have HC := hid (row_cell (R3.out.q J4.out) (j := 0) (x := v) (by rw [List.getElem?_set, if_pos rfl, if_pos (by omega)]))
      clear hg0 R4 HPE' ZH LH HPE R5 ZP z1 z2 z3
      generalize proL kz iz hz (hs.set 0 v) num wd.toNat ps = P at *
      have c0 := B4.out.c0
      have c1 := B4.out.c1
      have c2 := B4.out.c2
      have c4 := B4.out.c4
      have c5 := B4.out.c5
      have c6 := B4.out.c6
      dsimp only at c0 c1 c2 c4
      have CK := hid (fun u (hu : Q wt u) => copied_any ⟨ka, kn, kc⟩ ⟨ia, n, ic⟩ ⟨ha, hn, hc⟩ kz iz hz u ((HK.out.q Q4.out).q hu) (by show kn ≤ _; omega) (by show n ≤ _; omega) (by show hn ≤ _; omega))
      obtain ⟨m1, hm1, KM⟩ : ∃ m1 : Int, num - 1 = m1 ∧ Hid (m1 = num - 1) := ⟨num - 1, rfl, hid rfl⟩
      have hwm : IntKind.i64.wrap m1 = m1 := by rw [wrap_i64]; omega
      have hwm64 : wrap64 m1 = m1 := by unfold wrap64; omega
      rw [hm1] at UA
      have CU := hid (fun (gk gi gh : Nat) u (hu : Q wt u) (hk : KI u ⟨some ⟨gk, 0, none⟩, kn, kn⟩ ⟨some ⟨gi, 0, none⟩, n, n⟩ ⟨some ⟨gh, 0, none⟩, hn, hn⟩ kz iz hz) => unprotect_any ⟨some ⟨gk, 0, none⟩, kn, kn⟩ ⟨some ⟨gi, 0, none⟩, n, n⟩ ⟨some ⟨gh, 0, none⟩, hn, hn⟩ ⟨xa, xn, xc⟩ kz iz hz P dn m1 u hk (IX.out.q hu) (by show xn ≤ _; have := PL.out; omega) CPX.out (by omega) (by omega))
      dsimp only at CU
      rw [UA.out.1, UA.out.2.1, UA.out.2.2.1, UA.out.2.2.2] at CU
      have s1 : Q wt wt := Q.refl _
      go_wp2
      go_region_held3 (fun u => Q wt u ∧ u.cell? ⟨bx, 0, none⟩ = some (.slice ka kn kc) ∧ u.cell? ⟨bx, 1, none⟩ = some (.slice ia n ic) ∧ u.cell? ⟨bx, 2, none⟩ = some (.slice ha hn hc) ∧ u.cell? ⟨bx, 5, none⟩ = some (.int .i64 num)) (repeat (first | (with_reducible assumption) | (with_reducible apply Q.drew) | (with_reducible apply Q.drewN) | (with_reducible refine dcel ?_) | (with_reducible refine dcelN ?_) | (with_reducible apply And.intro)))
        (first
          | (go_at_call 19; refine (CK.out _ (by repeat (first | (with_reducible assumption) | (with_reducible exact Q.refl _) | (with_reducible apply Q.drew) | (with_reducible apply Q.drewN) | (with_reducible apply Q.alloc)))).mono ?_; rintro e wk ⟨gk2, gi2, gh2, rfl, qk, ik⟩; have jk : Q wt wk := Q.trans (by repeat (first | (with_reducible assumption) | (with_reducible exact Q.refl _) | (with_reducible apply Q.drew) | (with_reducible apply Q.drewN) | (with_reducible apply Q.alloc))) qk; have IK := hid ik; have k0 := (B4.out.q jk).c0; have k1 := (B4.out.q jk).c1; have k2 := (B4.out.q jk).c2; have k5 := (B4.out.q jk).c5; dsimp only at k0 k1 k2)
          | (go_at_call 23; refine (CU.out gk2 gi2 gh2 _ (by repeat (first | (with_reducible assumption) | (with_reducible exact Q.refl _) | (with_reducible apply Q.drew) | (with_reducible apply Q.drewN) | (with_reducible apply Q.alloc))) (IK.out.q (by repeat (first | (with_reducible assumption) | (with_reducible exact Q.refl _) | (with_reducible apply Q.drew) | (with_reducible apply Q.drewN) | (with_reducible apply Q.alloc))))).mono ?_; rintro e wu ⟨⟨ya, yn, yc⟩, rfl, qu, ru⟩; have ju : Q wt wu := Q.trans (by repeat (first | (with_reducible assumption) | (with_reducible exact Q.refl _) | (with_reducible apply Q.drew) | (with_reducible apply Q.drewN) | (with_reducible apply Q.alloc))) qu; have t0 := (B4.out.q ju).c0; have t1 := (B4.out.q ju).c1; have t2 := (B4.out.q ju).c2; have t5 := (B4.out.q ju).c5; dsimp only at t0 t1 t2))
      have Q5 := hid (Q4.out.trans ju)
      have J5 := hid ju
      have B5 := hid (B4.out.q ju)
      have R6 := hid (row_in ru HP.out.z)
      have hcv := ((row_cell (R3.out.q (J4.out.trans ju)) (j := 0) (x := v) (by rw [List.getElem?_set, if_pos rfl, if_pos (by omega)]))).1
      clear ru qu ju t0 t1 t2 t5 k0 k1 k2 k5 qk jk ik c0 c1 c2 c4 c5 c6 CK CU IK s1
      have c4 := B5.out.c4
      have c5 := B5.out.c5
      have c6 := B5.out.c6
      dsimp only at c4
      go_wp2_with fail
      refine (same_in (x := ⟨ya, yn, yc⟩) (y := ⟨pa, pn, pc⟩) R6.out (HP.out.q Q5.out) (by have h1 := R6.out.l; rw [HP.out.l] at h1; dsimp only at h1 ⊢; omega)).mono ?_
      rintro e wv ⟨rfl, qv⟩
      have Q6 := hid (Q5.out.trans qv)
      have hcv' := (qv.cell (p := ⟨g, 0, none⟩) (lt_of_cell hcv)).trans hcv
      have d4 := (B5.out.q qv).c4
      have d5 := (B5.out.q qv).c5
      have d6 := (B5.out.q qv).c6
      dsimp only at d4
      have hvv : (v == v) = true := by simp
      have hxl : ((xn : Int) == (dn : Int) + wd + (pn : Int) + 16) = true := by have := PL.out; simp; omega
      clear qv hcv c4 c5 c6
      go_wp2_with (go_at_call 16; refine (awake_any _).mono ?_; rintro e wz ⟨rfl, qz⟩)
      have Q7 := hid (Q6.out.trans qz)
      clear qz
      go_wp2
      go_ret
      exact ⟨by first | rfl | simp, Q7.out⟩
    · have hne : (E != 0) = true := by simp [hE]
      have hx0' : xn = 0 := by have h1 := R4.out; rw [if_neg hE] at h1; have := Row.len h1; exact this.symm
      subst hx0'
      go_wp2_with (go_at_call 16; refine (awake_any _).mono ?_; rintro e wz ⟨rfl, qz⟩)
      go_ret
      exact ⟨by first | rfl | simp, Q4.out.trans qz⟩

set_option maxRecDepth 100000 in
theorem lifted (os : Os) (started : os.Started) (H : Type) (enc : TypeId × Value → H) :
    ReturnsInHanded {} Try.checked os 6 .any (Rows.guardBackSpec.pre6 enc Try.prog Try.f6 Rows.guardBackRow.domain false) (Rows.guardBackSpec.post enc Try.prog Try.f6 false true false false) := by
  refine returnsInHanded_of_change_sized (C := Try.checked) own_knob started (by kernel_rfl) Try.func6
    (ChangeSpec.witness6 (enc := enc) (C := Try.checked) false ⟨#[], #[.agg #[.slice none 0 0, .slice none 0 0, .slice none 0 0, .slice none 0 0, .slice none 0 0, .int .i64 0, .int .i64 0]], []⟩ 8 (by kernel_rfl) (by kernel_rfl) (by kernel_rfl) (by kernel_rfl)) ?_
  intro W base args ds gs before hval0 hW hcnd hsz0 _
  have hval : ∀ (j : Nat) t v, Try.f6.params[j]? = some t → args[j]? = some v → Value.okWide Try.prog W .any base t v := hval0
  have hsz : (DataW.weightsEach Try.prog (Try.f6.params.toList ++ Rows.guardBackSpec.plain.varTypes Try.prog) (ds ++ gs)).all (· ≤ reachBytes) = true := hsz0
  have hW' := hW
  obtain ⟨p, q, hA0, hV, rfl, hfz, hnd⟩ := hW
  have hA : DataW.TrodAll enc Try.prog W 0 (fun _ => true) true Try.f6.params.toList args.toList ds p := hA0
  rw [Try.params6] at hA hval hsz
  obtain ⟨v0, vs0, d0, ds0, p0, q0, hargs, rfl, rfl, h0, r0⟩ := trodAll_cons hA
  obtain ⟨rfl, rfl, rfl⟩ := trodAll_nil r0
  obtain rfl : args = #[v0] := by cases args; simp_all
  obtain ⟨rfl, rfl⟩ := trodVars_none hV
  obtain ⟨cs0, rfl, hcs0⟩ := okWide_struct Try.underlying44 (hval 0 44 v0 rfl rfl)
  have k0 := h0
  have lt0 : ∀ x ∈ p0, x.block < W.heap.size := by obtain ⟨m, hm⟩ := k0; exact DataW.trod_lt m _ _ _ hm
  obtain ⟨kb0, ib0, hb0, db0, pb0, num0, wd0, kz0, iz0, hz0, dz0, pz0, rfl, hc0⟩ := open_packet h0 hcs0
  have ft0 := packet_fit hsz (j := 0) rfl rfl hc0
  clear hA0 hval0
  refine (walk kb0 ib0 hb0 db0 pb0 num0 wd0 kz0 iz0 hz0 dz0 pz0 W hc0.ck hc0.ch hc0.cp hc0.cw ft0.1 ft0.2.1 ft0.2.2.1 ft0.2.2.2.1 ft0.2.2.2.2).mono fun e W' ⟨he, bel⟩ => ?_
  subst he
  exact ⟨_, rfl, _, _, _, [], _, [], hW', trodAll_mk1 (shut_bool Try.underlying4 _), (trodAll_cons_mk (Below.trod laid_out (by kernel_rfl) (of_decide_eq_true (by kernel_rfl)) k0 bel lt0) trodAll_mk0), rfl, bel.frame _, fun h => by cases h⟩

theorem over : Rows.guardBackRow.holds Try.pinned (OpenSpec.ofChange Rows.guardBackSpec) :=
  OpenClaim.holds_of_wide 6 Try.f6 rfl rfl rfl rfl rfl rfl rfl ⟨rfl, rfl, rfl, rfl, rfl⟩ rfl rfl rfl rfl rfl (by kernel_rfl) Try.func6 (by kernel_rfl)
    (of_decide_eq_true (by kernel_rfl)) (by unfold Func.isWrapper; first | (rw [if_pos (by decide +kernel)]; kernel_rfl) | (rw [if_neg (by decide +kernel)]; exact ⟨rfl, rfl⟩))
    (fun os started H enc _ => lifted os started H enc)

end Go.Proofs.Ytihmlfpfpadfpaa.guardBack
namespace Go.Proofs.Ytihmlfpfpadfpaa

/-- The statement. -/
theorem guardBack_holds : Rows.GuardBackSaid := guardBack.over
#print axioms guardBack_holds
end Go.Proofs.Ytihmlfpfpadfpaa
